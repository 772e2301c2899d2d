// Package unit is layer 1: see shared/doc/01-unit.md.
package unit

import "math"

// Many is how many parts of a size a number needs, Up the multiple of a size that holds it, Spare what is left of that; Whole is how many parts go into a number.
func Many(n, by int) int {
	if wrong := wrongOf(n, by); wrong() {
		return 0
	}
	_, many := count(n, by)
	return many
}

func Up(n, by int) int {
	if wrong := wrongOf(n, by); wrong() {
		return 0
	}
	// The product is below n and by together, so it may leave int, but never uint64.
	_, many := count(uint64(n), uint64(by))
	product := many * uint64(by)
	if product > math.MaxInt {
		return 0
	}
	return int(product)
}

func Spare(n, by int) int {
	up := Up(n, by)
	if up == 0 {
		return 0
	}
	return up - n
}

func Whole(n, by int) int {
	if wrong := wrongOf(n, by); wrong() {
		return 0
	}
	whole, _ := count(n, by)
	return whole
}

// wrongOf answers a closure, so that what is wrong with a number and a size is said in one place for all who count.
func wrongOf(n, by int) func() bool {
	return func() bool { return n < 1 || by < 1 }
}

// count tells how many parts go into n, and how many hold it, for ints and for the wider numbers that a product needs. The rest is looked at, as the usual n+by-1 could go round.
func count[T int | uint64](n, by T) (whole, many T) {
	whole = n / by
	many = whole
	if n%by != 0 {
		many++
	}
	return whole, many
}
