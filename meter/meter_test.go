package meter_test

import (
	"math"
	"math/big"
	"math/rand"
	"testing"

	"almery/api"
	"almery/meter"
)

// bounded is P5.1's Total of a sum that is told of whole numbers: the sum, or MaxTotal, if there were more.
func bounded(sum *big.Int) int {
	if most := big.NewInt(api.MaxTotal); sum.Cmp(most) > 0 {
		return api.MaxTotal
	}
	return int(sum.Int64())
}

// model counts by the words of P5.1, in numbers of any length.
type model struct {
	sum  *big.Int
	last int
}

func newModel() *model { return &model{sum: new(big.Int)} }

func (o *model) charge(n int) {
	if n >= 1 {
		o.sum.Add(o.sum, big.NewInt(int64(n)))
	}
}

func (o *model) total() int { return bounded(o.sum) }

func (o *model) lap() int {
	lap := o.total() - o.last
	o.last = o.total()
	return lap
}

func charged(l ...int) *meter.Meter {
	m := meter.New()
	for _, n := range l {
		m.Charge(n)
	}
	return m
}

func TestExample(t *testing.T) {
	if got := charged(3, 4).Total(); got != 7 {
		t.Errorf("charged 3 and 4: %d, not 7", got)
	}
}

// TestNew is P5.1 at first: nothing was counted, and a lap is of nothing; and each meter is one of its own.
func TestNew(t *testing.T) {
	m := meter.New()
	if m == nil {
		t.Fatal("New is nil")
	}
	if m.Total() != 0 || m.Lap() != 0 || m.Total() != 0 {
		t.Errorf("a new one is at %d", m.Total())
	}
	other := meter.New()
	m.Charge(5)
	if other.Total() != 0 || other.Lap() != 0 {
		t.Errorf("what one was charged another one counts: %d", other.Total())
	}
	if m.Total() != 5 || m.Lap() != 5 {
		t.Errorf("charged 5: %d", m.Total())
	}
}

// TestTotal is P5.1's Charge and Total, at numbers below 1 and around the limit.
func TestTotal(t *testing.T) {
	const most = api.MaxTotal
	if most != 1<<62 {
		t.Fatalf("MaxTotal is %d", most)
	}
	for _, c := range []struct {
		charge []int
		want   int
	}{
		{nil, 0},
		{[]int{1}, 1}, {[]int{1, 1, 1}, 3}, {[]int{2, 3, 5}, 10},
		{[]int{0}, 0}, {[]int{-1}, 0}, {[]int{math.MinInt}, 0}, {[]int{5, 0, -5, -1, math.MinInt, 2}, 7}, {[]int{-7, 3}, 3},
		{[]int{most - 1}, most - 1}, {[]int{most}, most}, {[]int{most + 1}, most}, {[]int{math.MaxInt}, most},
		{[]int{most - 1, 1}, most}, {[]int{most - 1, 2}, most}, {[]int{1, most - 1}, most}, {[]int{1, most}, most}, {[]int{2, most - 3}, most - 1},
		{[]int{most, 1}, most}, {[]int{most, most}, most}, {[]int{most, most, most, most}, most},
		{[]int{1, math.MaxInt}, most}, {[]int{math.MaxInt, 1}, most}, {[]int{math.MaxInt, math.MaxInt}, most}, {[]int{math.MaxInt, math.MaxInt, 2}, most},
		{[]int{most, -1}, most}, {[]int{most, math.MinInt}, most}, {[]int{math.MaxInt, 0, -most}, most}, {[]int{most - 1, -1, math.MinInt}, most - 1},
	} {
		m := charged(c.charge...)
		if got := m.Total(); got != c.want {
			t.Errorf("charged %v: total %d, not %d", c.charge, got, c.want)
		}
		if got := m.Total(); got != c.want {
			t.Errorf("charged %v: total asked once more %d, not %d", c.charge, got, c.want)
		}
		if got := m.Lap(); got != c.want {
			t.Errorf("charged %v: first lap %d, not %d", c.charge, got, c.want)
		}
		if m.Lap() != 0 || m.Total() != c.want {
			t.Errorf("charged %v: after a lap another one isn't 0, or the total %d not %d", c.charge, m.Total(), c.want)
		}
	}
}

// TestLap is P5.1's Lap: Total less what it was at the last Lap, whether Total was asked between or not.
func TestLap(t *testing.T) {
	m := meter.New()
	for _, c := range []struct {
		charge     []int
		lap, total int
	}{
		{nil, 0, 0}, {[]int{3, 4}, 7, 7}, {nil, 0, 7}, {[]int{0, -2}, 0, 7}, {[]int{1}, 1, 8}, {[]int{2, -9, 2}, 4, 12},
		{[]int{api.MaxTotal - 13}, api.MaxTotal - 13, api.MaxTotal - 1}, {[]int{math.MaxInt}, 1, api.MaxTotal}, {[]int{9}, 0, api.MaxTotal}, {[]int{math.MinInt}, 0, api.MaxTotal},
	} {
		for _, n := range c.charge {
			before := m.Total()
			m.Charge(n)
			if m.Total() < before {
				t.Errorf("charged %d: total %d, was %d", n, m.Total(), before)
			}
		}
		if got := m.Lap(); got != c.lap {
			t.Errorf("charged %v: lap %d, not %d", c.charge, got, c.lap)
		}
		if got := m.Total(); got != c.total {
			t.Errorf("charged %v: total %d, not %d", c.charge, got, c.total)
		}
	}
}

// TestNil is P5.2: of a Meter that is nil nothing is counted.
func TestNil(t *testing.T) {
	var m *meter.Meter
	for _, n := range []int{5, 0, -1, 1, math.MinInt, math.MaxInt, api.MaxTotal} {
		m.Charge(n)
		if m.Total() != 0 || m.Lap() != 0 {
			t.Errorf("nil, charged %d: total %d, lap %d", n, m.Total(), m.Lap())
		}
	}
}

// pick is a number of steps: small, below 1, or at the limit.
func pick(r *rand.Rand, total int) int {
	switch r.Intn(12) {
	case 0:
		return -r.Intn(5)
	case 1:
		return api.MaxTotal - total + r.Intn(5) - 2
	case 2:
		return []int{math.MinInt, math.MaxInt, api.MaxTotal, -api.MaxTotal, api.MaxTotal / 2, api.MaxTotal/3 + 1}[r.Intn(6)]
	case 3:
		return int(r.Uint64() >> r.Intn(64))
	}
	return r.Intn(100)
}

// TestByWords holds some meters that take turns against P5.1's words, and is P5.3: the laps together are the total at the last one.
func TestByWords(t *testing.T) {
	r := rand.New(rand.NewSource(5))
	for range 2000 {
		meters := []*meter.Meter{meter.New(), meter.New(), meter.New()}
		models := []*model{newModel(), newModel(), newModel()}
		laps := make([]int, len(meters))
		for range 40 {
			i := r.Intn(len(meters))
			m, o := meters[i], models[i]
			switch r.Intn(4) {
			case 0:
				if got, want := m.Total(), o.total(); got != want {
					t.Fatalf("total %d, not %d", got, want)
				}
			case 1:
				got, want := m.Lap(), o.lap()
				if got != want {
					t.Fatalf("lap %d, not %d", got, want)
				}
				laps[i] += got
				if laps[i] != m.Total() {
					t.Fatalf("laps together %d, total at the last one %d", laps[i], m.Total())
				}
			default:
				n := pick(r, o.total())
				m.Charge(n)
				o.charge(n)
			}
		}
		for i, m := range meters {
			if got, want := m.Total(), models[i].total(); got != want {
				t.Fatalf("total %d, not %d", got, want)
			}
		}
	}
}
