package ring_test

import (
	"go/ast"
	"go/parser"
	"go/token"
	"math"
	"math/rand"
	"path/filepath"
	"slices"
	"strings"
	"testing"

	"almery/api"
	"almery/ring"
)

// model is lists by the document's words alone: each one's nodes, the one that came last first.
type model struct {
	nodes int
	lists [][]int
}

func modelOf(nodes, lists int) *model { return &model{nodes: nodes, lists: make([][]int, lists)} }

// find is the list of a node, and its place there; -1 and -1 of one in none.
func (o *model) find(node int) (int, int) {
	for list, nodes := range o.lists {
		if at := slices.Index(nodes, node); at >= 0 {
			return list, at
		}
	}
	return -1, -1
}

func (o *model) push(list, node int) api.Errno {
	if list < 0 || list >= len(o.lists) || node < 0 || node >= o.nodes {
		return api.ErrArg
	}
	if of, _ := o.find(node); of >= 0 {
		return api.ErrThere
	}
	o.lists[list] = slices.Insert(o.lists[list], 0, node)
	return api.OK
}

func (o *model) drop(node int) api.Errno {
	if node < 0 || node >= o.nodes {
		return api.ErrArg
	}
	of, at := o.find(node)
	if of < 0 {
		return api.ErrNone
	}
	o.lists[of] = slices.Delete(o.lists[of], at, at+1)
	return api.OK
}

// wrong are numbers that name nothing, whatever there is.
var wrong = []int{math.MinInt, math.MinInt + 1, -1 << 32, -4097, -64, -2, -1, 4096, 4097, 1 << 31, 1 << 32, 1 << 62, math.MaxInt - 1, math.MaxInt}

// hold fails, unless all that l tells is what the model tells.
func hold(t *testing.T, what string, l *ring.Lists, o *model) {
	t.Helper()
	next, of := make([]int, o.nodes), make([]int, o.nodes)
	for node := range o.nodes {
		next[node], of[node] = -1, -1
	}
	for list, nodes := range o.lists {
		first, last := -1, -1
		if len(nodes) > 0 {
			first, last = nodes[0], nodes[len(nodes)-1]
		}
		if l.First(list) != first || l.Last(list) != last || l.Len(list) != len(nodes) {
			t.Fatalf("%s: list %d: First %d, Last %d, Len %d, not %d, %d, %d", what, list, l.First(list), l.Last(list), l.Len(list), first, last, len(nodes))
		}
		for at, node := range nodes {
			of[node] = list
			if at+1 < len(nodes) {
				next[node] = nodes[at+1]
			}
		}
	}
	for node := range o.nodes {
		if l.Next(node) != next[node] || l.Of(node) != of[node] {
			t.Fatalf("%s: node %d: Next %d, Of %d, not %d, %d", what, node, l.Next(node), l.Of(node), next[node], of[node])
		}
	}
	for _, no := range append([]int{o.nodes}, wrong...) {
		if l.Next(no) != -1 || l.Of(no) != -1 {
			t.Fatalf("%s: no node %d: Next %d, Of %d", what, no, l.Next(no), l.Of(no))
		}
	}
	for _, no := range append([]int{len(o.lists)}, wrong...) {
		if l.First(no) != -1 || l.Last(no) != -1 || l.Len(no) != 0 {
			t.Fatalf("%s: no list %d: First %d, Last %d, Len %d", what, no, l.First(no), l.Last(no), l.Len(no))
		}
	}
}

func made(t *testing.T, nodes, lists int) (*ring.Lists, *model) {
	t.Helper()
	l, err := ring.New(nodes, lists)
	if err != api.OK || l == nil {
		t.Fatalf("New(%d, %d): %v", nodes, lists, err)
	}
	return l, modelOf(nodes, lists)
}

// push and drop do the call to both, and hold one against the other.
func push(t *testing.T, l *ring.Lists, o *model, list, node int) {
	t.Helper()
	if got, want := l.Push(list, node), o.push(list, node); got != want {
		t.Fatalf("Push(%d, %d): %v, not %v", list, node, got, want)
	}
}

func drop(t *testing.T, l *ring.Lists, o *model, node int) {
	t.Helper()
	if got, want := l.Drop(node), o.drop(node); got != want {
		t.Fatalf("Drop(%d): %v, not %v", node, got, want)
	}
}

func TestExample(t *testing.T) {
	l, _ := made(t, 6, 1)
	if l.Push(0, 3) != api.OK || l.Push(0, 5) != api.OK {
		t.Fatal("not pushed")
	}
	if l.First(0) != 5 || l.Last(0) != 3 {
		t.Errorf("First %d, Last %d", l.First(0), l.Last(0))
	}
}

// TestNew is P7.1: what may be, and what may not; lists without nodes, and nodes in no list, from 0 on.
func TestNew(t *testing.T) {
	numbers := append([]int{0, 1, 2, 3, 63, 64, 65, 66, 100, 1000, 4094, 4095}, wrong...)
	for _, nodes := range numbers {
		for _, lists := range numbers {
			l, err := ring.New(nodes, lists)
			if nodes < 1 || nodes > 4096 || lists < 1 || lists > 64 {
				if l != nil || err != api.ErrArg {
					t.Errorf("New(%d, %d): %v, not ErrArg", nodes, lists, err)
				}
				continue
			}
			if l == nil || err != api.OK {
				t.Errorf("New(%d, %d): %v, not OK", nodes, lists, err)
				continue
			}
			o := modelOf(nodes, lists)
			hold(t, "new", l, o)
			push(t, l, o, lists-1, nodes-1)
			push(t, l, o, lists-1, 0)
			push(t, l, o, lists, 0)
			push(t, l, o, 0, nodes)
			drop(t, l, o, nodes)
			hold(t, "the edges pushed", l, o)
		}
	}
}

// TestOwn is R4: two Lists have nothing in common.
func TestOwn(t *testing.T) {
	a, of := made(t, 4, 2)
	b, other := made(t, 4, 2)
	push(t, a, of, 1, 2)
	hold(t, "the other one", b, other)
	push(t, b, other, 0, 2)
	drop(t, a, of, 2)
	hold(t, "the one", a, of)
	hold(t, "the other one, then", b, other)
}

// TestErrors is P7.2: which error, in which order, and that nothing is changed by one.
func TestErrors(t *testing.T) {
	l, o := made(t, 5, 2)
	for _, node := range []int{4, 0, 2} {
		push(t, l, o, 0, node)
	}
	push(t, l, o, 1, 3)
	refused := func(what string, got, want api.Errno) {
		t.Helper()
		if got != want {
			t.Errorf("%s: %v, not %v", what, got, want)
		}
		hold(t, what, l, o)
	}
	for _, no := range append([]int{5}, wrong...) {
		refused("Push of no node", l.Push(0, no), api.ErrArg)
		refused("Drop of no node", l.Drop(no), api.ErrArg)
	}
	for _, no := range append([]int{2}, wrong...) {
		refused("Push to no list", l.Push(no, 1), api.ErrArg)
		refused("Push to no list, of a node in one", l.Push(no, 0), api.ErrArg)
		refused("Push to no list, of no node", l.Push(no, no), api.ErrArg)
	}
	for _, node := range []int{4, 0, 2, 3} {
		refused("Push to a list, of a node in one", l.Push(0, node), api.ErrThere)
		refused("Push to another list, of a node in one", l.Push(1, node), api.ErrThere)
	}
	refused("Drop of a node in none", l.Drop(1), api.ErrNone)
	drop(t, l, o, 0)
	refused("Drop of a node that is dropped", l.Drop(0), api.ErrNone)
}

// TestEach is P7.2 and P7.3: the node at each place of lists of each length is dropped, and comes again, to the same list or to another one.
func TestEach(t *testing.T) {
	for length := 1; length <= 6; length++ {
		for node := range length {
			for to := range 3 {
				l, o := made(t, 8, 3)
				for n := range length {
					push(t, l, o, 1, n)
				}
				push(t, l, o, 2, 7)
				hold(t, "pushed", l, o)
				drop(t, l, o, node)
				hold(t, "dropped", l, o)
				push(t, l, o, to, node)
				hold(t, "pushed again", l, o)
				push(t, l, o, 1, 6)
				hold(t, "one more pushed", l, o)
			}
		}
	}
}

// TestTurns is P7.3: whatever the turn in which the nodes go, the others stand as before.
func TestTurns(t *testing.T) {
	turns := [][]int{{}}
	for n := range 5 {
		var longer [][]int
		for _, turn := range turns {
			for at := range len(turn) + 1 {
				longer = append(longer, slices.Insert(slices.Clone(turn), at, n))
			}
		}
		turns = longer
	}
	for _, turn := range turns {
		l, o := made(t, 5, 1)
		for n := range 5 {
			push(t, l, o, 0, n)
		}
		for _, n := range turn {
			drop(t, l, o, n)
			hold(t, "dropped", l, o)
		}
	}
}

// TestNil is P7.3 of Lists that are nil, and of some that New didn't make, which have neither lists nor nodes.
func TestNil(t *testing.T) {
	for _, l := range []*ring.Lists{nil, new(ring.Lists)} {
		for _, at := range append([]int{0, 1, 63, 64}, wrong...) {
			for _, node := range append([]int{0, 1}, wrong...) {
				if err := l.Push(at, node); err != api.ErrArg {
					t.Errorf("Push(%d, %d): %v", at, node, err)
				}
			}
			if err := l.Drop(at); err != api.ErrArg {
				t.Errorf("Drop(%d): %v", at, err)
			}
			if l.First(at) != -1 || l.Last(at) != -1 || l.Next(at) != -1 || l.Of(at) != -1 || l.Len(at) != 0 {
				t.Errorf("of %d: %d, %d, %d, %d, %d", at, l.First(at), l.Last(at), l.Next(at), l.Of(at), l.Len(at))
			}
		}
	}
}

// TestByWords is P7.2 to P7.4: after any calls all is told as the words have it.
func TestByWords(t *testing.T) {
	r := rand.New(rand.NewSource(7))
	for range 300 {
		nodes, lists := 1+r.Intn(12), 1+r.Intn(4)
		l, o := made(t, nodes, lists)
		for range 200 {
			if r.Intn(2) == 0 {
				push(t, l, o, r.Intn(lists+2)-1, r.Intn(nodes+2)-1)
			} else {
				drop(t, l, o, r.Intn(nodes+2)-1)
			}
			hold(t, "by chance", l, o)
		}
	}
}

// TestWalk is P7.4 at the greatest lists: Next comes to all nodes once, the one that came last first, up to Last.
func TestWalk(t *testing.T) {
	l, o := made(t, 4096, 64)
	for node := range 4096 {
		push(t, l, o, 63, node)
	}
	hold(t, "all in one list", l, o)
	at := l.First(63)
	for want := 4095; want >= 0; want-- {
		if at != want {
			t.Fatalf("%d, not %d", at, want)
		}
		if (at == l.Last(63)) != (want == 0) {
			t.Fatalf("Last %d, at %d", l.Last(63), at)
		}
		at = l.Next(at)
	}
	if at != -1 {
		t.Errorf("%d behind the last one", at)
	}
	for node := 0; node < 4096; node += 2 {
		drop(t, l, o, node)
		push(t, l, o, node%64, node)
	}
	hold(t, "every other one elsewhere", l, o)
}

// bodies are the package's functions by name: no two of them, methods or not, share one.
func bodies(t *testing.T) map[string]*ast.FuncDecl {
	t.Helper()
	found := map[string]*ast.FuncDecl{}
	files, err := filepath.Glob("*.go")
	if err != nil {
		t.Fatal(err)
	}
	for _, name := range files {
		if strings.HasSuffix(name, "_test.go") {
			continue
		}
		file, err := parser.ParseFile(token.NewFileSet(), name, nil, 0)
		if err != nil {
			t.Fatal(err)
		}
		for _, i := range file.Imports {
			if i.Path.Value != `"almery/api"` {
				t.Errorf("%s imports %s, that could go through a list", name, i.Path.Value)
			}
		}
		for _, d := range file.Decls {
			if f, ok := d.(*ast.FuncDecl); ok {
				if found[f.Name.Name] != nil {
					t.Fatalf("two functions %s", f.Name.Name)
				}
				found[f.Name.Name] = f
			}
		}
	}
	return found
}

// TestConstant is P7.4: no call goes through a list. What takes the same steps whatever the length is told by the text: no loop and no jump, and nothing that calls itself, but in New, which has no list to go through yet.
func TestConstant(t *testing.T) {
	found := bodies(t)
	for _, name := range []string{"Push", "Drop", "First", "Last", "Next", "Of", "Len"} {
		if found[name] == nil {
			t.Fatalf("no function %s", name)
		}
		under := map[string]bool{}
		var look func(name string)
		look = func(name string) {
			if under[name] {
				t.Errorf("%s comes to be called by itself", name)
				return
			}
			under[name] = true
			ast.Inspect(found[name].Body, func(n ast.Node) bool {
				switch x := n.(type) {
				case *ast.ForStmt, *ast.RangeStmt, *ast.LabeledStmt, *ast.FuncLit:
					t.Errorf("%s has what could go through a list", name)
				case *ast.CallExpr:
					called := ""
					switch f := x.Fun.(type) {
					case *ast.Ident:
						called = f.Name
					case *ast.SelectorExpr:
						called = f.Sel.Name
					}
					if called == "copy" || called == "append" || called == "clear" {
						t.Errorf("%s calls %s", name, called)
					}
					if found[called] != nil {
						look(called)
					}
				}
				return true
			})
			delete(under, name)
		}
		look(name)
	}
}
