package unfold_test

import (
	"bytes"
	"fmt"
	"math/rand"
	"slices"
	"strings"
	"testing"

	"unfold/api"
	"unfold/unfold"
)

// stop names an op of a function by two letters. Behind one another they are a
// way: Calls, the outermost first, and the op to which they lead.
func stop(fn, op int) string {
	return string([]byte{byte('a' + fn), byte('a' + op)})
}

// stopOf is the function and the op at the end of a way.
func stopOf(way string) (int, int) {
	n := len(way)
	return int(way[n-2] - 'a'), int(way[n-1] - 'a')
}

// passes tells whether a way leads through a function.
func passes(way string, fn int) bool {
	for k := 0; k < len(way); k += 2 {
		if int(way[k]-'a') == fn {
			return true
		}
	}
	return false
}

// toldWays lists the places of the body of fn that stands behind some Calls, as
// P11 says, each by its way; no more than it takes to know that they are too many.
func toldWays(p api.Program, budget, fn int, calls string) []string {
	var l []string
	for at, o := range p.Funcs[fn].Body {
		way := calls + stop(fn, at)
		l = append(l, way)
		if o.Code == api.Call && len(p.Funcs[o.B].Body) <= budget && !passes(way, o.B) {
			l = append(l, toldWays(p, budget, o.B, way)...)
		}
		if len(l) > 1000 {
			break
		}
	}
	return l
}

// toldCodes are the codes of a program, function by function; false, if they are too many places.
func toldCodes(p api.Program, budget int) ([][]string, bool) {
	var l [][]string
	all := 0
	for fn := range p.Funcs {
		l = append(l, toldWays(p, budget, fn, ""))
		all += len(l[fn])
	}
	return l, all <= 1000
}

// toldBuild is the image that P11 tells, made out of codes: an instance is what
// the same Calls lead to.
func toldBuild(p api.Program, codes [][]string) api.Image {
	var i api.Image
	for k, ways := range codes {
		var lines, instances []int
		var tree []api.Node
		begun := map[string]int{"": 0}
		for _, way := range ways {
			fn, at := stopOf(way)
			calls := way[:len(way)-2]
			if _, old := begun[calls]; !old {
				begun[calls] = len(begun)
				tree = append(tree, api.Node{Func: fn, Pc: slices.Index(ways, calls)})
			}
			lines = append(lines, p.Funcs[fn].Body[at].Line)
			instances = append(instances, begun[calls])
		}
		f := p.Funcs[k]
		i.Funcs = append(i.Funcs, api.Entry{Name: f.Name, File: f.File, Lines: folded(lines...), Index: folded(instances...), Tree: tree})
	}
	return i
}

// builds fails if Build does not give the bytes of an image.
func builds(t *testing.T, what string, p api.Program, budget int, i api.Image) {
	t.Helper()
	want := toldImageBytes(i)
	if b, e := unfold.Build(p, budget); e != api.OK || !bytes.Equal(b, want) {
		t.Errorf("%s: Build(.., %d) = %v, %d, want %v", what, budget, b, e, want)
	}
}

// buildsAsTold fails if Build does not answer as P11 says; it tells whether there is a code.
func buildsAsTold(t *testing.T, p api.Program, budget int) bool {
	t.Helper()
	codes, fits := toldCodes(p, budget)
	if fits {
		builds(t, fmt.Sprintf("%+v", p), p, budget, toldBuild(p, codes))
	} else if b, e := unfold.Build(p, budget); e != api.ErrSize || len(b) != 0 {
		t.Errorf("Build(%+v, %d) = %v, %d, want ErrSize", p, budget, b, e)
	}
	if t.Failed() {
		t.FailNow()
	}
	return fits
}

// whole is a program whose functions have no ops but Calls of some functions, and a
// Ret, on lines of their own.
func whole(calls ...[]int) api.Program {
	p := named(len(calls))
	for k, l := range calls {
		p.Funcs[k].Body = nil
		for at, fn := range l {
			p.Funcs[k].Body = append(p.Funcs[k].Body, call(10*k+at+1, 0, fn))
		}
		p.Funcs[k].Body = append(p.Funcs[k].Body, ret(10*k+len(l)+1, 0))
	}
	return p
}

// entry is one of an image of whole: its lines and instances place by place.
func entry(fn int, lines, instances []int, tree ...int) api.Entry {
	return api.Entry{Name: fmt.Sprint("f", fn), File: "f", Lines: folded(lines...), Index: folded(instances...), Tree: nodes(tree...)}
}

func TestP11Example(t *testing.T) {
	none := smallImage()
	none.Funcs[1].Lines, none.Funcs[1].Index, none.Funcs[1].Tree = spans(7, 1, 8, 1, 9, 1), spans(0, 3), nil
	all := smallImage()
	all.Funcs[0].Lines, all.Funcs[0].Index, all.Funcs[0].Tree = spans(3, 1, 7, 1, 8, 1, 12, 1, 13, 1, 9, 1, 4, 1), spans(0, 1, 1, 2, 2, 2, 1, 1, 0, 1), nodes(1, 0, 2, 2)
	for budget := range 31 {
		want := all
		if budget < 2 {
			want = none
		} else if budget == 2 {
			want = smallImage()
		}
		builds(t, "the small program", small(), budget, want)
	}
	if b, e := unfold.Build(small(), 2); e != api.OK || !bytes.Equal(b, smallBytes()) {
		t.Errorf("Build(small, 2) = %v, %d, want %v", b, e, smallBytes())
	}
}

// A function with as many ops as the budget says is inlined, one with more is not.
func TestP11Budget(t *testing.T) {
	for ops := 1; ops <= 30; ops++ {
		p := whole([]int{1}, nil)
		p.Funcs[1].Body = rets(ops)
		apart := api.Image{Funcs: []api.Entry{entry(0, []int{1, 2}, []int{0, 0}), entry(1, slices.Repeat([]int{1}, ops), make([]int, ops))}}
		in := copied(apart)
		in.Funcs[0] = entry(0, slices.Concat(slices.Repeat([]int{1}, ops+1), []int{2}), slices.Concat([]int{0}, slices.Repeat([]int{1}, ops), []int{0}), 1, 0)
		for budget := range 31 {
			want := apart
			if ops <= budget {
				want = in
			}
			builds(t, fmt.Sprint(ops, " ops"), p, budget, want)
		}
	}
}

func TestP11Itself(t *testing.T) {
	builds(t, "a function that calls itself", whole([]int{0, 0}), 30, api.Image{Funcs: []api.Entry{entry(0, []int{1, 2, 3}, []int{0, 0, 0})}})
	// Into another one it is inlined, but there not into itself.
	builds(t, "a Call of a function that calls itself", whole([]int{1}, []int{1}), 30, api.Image{Funcs: []api.Entry{
		entry(0, []int{1, 11, 12, 2}, []int{0, 1, 1, 0}, 1, 0),
		entry(1, []int{11, 12}, []int{0, 0}),
	}})
	builds(t, "two functions that call each other", whole([]int{1}, []int{0}), 30, api.Image{Funcs: []api.Entry{
		entry(0, []int{1, 11, 12, 2}, []int{0, 1, 1, 0}, 1, 0),
		entry(1, []int{11, 1, 2, 12}, []int{0, 1, 1, 0}, 0, 0),
	}})
	// Function 0 is around the instance of 2 by way of that of 1, and so is not inlined there.
	builds(t, "three functions in a ring", whole([]int{1}, []int{2}, []int{0}), 30, api.Image{Funcs: []api.Entry{
		entry(0, []int{1, 11, 21, 22, 12, 2}, []int{0, 1, 2, 2, 1, 0}, 1, 0, 2, 1),
		entry(1, []int{11, 21, 1, 2, 22, 12}, []int{0, 1, 2, 2, 1, 0}, 2, 0, 0, 1),
		entry(2, []int{21, 1, 11, 12, 2, 22}, []int{0, 1, 2, 2, 1, 0}, 0, 0, 1, 1),
	}})
}

// Instances are numbered as they begin; one that has ended is around nothing more.
func TestP11Instances(t *testing.T) {
	builds(t, "one function in two Calls", whole([]int{1, 1}, nil), 30, api.Image{Funcs: []api.Entry{
		entry(0, []int{1, 11, 2, 11, 3}, []int{0, 1, 0, 2, 0}, 1, 0, 1, 2),
		entry(1, []int{11}, []int{0}),
	}})
	builds(t, "a function in another, and behind it", whole([]int{1, 2}, []int{2}, nil), 30, api.Image{Funcs: []api.Entry{
		entry(0, []int{1, 11, 21, 12, 2, 21, 3}, []int{0, 1, 2, 1, 0, 3, 0}, 1, 0, 2, 1, 2, 4),
		entry(1, []int{11, 21, 12}, []int{0, 1, 0}, 2, 0),
		entry(2, []int{21}, []int{0}),
	}})
	// What the one around it is too great for, the inner one need not be.
	builds(t, "a small function in a great one", whole([]int{1}, []int{2, 2}, nil), 2, api.Image{Funcs: []api.Entry{
		entry(0, []int{1, 2}, []int{0, 0}),
		entry(1, []int{11, 21, 12, 21, 13}, []int{0, 1, 0, 2, 0}, 2, 0, 2, 2),
		entry(2, []int{21}, []int{0}),
	}})
}

// A Call that no run comes to is inlined like the others; an op that is none is not,
// whatever its B and Args say.
func TestP11AllCallsAlone(t *testing.T) {
	p := whole([]int{1}, nil)
	p.Funcs[0].Body = []api.Op{ret(5, 0), call(6, 0, 1), {Code: api.Set, Line: 7, B: 1, Args: []int{1}}, op(api.Jump, 8, 0, 1, 0), {Code: api.Ret, Line: 9, B: 1}}
	builds(t, "a Call behind a Ret", p, 30, api.Image{Funcs: []api.Entry{
		entry(0, []int{5, 6, 11, 7, 8, 9}, []int{0, 0, 1, 0, 0, 0}, 1, 1),
		entry(1, []int{11}, []int{0}),
	}})
}

// ring is a program of 12 functions, each of which calls the next one, and the last one the first.
func ring() api.Program {
	var calls [][]int
	for k := range 12 {
		calls = append(calls, []int{(k + 1) % 12})
	}
	return whole(calls...)
}

// As many instances in one another as there are functions.
func TestP11Deep(t *testing.T) {
	var i api.Image
	for k := range 12 {
		lines, instances := make([]int, 24), make([]int, 24)
		var tree []int
		for n := range 12 {
			lines[n], lines[23-n] = (k+n)%12*10+1, (k+n)%12*10+2
			instances[n], instances[23-n] = n, n
			if n > 0 {
				tree = append(tree, (k+n)%12, n-1)
			}
		}
		i.Funcs = append(i.Funcs, entry(k, lines, instances, tree...))
	}
	builds(t, "twelve functions in a ring", ring(), 2, i)
}

// filled is a program of a function that calls another one a times, which calls a
// third one b times, that has c ops; and of functions of Rets alone, behind them or
// ahead of them, so that there are n places in all. False, if it can't be.
func filled(a, b, c, n int, ahead bool) (api.Program, bool) {
	inner := 1 + b + b*c
	left := n - (c + a + 1 + (a+1)*inner)
	var more []api.Func
	for left > 0 && len(more) < 9 {
		ops := min(left, 30)
		more = append(more, api.Func{Name: fmt.Sprint("more", len(more)), File: "m", Locals: 1, Body: rets(ops)})
		left -= ops
	}
	first := 0
	if ahead {
		first = len(more)
	}
	own := named(3).Funcs
	own[0].Body = append(slices.Repeat([]api.Op{call(1, 0, first+1)}, a), ret(2, 0))
	own[1].Body = append(slices.Repeat([]api.Op{call(3, 0, first+2)}, b), ret(4, 0))
	own[2].Body = rets(c)
	if ahead {
		return api.Program{Funcs: append(more, own...)}, left == 0
	}
	return api.Program{Funcs: append(own, more...)}, left == 0
}

// sizeIs fails if one of the three calls does not tell the error.
func sizeIs(t *testing.T, what string, p api.Program, budget int, want api.Errno) {
	t.Helper()
	b, e := unfold.Build(p, budget)
	if e != want || (len(b) == 0) != (e != api.OK) {
		t.Fatalf("%s: Build(%+v, %d) = %v, %d, want %d", what, p, budget, b, e, want)
	}
	m, e := unfold.New(p, budget, nil)
	if e != want || (m == nil) != (e != api.OK) {
		t.Fatalf("%s: New(%+v, %d): %d, want %d", what, p, budget, e, want)
	}
	s, e := unfold.Trace(p, budget, nil, 0)
	if e != want || (s == "") != (e != api.OK) {
		t.Fatalf("%s: Trace(%+v, %d) = %q, %d, want %d", what, p, budget, s, e, want)
	}
}

func TestP11Size(t *testing.T) {
	tried := 0
	for a := range 30 {
		for b := range 30 {
			for c := 1 + (a+b)%4; c <= 30; c += 4 {
				for _, ahead := range []bool{false, true} {
					most, ok := filled(a, b, c, 1000, ahead)
					over, okOver := filled(a, b, c, 1001, ahead)
					if !ok || !okOver || len(most.Funcs) != len(over.Funcs) {
						continue
					}
					tried++
					sizeIs(t, "1000 places", most, 30, api.OK)
					sizeIs(t, "1001 places", over, 30, api.ErrSize)
					sizeIs(t, "few places", over, 0, api.OK)
				}
			}
		}
	}
	if tried < 500 {
		t.Errorf("%d programs were tried", tried)
	}
}

// Codes that could not be made at all: each function calls each other one, as often as it can.
func TestP11FarTooMuch(t *testing.T) {
	var calls [][]int
	for k := range 12 {
		var l []int
		for n := range 29 {
			l = append(l, (k+1+n%11)%12)
		}
		calls = append(calls, l)
	}
	sizeIs(t, "far too many places", whole(calls...), 30, api.ErrSize)
	sizeIs(t, "the most ops", whole(calls...), 29, api.OK)
}

// tooMuch has by the budget 30 more places than there may be.
func tooMuch() api.Program {
	return whole(slices.Repeat([]int{1}, 29), slices.Repeat([]int{2}, 29), slices.Repeat([]int{2}, 29))
}

func TestP11Wrong(t *testing.T) {
	head, ops, big := wrongHead(), wrongOp(), tooMuch()
	for _, c := range []struct {
		what   string
		p      api.Program
		budget int
		e      api.Errno
	}{
		{"budget -1", small(), -1, api.ErrArg},
		{"budget 31", small(), 31, api.ErrArg},
		{"the greatest budget", small(), most, api.ErrArg},
		{"the least budget", small(), least, api.ErrArg},
		{"no functions", api.Program{}, 0, api.ErrFuncs},
		{"no functions, budget -1", api.Program{}, -1, api.ErrFuncs},
		{"13 functions", named(13), 0, api.ErrFuncs},
		{"a head", head, 30, api.ErrHead},
		{"a head, budget 31", head, 31, api.ErrHead},
		{"an op", ops, 30, api.ErrOp},
		{"an op, budget 31", ops, 31, api.ErrOp},
		{"too much", big, 30, api.ErrSize},
		{"too much, budget 31", big, 31, api.ErrArg},
	} {
		if b, e := unfold.Build(c.p, c.budget); e != c.e || len(b) != 0 {
			t.Errorf("%s: Build = %v, %d, want %d", c.what, b, e, c.e)
		}
	}
	big.Funcs[2].Body[28].Line = 0
	if b, e := unfold.Build(big, 30); e != api.ErrOp || len(b) != 0 {
		t.Errorf("too much, and an op: Build = %v, %d", b, e)
	}
}

// The names and files stand in the image as in the program, each file once.
func TestP11NamesAndFiles(t *testing.T) {
	p := whole(nil, nil, nil, nil, nil)
	for k, file := range []string{"x", strings.Repeat("y", 20), "x", "z/0.", strings.Repeat("y", 20)} {
		p.Funcs[k].File = file
		p.Funcs[k].Name = strings.Repeat(fmt.Sprint(k), 20)
	}
	buildsAsTold(t, p, 7)
}

// brief calls f with every program of n functions that have at most some ops each:
// Calls and Sets in any order, and one Ret at the end.
func brief(n, ops int, f func(p api.Program)) {
	var bodies [][]api.Op
	var more func(head []api.Op)
	more = func(head []api.Op) {
		bodies = append(bodies, append(slices.Clone(head), ret(1, 0)))
		if len(head)+1 == ops {
			return
		}
		more(append(slices.Clone(head), op(api.Set, 1, 0, 1, 0)))
		for fn := range n {
			more(append(slices.Clone(head), call(1, 0, fn)))
		}
	}
	more(nil)
	choice := make([]int, n)
	for {
		p := named(n)
		for k, c := range choice {
			p.Funcs[k].Body = bodies[c]
		}
		f(lined(p))
		k := 0
		for k < n && choice[k] == len(bodies)-1 {
			choice[k] = 0
			k++
		}
		if k == n {
			return
		}
		choice[k]++
	}
}

// lined is a program with a line of its own for each op.
func lined(p api.Program) api.Program {
	p.Funcs = slices.Clone(p.Funcs)
	for k := range p.Funcs {
		p.Funcs[k].Body = slices.Clone(p.Funcs[k].Body)
		for at := range p.Funcs[k].Body {
			p.Funcs[k].Body[at].Line = 1 + 30*k + at
		}
	}
	return p
}

func TestP11BriefPrograms(t *testing.T) {
	for _, size := range [][2]int{{1, 4}, {2, 4}, {3, 3}} {
		brief(size[0], size[1], func(p api.Program) {
			for budget := range size[1] + 1 {
				buildsAsTold(t, p, budget)
			}
		})
	}
}

// drawnCaller is a program that Check lets pass, often with more Calls than drawnProgram makes.
func drawnCaller(r *rand.Rand) api.Program {
	p := drawnProgram(r)
	often := r.Intn(3)
	for k, f := range p.Funcs {
		for at := range len(f.Body) - 1 {
			if r.Intn(4) >= often {
				continue
			}
			o := call(1+r.Intn(9999), r.Intn(f.Locals), r.Intn(len(p.Funcs)))
			for range p.Funcs[o.B].Params {
				o.Args = append(o.Args, r.Intn(f.Locals))
			}
			p.Funcs[k].Body[at] = o
		}
	}
	return p
}

func TestP11DrawnPrograms(t *testing.T) {
	r := rand.New(rand.NewSource(14))
	fits, tooMuch := 0, 0
	for range 3000 {
		p := drawnCaller(r)
		if r.Intn(2) == 0 {
			// Few lines, so that neighbours are often on the same.
			for _, f := range p.Funcs {
				for at := range f.Body {
					f.Body[at].Line = 1 + r.Intn(2)
				}
			}
		}
		if buildsAsTold(t, p, r.Intn(31)) {
			fits++
		} else {
			tooMuch++
		}
	}
	if fits < 1000 || tooMuch < 100 {
		t.Errorf("%d codes, %d that are too much", fits, tooMuch)
	}
}
