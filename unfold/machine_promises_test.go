package unfold_test

import (
	"bytes"
	"math/rand"
	"reflect"
	"slices"
	"testing"

	"unfold/api"
	"unfold/unfold"
)

// toldError is the error of New and Trace, as P12 and P13 name them one after the other.
func toldError(p api.Program, budget int, args []int, n int) api.Errno {
	if e, _, _ := toldCheck(p); e != api.OK {
		return e
	}
	wrongArg := slices.ContainsFunc(args, func(v int) bool { return v < 0 || v > 999 })
	if budget < 0 || budget > 30 || len(args) != p.Funcs[0].Params || wrongArg || n < 0 || n > 2000 {
		return api.ErrArg
	}
	if _, fits := toldCodes(p, budget); !fits {
		return api.ErrSize
	}
	return api.OK
}

func TestP1MachinesAtAllInputs(t *testing.T) {
	r := rand.New(rand.NewSource(17))
	var seen [12]int
	for range 20000 {
		p := spoilt(r)
		if r.Intn(3) == 0 {
			p = drawnCaller(r)
		}
		args := drawnArgs(r, p)
		if r.Intn(8) == 0 {
			args = append(args, numbers[r.Intn(len(numbers))])
		}
		budget, n := 30-r.Intn(31)*r.Intn(2), r.Intn(50)
		if r.Intn(8) == 0 {
			budget = numbers[r.Intn(len(numbers))]
		}
		if r.Intn(8) == 0 {
			n = numbers[r.Intn(len(numbers))]
		}
		b, e := unfold.Build(p, budget)
		// Args and n that may be, so that only what Build is handed can be wrong.
		if want := toldError(p, budget, make([]int, max(0, min(p.Funcs[0].Params, 9))), 0); e != want || (len(b) == 0) != (e != api.OK) {
			t.Fatalf("Build(%+v, %d) = %v, %d, want %d", p, budget, b, e, want)
		}
		m, e := unfold.New(p, budget, args)
		if want := toldError(p, budget, args, 0); e != want || (m == nil) != (e != api.OK) {
			t.Fatalf("New(%+v, %d, %v): %d, want %d", p, budget, args, e, want)
		}
		s, e := unfold.Trace(p, budget, args, n)
		if want := toldError(p, budget, args, n); e != want || s != "" && e != api.OK {
			t.Fatalf("Trace(%+v, %d, %v, %d) = %q, %d, want %d", p, budget, args, n, s, e, want)
		}
		seen[e]++
	}
	for _, e := range []api.Errno{api.OK, api.ErrArg, api.ErrHead, api.ErrOp, api.ErrSize} {
		if seen[e] < 100 {
			t.Errorf("the error %d was told %d times", e, seen[e])
		}
	}
}

func TestP1StepsAtAllNumbers(t *testing.T) {
	for _, p := range []api.Program{down(ret(40, 0)), one(1, 1, op(api.Jump, 1, 0, 0, 0), ret(2, 0))} {
		m := started(t, p, 30, []int{19})
		for _, n := range slices.Concat(numbers, numbers) {
			taken, e := m.Step(n)
			if mayBe := n >= 0 && n <= 2000; mayBe != (e == api.OK) || taken < 0 || taken > n && mayBe || taken != 0 && !mayBe {
				t.Errorf("Step(%d) = %d, %d", n, taken, e)
			}
			m.State()
			m.Pcs()
		}
	}
}

func TestP1MachinesOfLongLists(t *testing.T) {
	const many = 1 << 20
	long := small()
	long.Funcs[2].Body[0].Args = make([]int, many)
	builds(t, "a Div with many Args", long, 2, smallImage())
	m := started(t, long, 2, []int{6})
	steps(t, m, 2000, 7)
	stands(t, "a Div with many Args", m, api.Done, 3)
	traces(t, long, 2, []int{6}, 3, "div b:12\nhalf b:8\nmain a:3\n")
	long.Funcs[0].Body[0].Args = make([]int, many)
	for _, c := range []struct {
		p    api.Program
		args []int
		e    api.Errno
	}{
		{long, []int{6}, api.ErrOp}, {small(), make([]int, many), api.ErrArg}, {api.Program{Funcs: make([]api.Func, many)}, nil, api.ErrFuncs}, {one(0, 1, rets(many)...), nil, api.ErrHead},
	} {
		if m, e := unfold.New(c.p, 2, c.args); e != c.e || m != nil {
			t.Errorf("New: %d, want %d", e, c.e)
		}
		if s, e := unfold.Trace(c.p, 2, c.args, 1); e != c.e || s != "" {
			t.Errorf("Trace = %q, %d, want %d", s, e, c.e)
		}
		if b, e := unfold.Build(c.p, 2); c.e != api.ErrArg && (e != c.e || len(b) != 0) {
			t.Errorf("Build = %v, %d, want %d", b, e, c.e)
		}
	}
}

// A list of nothing may be nil or empty.
func TestMachinesOfNothing(t *testing.T) {
	for _, l := range [][]int{nil, {}, make([]int, 0, 9)} {
		p := whole([]int{1}, nil)
		p.Funcs[0].Body[0].Args = l
		m := started(t, p, 30, l)
		steps(t, m, 1, 1)
		stands(t, "no args", m, api.Runs, 0, 1)
		traces(t, p, 30, l, 1, "f1 f:11\nf0 f:1\n")
		buildsAsTold(t, p, 30)
	}
	for _, l := range [][]api.Func{nil, {}, make([]api.Func, 0, 9)} {
		p := api.Program{Funcs: l}
		if b, e := unfold.Build(p, 0); e != api.ErrFuncs || len(b) != 0 {
			t.Errorf("Build of nothing = %v, %d", b, e)
		}
		if m, e := unfold.New(p, 0, nil); e != api.ErrFuncs || m != nil {
			t.Errorf("New of nothing: %d", e)
		}
		if s, e := unfold.Trace(p, 0, nil, 0); e != api.ErrFuncs || s != "" {
			t.Errorf("Trace of nothing = %q, %d", s, e)
		}
	}
}

func TestP2MachinesWriteIntoNothing(t *testing.T) {
	r := rand.New(rand.NewSource(18))
	for range 2000 {
		drawn := drawnCaller(r)
		if r.Intn(3) == 0 {
			drawn = spoilt(r)
		}
		p, funcs, bodies, lists := roomy(drawn)
		_, keptFuncs, keptBodies, keptLists := roomy(drawn)
		args := withRoom(drawnArgs(r, p), -9, -9)
		kept := behind(args)
		budget := r.Intn(31)
		unfold.Build(p, budget)
		unfold.Trace(p, budget, args, 2000)
		if m, e := unfold.New(p, budget, args); e == api.OK {
			for range 20 {
				m.Step(r.Intn(3))
				m.State()
				m.Pcs()
			}
			m.Step(2000)
		}
		if !reflect.DeepEqual(funcs, keptFuncs) || !reflect.DeepEqual(bodies, keptBodies) || !reflect.DeepEqual(lists, keptLists) {
			t.Fatalf("%+v has become %+v", keptFuncs, funcs)
		}
		if !slices.Equal(behind(args), kept) {
			t.Fatalf("%v has become %v", kept, behind(args))
		}
	}
}

// spoilProgram writes into every list of a program.
func spoilProgram(p api.Program) {
	for _, f := range p.Funcs {
		for _, o := range f.Body {
			spoil(o.Args, 7)
		}
		spoil(f.Body, ret(77, 0))
	}
	spoil(p.Funcs, api.Func{Name: "x", File: "x", Locals: 1, Body: rets(1)})
}

// What a machine answers hangs on nothing that the caller does later, nor on other machines.
func TestP2MachinesKeepNothing(t *testing.T) {
	r := rand.New(rand.NewSource(19))
	for range 1000 {
		seed, budget := r.Int63(), r.Intn(31)
		again := func() (api.Program, []int) {
			own := rand.New(rand.NewSource(seed))
			p := lined(drawnCaller(own))
			return p, drawnArgs(own, p)
		}
		p, args := again()
		codes, fits := toldCodes(p, budget)
		if !fits {
			continue
		}
		b, _ := unfold.Build(p, budget)
		kept := bytes.Clone(b)
		first, second := started(t, p, budget, args), started(t, p, budget, args)
		text, _ := unfold.Trace(p, budget, args, 9)
		spoilProgram(p)
		spoil(args, 5)
		p, args = again()
		for n := range 30 {
			follows(t, p, budget, args, n, first, b, codes)
			spoil(first.Pcs(), -1)
			follows(t, p, budget, args, n, first, b, codes)
			first.Step(1)
		}
		for n := range 30 {
			follows(t, p, budget, args, n, second, b, codes)
			first.Step(3)
			second.Step(1)
		}
		if !bytes.Equal(b, kept) {
			t.Fatalf("%v has become %v", kept, b)
		}
		if s, _ := unfold.Trace(p, budget, args, 9); s != text {
			t.Fatalf("Trace = %q, want %q", s, text)
		}
	}
}

// What Pcs gave before a Step stays as it was behind it.
func TestP2PcsAreFresh(t *testing.T) {
	for _, budget := range []int{0, 2, 3} {
		m := started(t, small(), budget, []int{6})
		var lists, kept [][]int
		for range 9 {
			for range 2 {
				l := m.Pcs()
				lists, kept = append(lists, l), append(kept, behind(l))
			}
			m.Step(1)
		}
		for k, l := range lists {
			if !slices.Equal(behind(l), kept[k]) {
				t.Errorf("%v has become %v", kept[k], behind(l))
			}
			spoil(l, -1)
		}
	}
}

func TestP2BuildIsFresh(t *testing.T) {
	for _, p := range []api.Program{small(), halves(), broad()} {
		first, _ := unfold.Build(p, 3)
		second, _ := unfold.Build(p, 3)
		want := bytes.Clone(first)
		spoil(first, 99)
		third, _ := unfold.Build(p, 3)
		spoilProgram(p)
		if !bytes.Equal(second, want) || !bytes.Equal(third, want) || len(want) == 0 {
			t.Errorf("Build: %v and %v, want %v", second, third, want)
		}
	}
}
