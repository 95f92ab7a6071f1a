package unfold_test

import (
	"fmt"
	"math/rand"
	"slices"
	"strings"
	"testing"

	"unfold/api"
	"unfold/unfold"
)

// started is a machine behind no step.
func started(t *testing.T, p api.Program, budget int, args []int) *unfold.Machine {
	t.Helper()
	m, e := unfold.New(p, budget, args)
	if e != api.OK || m == nil {
		t.Fatalf("New(%+v, %d, %v): %d", p, budget, args, e)
	}
	return m
}

// steps fails if Step does not take as many steps as it should.
func steps(t *testing.T, m *unfold.Machine, n, want int) {
	t.Helper()
	if taken, e := m.Step(n); taken != want || e != api.OK {
		t.Errorf("Step(%d) = %d, %d, want %d", n, taken, e, want)
	}
}

// stands fails if a machine does not stand as it should.
func stands(t *testing.T, what string, m *unfold.Machine, status, value int, pcs ...int) {
	t.Helper()
	gotStatus, gotValue := m.State()
	if l := m.Pcs(); gotStatus != status || gotValue != value || !slices.Equal(l, pcs) {
		t.Errorf("%s: %d, %d, %v, want %d, %d, %v", what, gotStatus, gotValue, l, status, value, pcs)
	}
}

func TestP12Example(t *testing.T) {
	for budget := range 31 {
		pcs := [][]int{{0}, {1}, {2}, {3}, {4}, {5}, {6}}
		if budget < 2 {
			pcs = [][]int{{0}, {2, 1}, {3, 1}, {5, 4, 1}, {6, 4, 1}, {4, 1}, {1}}
		} else if budget == 2 {
			pcs = [][]int{{0}, {2, 1}, {3, 1}, {4, 1}, {5, 1}, {6, 1}, {1}}
		}
		m := started(t, small(), budget, []int{6})
		for n, want := range pcs {
			stands(t, fmt.Sprint("budget ", budget, ", behind ", n), m, api.Runs, 0, want...)
			steps(t, m, 1, 1)
		}
		for range 3 {
			stands(t, fmt.Sprint("budget ", budget, ", at the end"), m, api.Done, 3)
			steps(t, m, 1, 0)
			steps(t, m, 2000, 0)
		}
	}
}

// However many steps are taken at once, the machine comes by the same places.
func TestP12StepsAtOnce(t *testing.T) {
	for _, budget := range []int{0, 2, 3, 30} {
		for size := range 10 {
			m := started(t, small(), budget, []int{6})
			at := 0
			for range 5 {
				want := min(size, 7-at)
				steps(t, m, size, want)
				at += want
				one := started(t, small(), budget, []int{6})
				for range at {
					steps(t, one, 1, 1)
				}
				status, value := one.State()
				stands(t, fmt.Sprint("behind ", at, ", ", size, " at once"), m, status, value, one.Pcs()...)
			}
		}
	}
}

func TestP12StepWrong(t *testing.T) {
	m := started(t, small(), 2, []int{6})
	for k, pcs := range [][]int{{0}, {2, 1}, {3, 1}, {4, 1}, {5, 1}, {6, 1}, {1}, {}} {
		status, value := api.Runs, 0
		if k == 7 {
			status, value = api.Done, 3
		}
		for _, n := range []int{-1, -2000, 2001, 4000, 1 << 32, most, least} {
			if taken, e := m.Step(n); taken != 0 || e != api.ErrArg {
				t.Errorf("Step(%d) = %d, %d, want ErrArg", n, taken, e)
			}
			stands(t, "behind a Step that may not be", m, status, value, pcs...)
		}
		steps(t, m, 0, 0)
		stands(t, "behind a Step of none", m, status, value, pcs...)
		m.Step(1)
	}
}

// A machine goes further than one Step may, and Run with it.
func TestP12MoreSteps(t *testing.T) {
	// 50 times 40 rounds of three steps.
	p := one(0, 4, op(api.Set, 1, 3, 1, 0), op(api.Set, 2, 0, 50, 0), op(api.Set, 3, 1, 40, 0),
		op(api.Sub, 4, 1, 1, 3), op(api.Add, 5, 2, 2, 3), op(api.Jump, 6, 1, 3, 0),
		op(api.Sub, 7, 0, 0, 3), op(api.Jump, 8, 0, 2, 0), ret(9, 2))
	total := 2 + 50*(1+3*40+2) + 1
	m := started(t, p, 30, nil)
	for left := total; left > 0; left -= 2000 {
		stands(t, "on the way", m, api.Runs, 0, m.Pcs()...)
		steps(t, m, 2000, min(left, 2000))
	}
	stands(t, "at the end", m, api.Done, 50*40%1000)
	endless := started(t, one(0, 1, op(api.Set, 1, 0, 1, 0), op(api.Jump, 2, 0, 0, 0), ret(3, 0)), 0, nil)
	for range 50 {
		steps(t, endless, 2000, 2000)
		steps(t, endless, 1, 1)
		stands(t, "without end", endless, api.Runs, 0, 1)
		steps(t, endless, 1, 1)
		stands(t, "without end", endless, api.Runs, 0, 0)
	}
}

// A run that ends with Zero or Deep keeps its frames; the innermost is told without plus one.
func TestP12Zero(t *testing.T) {
	p := small()
	p.Funcs[1].Body[0].B = 0
	for budget, pcs := range map[int][]int{0: {5, 4, 1}, 2: {4, 1}, 3: {3}} {
		m := started(t, p, budget, []int{6})
		steps(t, m, 3, 3)
		stands(t, "ahead of a division by 0", m, api.Runs, 0, pcs...)
		steps(t, m, 2000, 1)
		stands(t, "behind a division by 0", m, api.Zero, 0, pcs...)
		steps(t, m, 2000, 0)
		stands(t, "when it has ended", m, api.Zero, 0, pcs...)
	}
}

func TestP12Deep(t *testing.T) {
	// A function is not inlined into itself, so each of its frames is a physical one.
	p := down(ret(40, 0))
	for _, budget := range []int{0, 5, 6, 30} {
		m := started(t, p, budget, []int{20})
		steps(t, m, 79, 79)
		pcs := append([]int{4}, slices.Repeat([]int{5}, 19)...)
		stands(t, "ahead of a Call too many", m, api.Runs, 0, pcs...)
		steps(t, m, 2000, 1)
		stands(t, "behind a Call too many", m, api.Deep, 0, pcs...)
		steps(t, m, 1, 0)
	}
	// Twelve functions in a ring: what counts are frames, not physical ones.
	m := started(t, ring(), 2, nil)
	steps(t, m, 12, 12)
	stands(t, "once around", m, api.Runs, 0, 0, 12)
	steps(t, m, 7, 7)
	stands(t, "20 frames", m, api.Runs, 0, 7, 12)
	steps(t, m, 7, 1)
	stands(t, "a Call too many", m, api.Deep, 0, 7, 12)
	m = started(t, ring(), 1, nil)
	steps(t, m, 2000, 20)
	var apart []int
	for k := range 20 {
		apart = append(apart, 2*(k%12)+1)
	}
	apart[19]--
	slices.Reverse(apart)
	stands(t, "a Call too many, with none inlined", m, api.Deep, 0, apart...)
}

// One function in two instances: each Call leads into its own.
func TestP12Instances(t *testing.T) {
	m := started(t, whole([]int{1, 2}, []int{2}, nil), 30, nil)
	for _, pc := range []int{0, 1, 2, 3, 4, 5, 6} {
		stands(t, "an instance behind another", m, api.Runs, 0, pc)
		steps(t, m, 1, 1)
	}
	stands(t, "at the end", m, api.Done, 0)
	// In a loop an instance is run again, from its first op on, and with locals of its own.
	p := api.Program{Funcs: []api.Func{
		{Name: "f", File: "f", Params: 1, Locals: 3, Body: []api.Op{call(1, 2, 1, 2), op(api.Set, 2, 1, 1, 0), op(api.Sub, 3, 0, 0, 1), op(api.Jump, 4, 0, 0, 0), ret(5, 2)}},
		{Name: "g", File: "f", Params: 1, Locals: 2, Body: []api.Op{op(api.Jump, 6, 1, 3, 0), op(api.Set, 7, 1, 5, 0), op(api.Jump, 8, 1, 0, 0), op(api.Add, 9, 0, 0, 1), ret(10, 0)}},
	}}
	m = started(t, p, 5, []int{3})
	for range 3 {
		for _, pc := range []int{0, 1, 2, 3, 1, 4, 5, 6, 7, 8} {
			stands(t, "a round", m, api.Runs, 0, pc)
			steps(t, m, 1, 1)
		}
	}
	stands(t, "behind the rounds", m, api.Runs, 0, 9)
	steps(t, m, 1, 1)
	stands(t, "at the end", m, api.Done, 15)
}

// A physical frame with parts calls one with parts: of each the innermost part is told.
func TestP12PartsOfCallers(t *testing.T) {
	// Function 0 has 1 in it, which calls 2; that one is too great, and has 3 in it.
	p := whole([]int{1}, []int{2}, []int{3, 3}, []int{3})
	m := started(t, p, 2, nil)
	for _, pcs := range [][]int{{0}, {1}, {6, 2}, {7, 2}, {13, 8, 2}, {13, 14, 8, 2}} {
		stands(t, "on the way in", m, api.Runs, 0, pcs...)
		steps(t, m, 1, 1)
	}
}

func TestP12Wrong(t *testing.T) {
	head, ops, big := wrongHead(), wrongOp(), tooMuch()
	for _, c := range []struct {
		what   string
		p      api.Program
		budget int
		args   []int
		e      api.Errno
	}{
		{"budget -1", small(), -1, []int{1}, api.ErrArg},
		{"budget 31", small(), 31, []int{1}, api.ErrArg},
		{"the greatest budget", small(), most, []int{1}, api.ErrArg},
		{"the least budget", small(), least, []int{1}, api.ErrArg},
		{"no args", small(), 0, nil, api.ErrArg},
		{"too many args", small(), 0, []int{1, 2}, api.ErrArg},
		{"an arg 1000", small(), 0, []int{1000}, api.ErrArg},
		{"an arg -1", small(), 0, []int{-1}, api.ErrArg},
		{"the greatest arg", small(), 30, []int{most}, api.ErrArg},
		{"the least arg", small(), 30, []int{least}, api.ErrArg},
		{"a later arg 1000", one(2, 2, ret(1, 0)), 0, []int{1, 1000}, api.ErrArg},
		{"no functions", api.Program{}, 0, nil, api.ErrFuncs},
		{"no functions, budget -1, an arg", api.Program{}, -1, []int{1}, api.ErrFuncs},
		{"13 functions", named(13), 0, nil, api.ErrFuncs},
		{"a head", head, 0, []int{1}, api.ErrHead},
		{"a head, budget 31, no args", head, 31, nil, api.ErrHead},
		{"an op", ops, 0, []int{1}, api.ErrOp},
		{"an op, budget 31, an arg 1000", ops, 31, []int{1000}, api.ErrOp},
		{"too much", big, 30, nil, api.ErrSize},
		{"too much, budget 31", big, 31, nil, api.ErrArg},
		{"too much, an arg too many", big, 30, []int{1}, api.ErrArg},
	} {
		if m, e := unfold.New(c.p, c.budget, c.args); e != c.e || m != nil {
			t.Errorf("%s: New = %v, %d, want %d", c.what, m, e, c.e)
		}
		if s, e := unfold.Trace(c.p, c.budget, c.args, 1); e != c.e || s != "" {
			t.Errorf("%s: Trace = %q, %d, want %d", c.what, s, e, c.e)
		}
	}
}

// toldPhysical says what P12 says of the frames of a run: each physical one reaches
// as far as its code has a place for the way that the frames go.
func toldPhysical(codes [][]string, way string) []int {
	var l []int
	for len(way) > 0 {
		own := int(way[0] - 'a')
		first := 0
		for _, ways := range codes[:own] {
			first += len(ways)
		}
		far := len(way)
		for !slices.Contains(codes[own], way[:far]) {
			far -= 2
		}
		pc := first + slices.Index(codes[own], way[:far])
		way = way[far:]
		if len(way) > 0 {
			pc++
		}
		l = append(l, pc)
	}
	slices.Reverse(l)
	return l
}

// wayOf is the way that frames go, in a program with a line of its own for each op.
func wayOf(l []api.Frame) string {
	way := ""
	for _, f := range l {
		way = stop((f.Line-1)/30, (f.Line-1)%30) + way
	}
	return way
}

// follows fails if a machine does not stand as P6 and P12 tell of its run behind n
// steps; it gives back how the run stands.
func follows(t *testing.T, p api.Program, budget int, args []int, n int, m *unfold.Machine, b []byte, codes [][]string) api.State {
	t.Helper()
	want := toldRun(p, args, n)
	pcs := toldPhysical(codes, wayOf(want.Frames))
	status, value := m.State()
	if l := m.Pcs(); status != want.Status || value != want.Value || !slices.Equal(l, pcs) {
		t.Fatalf("%+v, budget %d, args %v, behind %d steps: %d, %d, %v, want %d, %d, %v", p, budget, args, n, status, value, l, want.Status, want.Value, pcs)
	}
	if frames, e := unfold.Symbolize(b, m.Pcs()); e != api.OK || !slices.Equal(frames, want.Frames) {
		t.Fatalf("%+v, budget %d, args %v, behind %d steps: Symbolize = %v, %d, want %v", p, budget, args, n, frames, e, want.Frames)
	}
	return want
}

func TestP12BriefPrograms(t *testing.T) {
	for _, size := range [][2]int{{1, 4}, {2, 3}, {3, 2}} {
		brief(size[0], size[1], func(p api.Program) {
			for budget := range size[1] + 1 {
				codes, _ := toldCodes(p, budget)
				b, _ := unfold.Build(p, budget)
				m := started(t, p, budget, nil)
				for n := range 30 {
					follows(t, p, budget, nil, n, m, b, codes)
					m.Step(1)
				}
			}
		})
	}
}

func TestP12DrawnPrograms(t *testing.T) {
	r := rand.New(rand.NewSource(15))
	var ends [4]int
	inlined := 0
	for range 2500 {
		p := lined(drawnCaller(r))
		args := drawnArgs(r, p)
		budget := r.Intn(31)
		codes, fits := toldCodes(p, budget)
		if !fits {
			sizeOnly(t, p, budget, args)
			continue
		}
		b, _ := unfold.Build(p, budget)
		m := started(t, p, budget, args)
		n := 0
		for range 40 {
			s := follows(t, p, budget, args, n, m, b, codes)
			if len(m.Pcs()) < len(s.Frames) {
				inlined++
			}
			size := r.Intn(1 + r.Intn(4))
			m.Step(size)
			n += size
		}
		m.Step(2000 - n)
		s := follows(t, p, budget, args, 2000, m, b, codes)
		ends[s.Status]++
	}
	for status, times := range ends {
		if times < 50 {
			t.Errorf("of the status %d there were %d runs", status, times)
		}
	}
	if inlined < 5000 {
		t.Errorf("%d times there were fewer physical frames than frames", inlined)
	}
}

func sizeOnly(t *testing.T, p api.Program, budget int, args []int) {
	t.Helper()
	if m, e := unfold.New(p, budget, args); e != api.ErrSize || m != nil {
		t.Fatalf("New(%+v, %d, %v): %d, want ErrSize", p, budget, args, e)
	}
	if s, e := unfold.Trace(p, budget, args, 0); e != api.ErrSize || s != "" {
		t.Fatalf("Trace(%+v, %d, %v) = %q, %d, want ErrSize", p, budget, args, s, e)
	}
}

// traces fails if Trace does not write a text.
func traces(t *testing.T, p api.Program, budget int, args []int, n int, want string) {
	t.Helper()
	if s, e := unfold.Trace(p, budget, args, n); e != api.OK || s != want {
		t.Fatalf("Trace(%+v, %d, %v, %d) = %q, %d, want %q", p, budget, args, n, s, e, want)
	}
}

func TestP13Example(t *testing.T) {
	for budget := range 31 {
		for n, want := range []string{
			"main a:3\n", "half b:7\nmain a:3\n", "half b:8\nmain a:3\n", "div b:12\nhalf b:8\nmain a:3\n",
			"div b:13\nhalf b:8\nmain a:3\n", "half b:9\nmain a:3\n", "main a:4\n", "", "",
		} {
			traces(t, small(), budget, []int{6}, n, want)
		}
		traces(t, small(), budget, []int{6}, 2000, "")
		zero := small()
		zero.Funcs[1].Body[0].B = 0
		traces(t, zero, budget, []int{6}, 2000, "div b:12\nhalf b:8\nmain a:3\n")
		traces(t, down(ret(40, 0)), budget, []int{20}, 2000, strings.Repeat("rec r:70\n", 20))
		traces(t, down(ret(40, 0)), budget, []int{19}, 2000, "")
	}
}

func TestP13Wrong(t *testing.T) {
	head, big := wrongHead(), tooMuch()
	for _, n := range []int{-1, -2000, 2001, 1 << 32, most, least} {
		for _, c := range []struct {
			what   string
			p      api.Program
			budget int
			args   []int
			e      api.Errno
		}{
			{"n alone", small(), 0, []int{6}, api.ErrArg},
			{"n and the budget", small(), 31, []int{6}, api.ErrArg},
			{"n and the size", big, 30, nil, api.ErrArg},
			{"n and a head", head, 30, []int{6}, api.ErrHead},
			{"n and no functions", api.Program{}, 30, nil, api.ErrFuncs},
		} {
			if s, e := unfold.Trace(c.p, c.budget, c.args, n); e != c.e || s != "" {
				t.Errorf("%s: Trace(.., %d) = %q, %d, want %d", c.what, n, s, e, c.e)
			}
		}
	}
}

func TestP13DrawnPrograms(t *testing.T) {
	r := rand.New(rand.NewSource(16))
	written := 0
	for range 3000 {
		p := drawnCaller(r)
		args := drawnArgs(r, p)
		budget := r.Intn(31)
		if _, fits := toldCodes(p, budget); !fits {
			sizeOnly(t, p, budget, args)
			continue
		}
		for _, n := range []int{0, 1, r.Intn(10), r.Intn(100), r.Intn(2001), 2000} {
			want := ""
			for _, f := range toldRun(p, args, n).Frames {
				want += fmt.Sprintf("%s %s:%d\n", f.Func, f.File, f.Line)
			}
			traces(t, p, budget, args, n, want)
			if want != "" {
				written++
			}
		}
	}
	if written < 5000 {
		t.Errorf("%d texts were written", written)
	}
}
