package arith_test

import (
	"math/rand"
	"slices"
	"testing"

	"triforium/api"
	"triforium/arith"
	"triforium/checker"
	"triforium/hol"
	"triforium/term"
	"triforium/theory"
	"triforium/types"
)

func must[T any](x T, e api.Errno) T {
	if e != api.OK {
		panic(e)
	}
	return x
}

func row(bound int, l ...int) arith.Row { return arith.Row{Coeffs: l, Bound: bound} }

func given(a int) arith.Line { return arith.Line{Kind: arith.Given, A: a} }

func sameRow(a, b arith.Row) bool { return slices.Equal(a.Coeffs, b.Coeffs) && a.Bound == b.Bound }

// The example of the chapter.
func TestExample(t *testing.T) {
	rows := []arith.Row{row(1, 1, 1), row(-2, -1)}
	l := []arith.Line{given(0), given(1), {Kind: arith.Natural, A: 1}, {Kind: arith.Sum, A: 0, B: 1, M: 1, N: 1}, {Kind: arith.Sum, A: 3, B: 2, M: 1, N: 1}}
	made, e := arith.Derive(rows, l)
	want := []arith.Row{row(1, 1, 1), row(-2, -1, 0), row(0, 0, -1), row(-1, 0, 1), row(-1, 0, 0)}
	if e != api.OK || !slices.EqualFunc(made, want, sameRow) || arith.Check(rows, l) != api.OK {
		t.Error(made, e)
	}
	if e := arith.Check(rows, l[:4]); e != arith.ErrCertificate {
		t.Error(e)
	}
	found, ok, e := arith.Refute(rows, 5)
	if e != api.OK || !ok || arith.Check(rows, found) != api.OK {
		t.Error(found, e)
	}
	if _, ok, e := arith.Refute(rows, 0); e != api.ErrFuel || ok {
		t.Error(e)
	}
	if l, ok, e := arith.Refute(rows[:1], arith.MaxLines); e != api.OK || ok || len(l) > 0 {
		t.Error(l, e)
	}
	// what joins two certificates' last lines refutes, too; rows behind the others change nothing
	more := append(slices.Clone(rows), row(5, 1, -3, 7))
	twice := append(slices.Clone(l), arith.Line{Kind: arith.Sum, A: 4, B: 4, M: 2, N: 3})
	if arith.Check(more, l) != api.OK || arith.Check(rows, twice) != api.OK {
		t.Error("P24.6")
	}
}

func TestDerive(t *testing.T) {
	const big = arith.MaxNumber
	rows := []arith.Row{row(7, 2, -4), row(-7, 6), row(big, big, -big), row(3)}
	sum := func(a, b, m, n int) arith.Line { return arith.Line{Kind: arith.Sum, A: a, B: b, M: m, N: n} }
	div := func(a, m int) arith.Line { return arith.Line{Kind: arith.Divided, A: a, M: m} }
	for i, v := range []struct {
		l    []arith.Line
		last arith.Row
		e    api.Errno
	}{
		{nil, arith.Row{}, 0}, {[]arith.Line{given(3)}, row(3, 0, 0), 0}, {[]arith.Line{given(0), div(0, 2)}, row(3, 1, -2), 0}, {[]arith.Line{given(1), div(0, 6)}, row(-2, 1, 0), 0}, {[]arith.Line{given(1), div(0, 3)}, row(-3, 2, 0), 0}, {[]arith.Line{given(3), div(0, 2)}, row(1, 0, 0), 0},
		{[]arith.Line{given(0), given(1), sum(0, 1, 3, 2)}, row(7, 18, -12), 0}, {[]arith.Line{given(2), sum(0, 0, big/2, big/2)}, row(1000000000000, 1000000000000, -1000000000000), 0}, {[]arith.Line{given(2), sum(0, 0, big/2, big/2+1)}, arith.Row{}, api.ErrLarge},
		{[]arith.Line{given(4)}, arith.Row{}, arith.ErrCertificate}, {[]arith.Line{given(-1)}, arith.Row{}, arith.ErrCertificate}, {[]arith.Line{{Kind: arith.Given, M: 1}}, arith.Row{}, arith.ErrCertificate}, {[]arith.Line{{Kind: arith.Natural, A: 2}}, arith.Row{}, arith.ErrCertificate}, {[]arith.Line{{Kind: arith.Natural, A: 1, B: 1}}, arith.Row{}, arith.ErrCertificate},
		{[]arith.Line{{Kind: arith.Natural, A: 1}}, row(0, 0, -1), 0}, {[]arith.Line{sum(0, 0, 1, 1)}, arith.Row{}, arith.ErrCertificate}, {[]arith.Line{given(0), sum(0, 1, 1, 1)}, arith.Row{}, arith.ErrCertificate}, {[]arith.Line{given(0), sum(0, 0, 0, 1)}, arith.Row{}, arith.ErrCertificate}, {[]arith.Line{given(0), sum(0, 0, 1, big+1)}, arith.Row{}, arith.ErrCertificate}, {[]arith.Line{given(0), sum(-1, 0, 1, 1)}, arith.Row{}, arith.ErrCertificate},
		{[]arith.Line{given(0), div(0, 4)}, arith.Row{}, arith.ErrCertificate}, {[]arith.Line{given(0), div(0, 0)}, arith.Row{}, arith.ErrCertificate}, {[]arith.Line{given(0), div(1, 1)}, arith.Row{}, arith.ErrCertificate}, {[]arith.Line{given(0), {Kind: arith.Divided, M: 1, N: 1}}, arith.Row{}, arith.ErrCertificate},
		{[]arith.Line{{}}, arith.Row{}, arith.ErrCertificate}, {[]arith.Line{{Kind: 5}}, arith.Row{}, arith.ErrCertificate}, {make([]arith.Line, arith.MaxLines+1), arith.Row{}, api.ErrCount}, {make([]arith.Line, arith.MaxLines), arith.Row{}, arith.ErrCertificate}, {[]arith.Line{given(0), {Kind: -1 << 63, A: -1 << 63, M: -1 << 63}}, arith.Row{}, arith.ErrCertificate},
	} {
		made, e := arith.Derive(rows, v.l)
		if e != v.e || e == 0 && len(made) != len(v.l) || e == 0 && len(made) > 0 && !sameRow(made[len(made)-1], v.last) || e != 0 && len(made) > 0 {
			t.Error(i, made, e)
		}
		want := v.e
		if want == api.OK {
			want = arith.ErrCertificate
		}
		if e := arith.Check(rows, v.l); e != want {
			t.Error(i, e)
		}
	}
}

func TestRowErrors(t *testing.T) {
	wide := make([]int, 13)
	for i, v := range []struct {
		rows []arith.Row
		e    api.Errno
	}{
		{make([]arith.Row, 101), api.ErrCount}, {[]arith.Row{row(0, wide...), row(arith.MaxNumber + 1)}, api.ErrCount}, {[]arith.Row{row(arith.MaxNumber + 1), row(0, wide...)}, api.ErrRange}, {[]arith.Row{row(0, 0, -arith.MaxNumber-1)}, api.ErrRange}, {[]arith.Row{row(-1 << 63)}, api.ErrRange}, {make([]arith.Row, 100), 0}, {[]arith.Row{row(0, wide[:12]...)}, 0},
	} {
		_, e1 := arith.Derive(v.rows, nil)
		_, e2 := arith.Holds(v.rows, make([]int, 99))
		_, _, e3 := arith.Refute(v.rows, -1)
		_, _, e4 := arith.Point(v.rows, -1)
		e5 := arith.Check(v.rows, nil)
		want := []api.Errno{v.e, v.e, v.e, v.e, v.e}
		if v.e == 0 {
			want = []api.Errno{0, api.ErrCount, api.ErrRange, api.ErrRange, arith.ErrCertificate}
		}
		if got := []api.Errno{e1, e2, e3, e4, e5}; !slices.Equal(got, want) {
			t.Error(i, got)
		}
	}
}

func TestHoldsAndPoint(t *testing.T) {
	rows := []arith.Row{row(5, 1, 1), row(-3, -1), row(-1, 0, -1)}
	for i, v := range []struct {
		x  []int
		is bool
		e  api.Errno
	}{{[]int{3, 1}, true, 0}, {[]int{4, 1}, true, 0}, {[]int{5, 1}, false, 0}, {[]int{3}, false, api.ErrCount}, {nil, false, api.ErrCount}, {[]int{3, -1}, false, api.ErrRange}, {[]int{arith.MaxNumber + 1, 1}, false, api.ErrRange}, {[]int{arith.MaxNumber, arith.MaxNumber}, false, 0}} {
		if is, e := arith.Holds(rows, v.x); is != v.is || e != v.e {
			t.Error(i, is, e)
		}
	}
	if is, e := arith.Holds([]arith.Row{row(-1)}, nil); is || e != api.OK {
		t.Error(is, e)
	}
	for i, v := range []struct {
		rows  []arith.Row
		bound int
		x     []int
		is    bool
		e     api.Errno
	}{
		{rows, 4, []int{3, 1}, true, 0}, {rows, 2, nil, false, 0}, {nil, 0, nil, true, 0}, {[]arith.Row{row(-1)}, 9, nil, false, 0}, {rows, 101, nil, false, api.ErrRange}, {rows, 100, []int{3, 1}, true, 0}, {[]arith.Row{row(0, 0, 0, 0)}, 46, nil, false, api.ErrLarge}, {[]arith.Row{row(0, 0, 0, 0)}, 45, []int{0, 0, 0}, true, 0},
		{[]arith.Row{row(0, make([]int, 12)...)}, 0, make([]int, 12), true, 0}, {[]arith.Row{row(0, make([]int, 12)...)}, 100, nil, false, api.ErrLarge}, {[]arith.Row{row(-1, 1, -1)}, 3, []int{0, 1}, true, 0},
	} {
		x, is, e := arith.Point(v.rows, v.bound)
		if is != v.is || e != v.e || !slices.Equal(x, v.x) {
			t.Error(i, x, is, e)
		}
	}
}

// randomRows returns rows as P24.3 has them.
func randomRows(r *rand.Rand) []arith.Row {
	rows := make([]arith.Row, r.Intn(6))
	full := r.Intn(2) == 0
	for i := range rows {
		for k := range 3 {
			if n := r.Intn(21) - 10; full || k < 2 || r.Intn(2) == 0 {
				rows[i].Coeffs = append(rows[i].Coeffs, n)
			}
		}
		rows[i].Bound = r.Intn(201) - 100
		if r.Intn(2) == 0 {
			rows[i].Bound /= 10
		}
	}
	return rows
}

// P24.2, P24.3: Refute has an answer for small rows, and the right one.
func TestRefuted(t *testing.T) {
	r := rand.New(rand.NewSource(1))
	yes, no, most := 0, 0, 0
	for range 5000 {
		rows := randomRows(r)
		l, ok, e := arith.Refute(rows, arith.MaxLines)
		if e != api.OK {
			t.Fatal(rows, e)
		}
		most = max(most, len(l))
		x, found, e := arith.Point(rows, 12)
		if e != api.OK || found && ok {
			t.Fatal(rows, x, e)
		}
		if ok {
			yes++
			if e := arith.Check(rows, l); e != api.OK {
				t.Fatal(rows, l, e)
			}
			continue
		}
		no++
		if len(l) > 0 || !solvable(rows) {
			t.Fatal(rows, l)
		}
	}
	t.Log(yes, no, most)
	if yes < 1000 || no < 1000 {
		t.Error(yes, no)
	}
}

// solvable reports whether rational numbers from 0 on fulfil the rows: a corner of what they permit, in which three of them, or of the numbers, are at their bounds, does, if it is moved a little.
func solvable(rows []arith.Row) bool {
	var all []arith.Row
	for _, x := range rows {
		all = append(all, row(x.Bound, append(slices.Clone(x.Coeffs), 0, 0, 0)[:3]...))
	}
	for i := range 3 {
		c := make([]int, 3)
		c[i] = -1
		all = append(all, row(0, c...))
	}
	n := len(all)
	for a := range n {
		for b := range a {
			for c := range b {
				if corner(all, all[a], all[b], all[c]) {
					return true
				}
			}
		}
	}
	return false
}

// corner reports whether the point at which three rows are equations fulfils all rows (Cramer's rule).
func corner(all []arith.Row, a, b, c arith.Row) bool {
	det := func(x, y, z []int) int {
		return x[0]*(y[1]*z[2]-y[2]*z[1]) - x[1]*(y[0]*z[2]-y[2]*z[0]) + x[2]*(y[0]*z[1]-y[1]*z[0])
	}
	with := func(x arith.Row, i int) []int {
		l := slices.Clone(x.Coeffs)
		l[i] = x.Bound
		return l
	}
	d := det(a.Coeffs, b.Coeffs, c.Coeffs)
	if d == 0 {
		return false
	}
	var at [3]int
	for i := range at {
		at[i] = det(with(a, i), with(b, i), with(c, i))
		if d < 0 {
			at[i] = -at[i]
		}
	}
	d = max(d, -d)
	for _, x := range all {
		if x.Coeffs[0]*at[0]+x.Coeffs[1]*at[1]+x.Coeffs[2]*at[2] > x.Bound*d {
			return false
		}
	}
	return true
}

// Terms of Nat.
func con(name string, l ...api.Term) api.Term {
	typ, _ := theory.Const(nat, name)
	return term.Apps(api.Term{Op: api.Const, Name: name, Type: typ}, l)
}

// nat is the theory Nat, made once.
var nat = hol.Nat()

func free(name string) api.Term      { return api.Term{Op: api.Free, Name: name, Type: hol.NatType()} }
func num(n int) api.Term             { return must(hol.Numeral(n)) }
func le(a, b api.Term) api.Term      { return con("le", a, b) }
func less(a, b api.Term) api.Term    { return con("less", a, b) }
func eq(a, b api.Term) api.Term      { return must(hol.Equal(a, b)) }
func plus(a, b api.Term) api.Term    { return con("plus", a, b) }
func times(a, b api.Term) api.Term   { return con("times", a, b) }
func suc(a api.Term) api.Term        { return con("Suc", a) }
func sameTerms(a, b []api.Term) bool { return slices.EqualFunc(a, b, term.Equal) }
func sameRows(a, b []arith.Row) bool { return slices.EqualFunc(a, b, sameRow) }
func nots(n int, t api.Term) api.Term {
	for range n {
		t = hol.Not(t)
	}
	return t
}

func TestRows(t *testing.T) {
	x, y := free("x"), free("y")
	b := api.Term{Op: api.Free, Name: "b", Type: hol.BoolType()}
	million := times(num(90), times(num(90), times(num(90), x)))
	fun := api.Term{Op: api.App, Kids: []api.Term{{Op: api.Free, Name: "F", Type: types.Fun(hol.NatType(), hol.NatType())}, x}}
	other := le(x, y)
	other.Kids[0].Kids[0].Type = types.Fun(hol.NatType(), types.Fun(hol.NatType(), types.Prop()))
	for i, v := range []struct {
		l       []api.Term
		rows    []arith.Row
		unknown []api.Term
		e       api.Errno
	}{
		{nil, nil, nil, 0}, {[]api.Term{le(x, y)}, []arith.Row{row(0, 1, -1)}, []api.Term{x, y}, 0}, {[]api.Term{less(y, x)}, []arith.Row{row(-1, 1, -1)}, []api.Term{y, x}, 0}, {[]api.Term{eq(x, suc(y))}, []arith.Row{row(1, 1, -1), row(-1, -1, 1)}, []api.Term{x, y}, 0},
		{[]api.Term{hol.Not(le(x, y))}, []arith.Row{row(-1, -1, 1)}, []api.Term{x, y}, 0}, {[]api.Term{hol.Not(less(x, y))}, []arith.Row{row(0, -1, 1)}, []api.Term{x, y}, 0}, {[]api.Term{nots(2, less(x, y))}, []arith.Row{row(-1, 1, -1)}, []api.Term{x, y}, 0}, {[]api.Term{nots(5, le(x, y))}, []arith.Row{row(-1, -1, 1)}, []api.Term{x, y}, 0},
		{[]api.Term{hol.True(), nots(1, hol.False()), nots(4, hol.True())}, nil, nil, 0}, {[]api.Term{hol.False(), nots(1, hol.True()), nots(3, hol.True())}, []arith.Row{row(-1), row(-1), row(-1)}, nil, 0}, {[]api.Term{hol.And(le(x, num(3)), hol.And(eq(x, x), hol.True()))}, []arith.Row{row(3, 1), row(0, 0), row(0, 0)}, []api.Term{x}, 0},
		{[]api.Term{nots(2, hol.And(le(x, x), le(y, x)))}, []arith.Row{row(0, 0, 0), row(0, -1, 1)}, []api.Term{x, y}, 0},
		{[]api.Term{le(plus(times(num(3), x), times(y, num(2))), suc(suc(plus(x, num(5)))))}, []arith.Row{row(7, 2, 2)}, []api.Term{x, y}, 0}, {[]api.Term{le(times(num(2), num(3)), times(x, y))}, []arith.Row{row(-6, -1)}, []api.Term{times(x, y)}, 0}, {[]api.Term{le(times(num(0), x), y)}, []arith.Row{row(0, 0, -1)}, []api.Term{x, y}, 0}, {[]api.Term{less(fun, x)}, []arith.Row{row(-1, 1, -1)}, []api.Term{fun, x}, 0},
		{[]api.Term{le(times(plus(num(1), num(1)), x), num(0))}, []arith.Row{row(0, 1)}, []api.Term{times(plus(num(1), num(1)), x)}, 0},
		{[]api.Term{b}, nil, nil, arith.ErrLinear}, {[]api.Term{hol.Not(eq(x, y))}, nil, nil, arith.ErrLinear}, {[]api.Term{hol.Or(le(x, y), le(x, y))}, nil, nil, arith.ErrLinear}, {[]api.Term{hol.Not(hol.And(le(x, y), le(x, y)))}, nil, nil, arith.ErrLinear}, {[]api.Term{eq(b, b)}, nil, nil, arith.ErrLinear}, {[]api.Term{x}, nil, nil, api.ErrType}, {[]api.Term{{}}, nil, nil, api.ErrForm}, {[]api.Term{other}, nil, nil, api.ErrType}, {[]api.Term{b, x}, nil, nil, arith.ErrLinear},
		{slices.Repeat([]api.Term{b}, 101), nil, nil, api.ErrCount}, {slices.Repeat([]api.Term{eq(x, x)}, 51), nil, nil, api.ErrCount}, {[]api.Term{le(million, x)}, []arith.Row{row(0, 728999)}, []api.Term{x}, 0}, {[]api.Term{le(times(num(2), million), x)}, nil, nil, api.ErrLarge}, {[]api.Term{le(times(num(0), times(num(2), million)), x)}, nil, nil, api.ErrLarge}, {[]api.Term{eq(plus(million, million), plus(million, million))}, nil, nil, api.ErrLarge},
		{[]api.Term{le(times(num(2), million), x), b}, nil, nil, arith.ErrLinear},
	} {
		rows, unknown, e := arith.Rows(v.l)
		if e != v.e || !sameRows(rows, v.rows) || !sameTerms(unknown, v.unknown) {
			t.Error(i, rows, len(unknown), e)
		}
	}
	var many []api.Term
	for i := range 13 {
		many = append(many, le(free("x"+string(rune('a'+i))), num(0)))
	}
	if _, l, e := arith.Rows(many[:12]); e != api.OK || len(l) != 12 {
		t.Error(e)
	}
	if _, _, e := arith.Rows(many); e != api.ErrCount {
		t.Error(e)
	}
	// a bound that is just too large
	if rows, _, e := arith.Rows([]api.Term{less(times(num(80), times(num(50), times(num(50), num(5)))), x)}); e != api.ErrLarge {
		t.Error(rows, e)
	}
	if rows, _, e := arith.Rows([]api.Term{le(times(num(80), times(num(50), times(num(50), num(5)))), x)}); e != api.OK || rows[0].Bound != -arith.MaxNumber {
		t.Error(rows, e)
	}
}

func TestExtend(t *testing.T) {
	thy, e := arith.Extend(nat)
	if e != api.OK || thy.Name != "Nat" || !slices.Equal(thy.Oracles, []string{arith.OracleName}) || theory.Check(thy) != api.OK {
		t.Fatal(e)
	}
	again, e := arith.Extend(thy)
	if e != api.OK || len(again.Oracles) != 1 {
		t.Error(e)
	}
	again.Oracles[0] = "other"
	if thy.Oracles[0] != "arith" {
		t.Error("shared memory")
	}
	if _, e := arith.Extend(hol.HOL()); e != api.ErrTheory {
		t.Error(e)
	}
	if _, e := arith.Extend(api.Theory{}); e != api.ErrForm {
		t.Error(e)
	}
}

func TestProve(t *testing.T) {
	thy := must(arith.Extend(nat))
	x, y, z := free("x"), free("y"), free("z")
	for i, v := range []struct {
		hyps  []api.Term
		concl api.Term
		certs int
		e     api.Errno
	}{
		{[]api.Term{le(x, y), le(y, z)}, le(x, z), 1, 0}, {nil, le(x, plus(x, y)), 1, 0}, {nil, eq(plus(x, y), plus(y, x)), 2, 0}, {[]api.Term{less(x, y)}, hol.Not(eq(x, y)), 1, 0}, {[]api.Term{le(x, y), le(y, x)}, eq(x, y), 2, 0}, {[]api.Term{eq(times(num(2), x), suc(times(num(2), y)))}, hol.False(), 1, 0}, {nil, hol.True(), 1, 0},
		{nil, less(x, y), 0, api.ErrFail}, {[]api.Term{le(x, y)}, eq(x, y), 0, api.ErrFail}, {nil, hol.Or(le(x, y), le(y, x)), 0, arith.ErrLinear}, {nil, x, 0, api.ErrType}, {[]api.Term{x}, api.Term{}, 0, api.ErrType}, {nil, api.Term{}, 0, api.ErrForm}, {make([]api.Term, 21), x, 0, api.ErrCount},
	} {
		th, l, e := arith.Prove(thy, v.hyps, v.concl, arith.MaxLines)
		if e != v.e || len(l) != v.certs || th.Is() != (e == 0) {
			t.Error(i, len(l), e)
			continue
		}
		if e != api.OK {
			continue
		}
		want := hol.Truth(v.concl)
		for _, h := range slices.Backward(v.hyps) {
			want = term.Imp(hol.Truth(h), want)
		}
		if !term.Equal(th.Prop(), want) || len(th.Hyps()) > 0 || !slices.Equal(th.Oracles(), []string{"arith"}) {
			t.Error(i, must(term.Text(th.Prop())))
		}
		s, e := checker.Check(th.Theory(), th.Proof())
		if e != api.OK || !checker.Same(s, checker.Sequent{Prop: th.Prop(), Oracles: th.Oracles()}) {
			t.Error(i, e)
		}
		for k, c := range contraries(v.concl) {
			rows, _, e := arith.Rows(append(slices.Clone(v.hyps), c))
			if e != api.OK || arith.Check(rows, l[k]) != api.OK {
				t.Error(i, k, e)
			}
		}
	}
	for i, v := range []struct {
		thy   api.Theory
		lines int
		e     api.Errno
	}{{api.Theory{}, -1, api.ErrForm}, {hol.HOL(), -1, api.ErrTheory}, {nat, -1, api.ErrMissing}, {thy, -1, api.ErrRange}, {thy, 5001, api.ErrRange}, {thy, 0, api.ErrFuel}} {
		if th, l, e := arith.Prove(v.thy, nil, le(x, x), v.lines); e != v.e || th.Is() || len(l) > 0 {
			t.Error(i, e)
		}
	}
}

// contraries returns what is refuted for a conclusion.
func contraries(t api.Term) []api.Term {
	head, args := term.Spine(t)
	if head.Name == "Equal" && len(args) == 2 {
		return []api.Term{hol.Not(le(args[0], args[1])), hol.Not(le(args[1], args[0]))}
	}
	return []api.Term{hol.Not(t)}
}

// value returns the value of a term of numbers.
func value(t api.Term, of map[string]int) int {
	if t.Op == api.Free {
		return of[t.Name]
	}
	head, args := term.Spine(t)
	var x []int
	for _, a := range args {
		x = append(x, value(a, of))
	}
	is := func(b bool) int {
		if b {
			return 1
		}
		return 0
	}
	switch head.Name {
	case "Suc":
		return x[0] + 1
	case "plus":
		return x[0] + x[1]
	case "times", "And":
		return x[0] * x[1]
	case "le":
		return is(x[0] <= x[1])
	case "less":
		return is(x[0] < x[1])
	case "Equal":
		return is(x[0] == x[1])
	case "Not":
		return 1 - x[0]
	case "True":
		return 1
	}
	return 0
}

// sum returns a random natural term, formula a linear formula.
func sum(r *rand.Rand, depth int) api.Term {
	if depth == 0 || r.Intn(4) == 0 {
		return []api.Term{free("x"), free("y"), num(r.Intn(4))}[r.Intn(3)]
	}
	a := sum(r, depth-1)
	return []api.Term{suc(a), plus(a, sum(r, depth-1)), times(num(r.Intn(4)), a), times(a, num(r.Intn(3)))}[r.Intn(4)]
}

func formula(r *rand.Rand) api.Term {
	a, b := sum(r, 2), sum(r, 2)
	switch r.Intn(8) {
	case 0, 1:
		return le(a, b)
	case 2:
		return less(a, b)
	case 3:
		return eq(a, b)
	case 4:
		return hol.Not(le(a, b))
	case 5:
		return nots(r.Intn(4), less(a, b))
	case 6:
		return hol.And(formula(r), formula(r))
	}
	return nots(r.Intn(3), hol.True())
}

// P24.4, P24.5: rows mean what formulas say; what is proved is true of numbers.
func TestMeaning(t *testing.T) {
	thy := must(arith.Extend(nat))
	r := rand.New(rand.NewSource(3))
	proved := 0
	for range 400 {
		f := formula(r)
		rows, unknown, e := arith.Rows([]api.Term{f})
		if e != api.OK {
			t.Fatal(must(term.Text(f)), e)
		}
		h, c := formula(r), formula(r)
		th, _, e := arith.Prove(thy, []api.Term{h}, c, 500)
		for i := range 16 {
			of := map[string]int{"x": i % 4, "y": i / 4}
			if e == api.OK && th.Is() && value(h, of) == 1 && value(c, of) != 1 {
				t.Fatal("proved", must(term.Text(h)), must(term.Text(c)), of)
			}
			var x []int
			for _, u := range unknown {
				x = append(x, of[u.Name])
			}
			width := 0
			for _, row := range rows {
				width = max(width, len(row.Coeffs))
			}
			if is, e := arith.Holds(rows, x[:width]); e != api.OK || is != (value(f, of) == 1) {
				t.Fatal(must(term.Text(f)), of, is, e)
			}
		}
		if e == api.OK {
			proved++
		}
	}
	if proved < 40 {
		t.Error(proved)
	}
}
