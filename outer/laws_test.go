package outer_test

import (
	"math"
	"math/rand"
	"slices"
	"strings"
	"testing"

	"triforium/api"
	"triforium/outer"
	"triforium/token"
)

// text returns a random text of parts of commands.
func text(r *rand.Rand, n int) string {
	parts := []string{"by", "fix", "qed", "have", "from", "then", "note", "end", "obtain", "where", ":", "::", "=", "begin", "a", "b.c", "1", "07", `"x"`, `\<open>y\<close>`, `"`, `\<open>`, `\`, "?", "(*", "*)", "'", "(", ".", "\n"}
	var b strings.Builder
	for range r.Intn(n) {
		b.WriteString(parts[r.Intn(len(parts))])
		if r.Intn(5) > 0 {
			b.WriteString(" ")
		}
	}
	return b.String()
}

// good returns the text of a random right command.
func good(r *rand.Rand) string {
	pick := func(l ...string) string { return l[r.Intn(len(l))] }
	name := func() string { return pick("a", "b.c", "this", "x'") }
	quote := func() string { return pick(`"x"`, `""`, `\<open>by "\<close>`, `"\n\\"`) }
	return pick("then", "end", "from "+name()+" "+name(), "have "+quote(), "show "+name()+": "+quote(), "assume "+quote()+quote(), "by (rule "+name()+", "+quote()+")", "qed", "qed -", "fix "+name()+" :: "+quote()+" "+name(), "note "+name()+" = "+name(), "obtain "+name()+" where "+quote(), "typedecl "+name()+" "+pick("0", "12"),
		"notation "+name()+" infix "+quote()+" 5 6", "theory "+name()+" imports "+name()+" begin", "fun "+name()+" :: "+quote()+" where "+quote(), "arity "+name()+" "+name()+" "+quote(), "classes "+name(), "lemma "+name()+": "+quote(), "datatype "+quote()+quote(), "consts "+name()+"::"+quote(), "declare "+name(), "case "+name()+" "+name()) + pick("", " ", "\n", " (* by *) ")
}

// naiveTokens returns the tokens of any text by the words of the chapter.
func naiveTokens(s string) []token.Token {
	l, at, e := token.Scan(slices.Concat(outer.Words(), outer.Signs()), s)
	if e == api.OK {
		return l
	}
	l = naiveTokens(s[:at])
	for _, t := range naiveTokens(s[at+1:]) {
		t.At += at + 1
		l = append(l, t)
	}
	return l
}

func TestSpanLaws(t *testing.T) {
	r := rand.New(rand.NewSource(1))
	for range 20000 {
		s := text(r, 12)
		l := outer.Spans(s)
		at := 0
		for i, x := range l {
			if x.At != at || x.To <= x.At || !strings.HasPrefix(s[x.At:], x.Word) || x.Word == "" && i > 0 {
				t.Fatalf("%q %v", s, l)
			}
			at = x.To
		}
		var want []int
		for _, x := range naiveTokens(s) {
			if x.Kind == token.Keyword && slices.Contains(outer.Words(), x.Text) {
				want = append(want, x.At)
			}
		}
		var got []int
		for _, x := range l {
			if x.Word != "" {
				got = append(got, x.At)
			}
		}
		if at != len(s) || !slices.Equal(got, want) {
			t.Fatalf("%q %v %v", s, l, want)
		}
	}
}

// same reports whether commands are the same, moved by a number of bytes.
func same(a, b outer.Command, by int) bool {
	return a.Word == b.Word && a.At+by == b.At && slices.EqualFunc(a.Parts, b.Parts, func(x, y outer.Part) bool {
		return x.Kind == y.Kind && x.Text == y.Text && x.Num == y.Num && x.At+by == y.At
	})
}

func TestCommandLaws(t *testing.T) {
	r := rand.New(rand.NewSource(2))
	right := 0
	for range 20000 {
		s := good(r)
		if r.Intn(3) == 0 {
			s = text(r, 6)
		}
		more := strings.Join([]string{good(r), good(r), text(r, 4)}[r.Intn(3):], " ")
		readBack(t, s)
		a, at, e := outer.Commands(s)
		b, _, f := outer.Commands(more)
		both, cat, g := outer.Commands(s + "\n" + more)
		if e == api.OK && f == api.OK {
			right++
			if g != api.OK || len(both) != len(a)+len(b) {
				t.Fatalf("%q %q %v", s, more, g)
			}
			for i, x := range both {
				if i < len(a) && !same(a[i], x, 0) || i >= len(a) && !same(b[i-len(a)], x, len(s)+1) {
					t.Fatalf("%q %q %v", s, more, both)
				}
			}
		}
		if e == outer.ErrCommand && f == api.OK && (g != e || cat != at && at < len(s)) {
			t.Fatalf("%q %q %d %d %v", s, more, at, cat, g)
		}
	}
	if right < 3000 {
		t.Error(right)
	}
}

// readBack reads a command that was written.
func readBack(t *testing.T, s string) {
	c, at, e := outer.Read(s)
	if e != api.OK {
		if at < 0 || at > len(s) || c.Parts != nil {
			t.Fatalf("%q %d %v", s, at, e)
		}
		return
	}
	if len(s) > 0 && len(outer.Spans(s)) > 2 {
		t.Fatalf("%q", s)
	}
	for _, p := range c.Parts {
		if p.Kind != outer.Num && p.Kind != outer.Text && !strings.HasPrefix(s[p.At:], p.Text) {
			t.Fatalf("%q %v", s, p)
		}
	}
	w, e := outer.Write(c)
	back, _, f := outer.Read(w)
	for i := range back.Parts {
		back.Parts[i].At = 0
	}
	for i := range c.Parts {
		c.Parts[i].At = 0
	}
	back.At, c.At = 0, 0
	if e != api.OK || f != api.OK || !same(back, c, 0) {
		t.Fatalf("%q %q %v %v", s, w, e, f)
	}
}

func TestEditLaws(t *testing.T) {
	r := rand.New(rand.NewSource(3))
	for range 20000 {
		s := good(r) + text(r, 6) + good(r) + good(r)
		if r.Intn(4) == 0 {
			s = text(r, 8)
		}
		at := r.Intn(len(s) + 1)
		removed := r.Intn(min(6, len(s)-at+1))
		inserted := []string{"", "by", " by ", "x", `"`, "(*", text(r, 3), s[at : at+removed]}[r.Intn(8)]
		old := outer.Spans(s)
		l, n, e := outer.Edited(old, s, at, removed, inserted)
		now := s[:at] + inserted + s[at+removed:]
		if e != api.OK || !slices.Equal(l, outer.Spans(now)) || n != naiveNew(old, l, at, removed, len(inserted)) {
			t.Fatalf("%q %d %d %q: %v %d %v", s, at, removed, inserted, l, n, e)
		}
		_, n, _ = outer.Edited(old, s, at, 0, "")
		inside := 0
		for _, x := range old {
			if x.At < at && at < x.To {
				inside = 1
			}
		}
		if n != inside {
			t.Fatalf("%q %d %d", s, at, n)
		}
	}
}

// naiveNew counts the new spans by the words of the chapter.
func naiveNew(old, l []outer.Span, at, removed, inserted int) int {
	first := 0
	for first < len(old) && first < len(l) && old[first] == l[first] && l[first].To <= at {
		first++
	}
	a, b := old[first:], l[first:]
	last := 0
	for last < len(a) && last < len(b) {
		x, y := a[len(a)-1-last], b[len(b)-1-last]
		by := inserted - removed
		if x.Word != y.Word || x.At+by != y.At || x.To+by != y.To || x.At < at+removed {
			break
		}
		last++
	}
	return len(b) - last
}

// TestAny gives texts of any bytes and commands of any form.
func TestAny(t *testing.T) {
	r := rand.New(rand.NewSource(4))
	number := func() int { return []int{0, 1, 2, 3, 5, -1, math.MaxInt, math.MinInt}[r.Intn(8)] }
	for range 20000 {
		b := []byte(text(r, 4))
		for range r.Intn(4) {
			b = append(b, byte(r.Intn(256)))
		}
		s := string(b)
		outer.Read(s)
		outer.Commands(s)
		outer.Edited(outer.Spans(s), s, number(), number(), s)
		c := outer.Command{Word: []string{"by", "from", "", "x", s}[r.Intn(5)], At: number()}
		for range r.Intn(3) {
			c.Parts = append(c.Parts, outer.Part{Kind: r.Intn(7) - 1, Text: []string{"a", "", s}[r.Intn(3)], Num: number(), At: number()})
		}
		if w, e := outer.Write(c); e == api.OK {
			if back, _, e := outer.Read(w); e != api.OK || back.Word != c.Word || len(back.Parts) != len(c.Parts) {
				t.Fatal(c, w)
			}
		}
	}
}
