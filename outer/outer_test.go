package outer_test

import (
	"fmt"
	"math"
	"slices"
	"strings"
	"testing"

	"triforium/api"
	"triforium/outer"
	"triforium/token"
)

// shown returns parts as a text.
func shown(l []outer.Part) string {
	var r []string
	for _, p := range l {
		kind := map[int]string{outer.Name: "N", outer.Text: "T", outer.Num: "#", outer.Sign: "S", outer.Method: "M"}[p.Kind]
		s := p.Text
		if p.Kind == outer.Num {
			s += fmt.Sprint(p.Num)
		}
		r = append(r, fmt.Sprintf("%s %s %d", kind, s, p.At))
	}
	return strings.Join(r, "; ")
}

func shownSpans(l []outer.Span) string {
	var r []string
	for _, s := range l {
		r = append(r, fmt.Sprintf("%s %d-%d", s.Word, s.At, s.To))
	}
	return strings.Join(r, "; ")
}

func TestExamples(t *testing.T) {
	if l := outer.Spans(`have a: "x = x" by this`); shownSpans(l) != "have 0-16; by 16-23" {
		t.Error(l)
	}
	c, at, e := outer.Read(`fix x :: "nat" y`)
	if e != api.OK || at != 0 || c.Word != "fix" || shown(c.Parts) != "N x 4; S :: 6; T nat 9; N y 15" {
		t.Error(c, at, e)
	}
}

func TestWords(t *testing.T) {
	words, signs := outer.Words(), outer.Signs()
	if len(words) != 31 || !slices.IsSorted(words) || strings.Join(signs, " ") != ": :: = begin imports where" || token.Check(slices.Concat(words, signs)) != api.OK {
		t.Error(len(words), words, signs)
	}
	for _, w := range strings.Fields("also end finally moreover next then ultimately assume arity axiom definition lemma by proof case classes consts datatype declare fix from fun inductive have show notation note obtain qed theory typedecl") {
		if !slices.Contains(words, w) {
			t.Error(w)
		}
	}
	words[0], signs[0] = "spoilt", "spoilt"
	if outer.Words()[0] != "also" || outer.Signs()[0] != ":" {
		t.Error("memory")
	}
}

func TestSpans(t *testing.T) {
	for i, c := range []struct{ text, want string }{
		{"", ""}, {" ", " 0-1"}, {"x y", " 0-3"}, {"by", "by 0-2"}, {" by", " 0-1; by 1-3"}, {"by by", "by 0-3; by 3-5"}, {"x by y (* by *) qed ", " 0-2; by 2-16; qed 16-20"}, {`"by" fix.by byx by' 'by ?by`, " 0-27"}, {`\<open>by\<close>by`, " 0-17; by 17-19"}, {"begin imports where", " 0-19"}, {"by.", "by 0-3"}, {"by.1", "by 0-4"}, {"a.by", " 0-4"}, {"by:by", "by 0-3; by 3-5"},
		// bytes that begin no token are left out
		{"? by", " 0-2; by 2-4"}, {"?by", " 0-3"}, {`"by`, " 0-1; by 1-3"}, {`"a by` + "\n\"by\"", " 0-3; by 3-10"}, {"(* by", " 0-3; by 3-5"}, {"(*(* by *)", " 0-10"}, {`\<open>by`, " 0-7; by 7-9"}, {`\by`, " 0-1; by 1-3"}, {"by\x00by", "by 0-3; by 3-5"}, {"\xff\xfe", " 0-2"}, {"'by", " 0-3"}, {"''by", " 0-4"}, {`fix "\x" by`, "fix 0-9; by 9-11"}, {`by "\`, "by 0-5"},
	} {
		if l := outer.Spans(c.text); shownSpans(l) != c.want {
			t.Errorf("%d %q: %s", i, c.text, shownSpans(l))
		}
	}
	long := strings.Repeat("by ", api.MaxText/3+1)
	if l := outer.Spans(long); len(l) != 1 || l[0] != (outer.Span{To: len(long)}) {
		t.Error(len(l))
	}
	if l := outer.Spans(long[:api.MaxText]); len(l) != api.MaxText/3 || l[0].To != 3 {
		t.Error(len(l))
	}
	if l := outer.Spans(strings.Repeat("?", api.MaxText)); shownSpans(l) != " 0-40000" {
		t.Error(l)
	}
}

func TestRead(t *testing.T) {
	for i, c := range []struct{ text, want string }{
		{"also", ""}, {" end (* *) ", ""}, {"finally", ""}, {"moreover", ""}, {"next", ""}, {"then", ""}, {"ultimately", ""}, {`assume "a"`, "T a 7"}, {`assume a.b: "x" \<open>y\<close>`, "N a.b 7; S : 10; T x 12; T y 16"}, {`arity a b.c`, "N a 6; N b.c 8"}, {`arity a b "c" "d"`, "N a 6; N b 8; T c 10; T d 14"}, {`axiom a: "x"`, "N a 6; S : 7; T x 9"}, {`definition a: ""`, "N a 11; S : 12; T  14"}, {`lemma a : "x\n\"\\"`, "N a 6; S : 8; T x\n\"\\ 10"},
		{"by this", "M this 3"}, {`by (rule a , "x") (* c *)`, `M (rule a , "x") 3`}, {"proof - ", "M - 6"}, {"by a (* b *) c", "M a (* b *) c 3"}, {`by \<open>x\<close>`, `M \<open>x\<close> 3`}, {`by : "\n\""`, `M : "\n\"" 3`}, {"by begin ?x.1 'a b.c <-", "M begin ?x.1 'a b.c <- 3"}, {"qed", ""}, {"qed auto 3", "M auto 3 4"}, {"case a", "N a 5"}, {"case a b c", "N a 5; N b 7; N c 9"}, {"classes a", "N a 8"}, {"classes a b", "N a 8; N b 10"}, {`consts a :: "t"`, "N a 7; S :: 9; T t 12"}, {`datatype "t" "c"`, "T t 9; T c 13"}, {`datatype "t"`, "T t 9"}, {"declare a.b", "N a.b 8"},
		{"fix a", "N a 4"}, {`fix a b :: "t" c`, "N a 4; N b 6; S :: 8; T t 11; N c 15"}, {"from a b", "N a 5; N b 7"}, {`fun f :: "t" where "a"`, "N f 4; S :: 6; T t 9; S where 13; T a 19"}, {`inductive f::"t"where"a""b"`, "N f 10; S :: 11; T t 13; S where 16; T a 21; T b 24"}, {`have "a"`, "T a 5"}, {`show a: "a"`, "N a 5; S : 6; T a 8"}, {`notation c infix "+" 5`, "N c 9; N infix 11; T + 17; # 5 21"}, {`notation c k "a" "b" 0 10 9999999`, "N c 9; N k 11; T a 13; T b 17; # 0 21; # 10 23; # 9999999 26"}, {"note a = b", "N a 5; S = 7; N b 9"}, {"note a = b c.d", "N a 5; S = 7; N b 9; N c.d 11"},
		{`obtain x where "a"`, "N x 7; S where 9; T a 15"}, {`obtain x :: "t" y where a: "b" "c"`, "N x 7; S :: 9; T t 12; N y 16; S where 18; N a 24; S : 25; T b 27; T c 31"}, {"theory a imports b begin", "N a 7; S imports 9; N b 17; S begin 19"}, {"theory a imports b c.d begin", "N a 7; S imports 9; N b 17; N c.d 19; S begin 23"}, {"typedecl a 0", "N a 9; # 0 11"}, {"typedecl a 12", "N a 9; # 12 11"},
	} {
		x, at, e := outer.Read(c.text)
		word := strings.Fields(c.text)[0]
		if got := shown(x.Parts); got != c.want || at != 0 || e != api.OK || x.Word != word || x.At != strings.Index(c.text, word) {
			t.Errorf("%d %q: %s %d %v", i, c.text, got, at, e)
		}
		s, e := outer.Write(x)
		back, _, f := outer.Read(s)
		if e != api.OK || f != api.OK || back.Word != x.Word || len(back.Parts) != len(x.Parts) {
			t.Error(i, s, e, f)
		}
	}
}

func TestReadErrors(t *testing.T) {
	for i, c := range []struct {
		text string
		at   int
		e    api.Errno
	}{
		{"", 0, outer.ErrCommand}, {"  ", 2, outer.ErrCommand}, {"(* *)", 5, outer.ErrCommand}, {"x", 0, outer.ErrCommand}, {" begin", 1, outer.ErrCommand}, {`"by"`, 0, outer.ErrCommand}, {"by ?", 3, token.ErrByte}, {`x "`, 2, token.ErrString}, {"x (*", 2, token.ErrComment}, {strings.Repeat(" ", api.MaxText+1), 0, api.ErrLarge},
		{"then x", 5, outer.ErrCommand}, {"end end", 4, outer.ErrCommand}, {"assume", 6, outer.ErrCommand}, {"assume  ", 8, outer.ErrCommand}, {"assume a", 8, outer.ErrCommand}, {`assume a "x"`, 9, outer.ErrCommand}, {"assume a:", 9, outer.ErrCommand}, {`assume : "x"`, 7, outer.ErrCommand}, {`assume "x" a`, 11, outer.ErrCommand}, {`assume a :: "x"`, 9, outer.ErrCommand}, {"arity a", 7, outer.ErrCommand}, {`arity a "b"`, 8, outer.ErrCommand}, {`arity a b c`, 10, outer.ErrCommand},
		{`axiom a "x"`, 8, outer.ErrCommand}, {`axiom "x"`, 6, outer.ErrCommand}, {`axiom a: "x" "y"`, 13, outer.ErrCommand}, {"axiom a: x", 9, outer.ErrCommand}, {"by", 2, outer.ErrCommand}, {"by ", 3, outer.ErrCommand}, {"by by", 3, outer.ErrCommand}, {"by x end", 5, outer.ErrCommand}, {"qed x qed", 6, outer.ErrCommand}, {"qed qed", 4, outer.ErrCommand}, {"proof", 5, outer.ErrCommand}, {"case", 4, outer.ErrCommand}, {"case 1", 5, outer.ErrCommand}, {"case a 1", 7, outer.ErrCommand}, {`case a "b"`, 7, outer.ErrCommand}, {"case 'a", 5, outer.ErrCommand}, {"case ?a", 5, outer.ErrCommand}, {"case (a)", 5, outer.ErrCommand},
		{`consts a : "t"`, 9, outer.ErrCommand}, {"consts a ::", 11, outer.ErrCommand}, {"datatype", 8, outer.ErrCommand}, {"datatype t", 9, outer.ErrCommand}, {"declare", 7, outer.ErrCommand}, {"declare a b", 10, outer.ErrCommand}, {"fix", 3, outer.ErrCommand}, {"fix x ::", 8, outer.ErrCommand}, {`fix x :: y`, 9, outer.ErrCommand}, {`fix x : "t"`, 6, outer.ErrCommand}, {`fix "x"`, 4, outer.ErrCommand}, {"from", 4, outer.ErrCommand}, {"from begin", 5, outer.ErrCommand}, {`fun f :: "t" "a"`, 13, outer.ErrCommand}, {`fun f :: "t" where`, 18, outer.ErrCommand}, {`fun f where "a"`, 6, outer.ErrCommand},
		{"have", 4, outer.ErrCommand}, {`have "a" "b"`, 9, outer.ErrCommand}, {`notation c "+" 5`, 11, outer.ErrCommand}, {`notation c k 5`, 13, outer.ErrCommand}, {`notation c k "a"`, 16, outer.ErrCommand}, {`notation c k "a" 1 "b"`, 19, outer.ErrCommand}, {`notation c k "a" 00`, 17, outer.ErrCommand}, {`notation c k "a" 1 01`, 19, outer.ErrCommand}, {`notation c k "a" 12345678`, 17, outer.ErrCommand}, {"note a b", 7, outer.ErrCommand}, {"note a = ", 9, outer.ErrCommand}, {"note a == b", 7, outer.ErrCommand}, {`obtain where "a"`, 7, outer.ErrCommand}, {`obtain x "a"`, 9, outer.ErrCommand}, {"obtain x where", 14, outer.ErrCommand}, {"obtain x where a:", 17, outer.ErrCommand},
		{"theory a imports begin", 17, outer.ErrCommand}, {"theory a begin", 9, outer.ErrCommand}, {"theory a imports b", 18, outer.ErrCommand}, {"theory a imports b begin x", 25, outer.ErrCommand}, {"typedecl a", 10, outer.ErrCommand}, {"typedecl a b", 11, outer.ErrCommand}, {"typedecl a -1", 11, outer.ErrCommand}, {"typedecl a 1 2", 13, outer.ErrCommand}, {"typedecl a 007", 11, outer.ErrCommand}, {"By x", 0, outer.ErrCommand},
	} {
		x, at, e := outer.Read(c.text)
		if at != c.at || e != c.e || x.Word != "" || x.Parts != nil || x.At != 0 {
			t.Errorf("%d %.30q: %v %d %v", i, c.text, x, at, e)
		}
	}
}

func TestCommands(t *testing.T) {
	for i, c := range []struct{ text, want string }{
		{"", ""}, {" (* x *)\n", ""}, {"then", "then 0 []"}, {` theory T imports Pure begin lemma a: "x" by this end `, "theory 1 [N T 8; S imports 10; N Pure 18; S begin 23] lemma 29 [N a 35; S : 36; T x 38] by 42 [M this 45] end 50 []"}, {"qed qed by x", "qed 0 [] qed 4 [] by 8 [M x 11]"},
	} {
		l, at, e := outer.Commands(c.text)
		var got []string
		for _, x := range l {
			got = append(got, fmt.Sprintf("%s %d [%s]", x.Word, x.At, shown(x.Parts)))
		}
		if s := strings.Join(got, " "); s != c.want || at != 0 || e != api.OK {
			t.Error(i, s, at, e)
		}
	}
	for i, c := range []struct {
		text string
		at   int
		e    api.Errno
	}{
		{"x then", 0, outer.ErrCommand}, {" x", 1, outer.ErrCommand}, {"then x then", 5, outer.ErrCommand}, {"then by then", 8, outer.ErrCommand}, {"then by", 7, outer.ErrCommand}, {"by x fix y :: then", 14, outer.ErrCommand}, {"x ?", 2, token.ErrByte}, {`by by "`, 6, token.ErrString}, {"x (*", 2, token.ErrComment}, {strings.Repeat("x", api.MaxText+1), 0, api.ErrLarge}, {"then then fix", 13, outer.ErrCommand}, {"(* *) begin then", 6, outer.ErrCommand},
	} {
		if l, at, e := outer.Commands(c.text); l != nil || at != c.at || e != c.e {
			t.Error(i, l, at, e)
		}
	}
}

func part(kind int, text string) outer.Part { return outer.Part{Kind: kind, Text: text, At: -3} }

func TestWrite(t *testing.T) {
	num := outer.Part{Kind: outer.Num, Num: 12}
	for i, c := range []struct {
		word  string
		parts []outer.Part
		want  string
	}{
		{"qed", nil, "qed"}, {"from", []outer.Part{part(outer.Name, "a"), part(outer.Name, "b.c")}, "from a b.c"}, {"have", []outer.Part{part(outer.Name, "a"), part(outer.Sign, ":"), part(outer.Text, "x\n\"\\")}, `have a : "x\n\"\\"`}, {"typedecl", []outer.Part{part(outer.Name, "t"), num}, "typedecl t 12"}, {"by", []outer.Part{part(outer.Method, `(auto "x" (* c *) y)`)}, `by (auto "x" (* c *) y)`}, {"qed", []outer.Part{part(outer.Method, "-")}, "qed -"},
	} {
		if s, e := outer.Write(outer.Command{Word: c.word, At: 77, Parts: c.parts}); s != c.want || e != api.OK {
			t.Error(i, s, e)
		}
	}
	numbered := part(outer.Name, "a")
	numbered.Num = 1
	text := num
	text.Text = "12"
	for i, c := range []outer.Command{
		{}, {Word: "x"}, {Word: "qed "}, {Word: "from"}, {Word: "from a", Parts: []outer.Part{part(outer.Name, "b")}}, {Word: "from", Parts: []outer.Part{part(outer.Name, "a b")}}, {Word: "from", Parts: []outer.Part{part(outer.Name, "")}}, {Word: "from", Parts: []outer.Part{part(outer.Name, "by")}}, {Word: "from", Parts: []outer.Part{numbered}}, {Word: "from", Parts: []outer.Part{part(outer.Sign, "a")}}, {Word: "from", Parts: []outer.Part{part(outer.Text, "a")}}, {Word: "from", Parts: []outer.Part{part(0, "a")}}, {Word: "from", Parts: []outer.Part{part(math.MinInt, "a")}},
		{Word: "typedecl", Parts: []outer.Part{part(outer.Name, "t"), text}}, {Word: "typedecl", Parts: []outer.Part{part(outer.Name, "t"), {Kind: outer.Num, Num: -1}}}, {Word: "typedecl", Parts: []outer.Part{part(outer.Name, "t"), {Kind: outer.Num, Num: 10000000}}}, {Word: "typedecl", Parts: []outer.Part{part(outer.Name, "t"), {Kind: outer.Num, Num: math.MinInt}}},
		{Word: "by", Parts: []outer.Part{part(outer.Method, "auto ")}}, {Word: "by", Parts: []outer.Part{part(outer.Method, "auto (* *)")}}, {Word: "by", Parts: []outer.Part{part(outer.Method, "by")}}, {Word: "by", Parts: []outer.Part{part(outer.Method, "a"), part(outer.Method, "b")}}, {Word: "by", Parts: []outer.Part{part(outer.Method, "?")}}, {Word: "by", Parts: []outer.Part{part(outer.Method, "")}}, {Word: "qed", Parts: []outer.Part{part(outer.Method, "")}},
		{Word: "have", Parts: []outer.Part{part(outer.Text, strings.Repeat("x", api.MaxText))}}, {Word: "have", Parts: []outer.Part{part(outer.Text, strings.Repeat("x", api.MaxText-6))}}, {Word: "fix", Parts: slices.Repeat([]outer.Part{part(outer.Text, "x")}, 1000)},
	} {
		if s, e := outer.Write(c); s != "" || e != outer.ErrCommand {
			t.Error(i, s, e)
		}
	}
	if s, e := outer.Write(outer.Command{Word: "have", Parts: []outer.Part{part(outer.Text, strings.Repeat("x", api.MaxText-7))}}); len(s) != api.MaxText || e != api.OK {
		t.Error(len(s), e)
	}
	x := part(outer.Name, "x")
	if s, e := outer.Write(outer.Command{Word: "fix", Parts: slices.Repeat([]outer.Part{x}, 1000)}); len(s) != 2003 || e != api.OK {
		t.Error(len(s), e)
	}
	if s, e := outer.Write(outer.Command{Parts: slices.Repeat([]outer.Part{x}, 1001)}); s != "" || e != api.ErrCount {
		t.Error(s, e)
	}
}

func TestEdited(t *testing.T) {
	for i, c := range []struct {
		text        string
		at, removed int
		inserted    string
		want        string
		isNew       int
	}{
		{"", 0, 0, "", "", 0}, {"", 0, 0, "by", "by 0-2", 1}, {"by", 0, 2, "", "", 0}, {"by x by y by z", 5, 0, "", "by 0-5; by 5-10; by 10-14", 0}, {"by x by y by z", 6, 0, "", "by 0-5; by 5-10; by 10-14", 1}, {"by x by y by z", 8, 1, "zz", "by 0-5; by 5-11; by 11-15", 1}, {"by x by y by z", 14, 0, " u", "by 0-5; by 5-10; by 10-16", 1}, {"by x by y by z", 0, 0, " ", " 0-1; by 1-6; by 6-11; by 11-15", 1}, {"by x by y by z", 0, 0, "qed ", "qed 0-4; by 4-9; by 9-14; by 14-18", 1},
		{"by x by y by z", 5, 5, "", "by 0-5; by 5-9", 0}, {"by x by y by z", 5, 0, "by y ", "by 0-5; by 5-10; by 10-15; by 15-19", 1}, {"by x by y by z", 4, 1, "", "by 0-9; by 9-13", 1}, {"by x by y by z", 0, 0, `"`, " 0-1; by 1-6; by 6-11; by 11-15", 1}, {"by x by y by z", 5, 0, "(*", "by 0-7; by 7-12; by 12-16", 1}, {"by x (* by y *) by z", 5, 2, "", "by 0-6; by 6-14; by 14-18", 2}, {`by "x" by "y"`, 3, 1, "", "by 0-12", 1}, {"by x by y", 2, 5, " ", "by 0-5", 1}, {"by x by y", 0, 9, "by x by y", "by 0-5; by 5-9", 2},
		{"by a by a by a", 5, 0, "by a ", "by 0-5; by 5-10; by 10-15; by 15-19", 1}, {"by a by a by a", 5, 5, "by a ", "by 0-5; by 5-10; by 10-14", 1}, {" by", 0, 1, "", "by 0-2", 0}, {"by", 2, 0, "by", " 0-4", 1}, {"by ", 3, 0, "by", "by 0-3; by 3-5", 1},
	} {
		l, n, e := outer.Edited(outer.Spans(c.text), c.text, c.at, c.removed, c.inserted)
		if shownSpans(l) != c.want || n != c.isNew || e != api.OK {
			t.Errorf("%d %q: %s %d %v", i, c.text, shownSpans(l), n, e)
		}
	}
	long := strings.Repeat("x", api.MaxText)
	for i, c := range []struct {
		old         []outer.Span
		text        string
		at, removed int
		inserted    string
		e           api.Errno
	}{
		{nil, long + "x", -1, 0, "", api.ErrLarge}, {nil, "by", -1, 0, long, api.ErrRange}, {nil, "by", 0, -1, "", api.ErrRange}, {nil, "by", 3, 0, "", api.ErrRange}, {nil, "by", 1, 2, "", api.ErrRange}, {nil, "by", math.MaxInt, math.MaxInt, "", api.ErrRange}, {nil, "by", 1, math.MaxInt, "", api.ErrRange}, {nil, "by", 2, 0, long, api.ErrLarge}, {nil, "by", 0, 0, "", api.ErrArgument}, {[]outer.Span{{"by", 0, 2}, {}}, "by", 0, 0, "", api.ErrArgument}, {[]outer.Span{{"", 0, 2}}, "by", 0, 0, "", api.ErrArgument},
		{nil, "", 0, 0, long, api.OK}, {outer.Spans(long), long, 0, 0, "", api.OK}, {outer.Spans(long), long, 0, 1, "y", api.OK}, {outer.Spans(long), long, 0, 0, "y", api.ErrLarge},
	} {
		if l, n, e := outer.Edited(c.old, c.text, c.at, c.removed, c.inserted); e != c.e || e != api.OK && (l != nil || n != 0) {
			t.Error(i, len(l), n, e)
		}
	}
}
