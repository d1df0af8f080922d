package token_test

import (
	"fmt"
	"math"
	"slices"
	"strings"
	"testing"

	"triforium/api"
	"triforium/token"
)

// shown returns tokens as texts: the first letters of their kinds, their texts and places.
func shown(l []token.Token) string {
	names := []string{"", "I", "L", "T", "V", "W", "N", "S", "Str", "Q", "K"}
	var r []string
	for _, t := range l {
		r = append(r, fmt.Sprintf("%s %s %d", names[t.Kind], t.Text, t.At))
	}
	return strings.Join(r, "; ")
}

func TestExamples(t *testing.T) {
	l, at, e := token.Scan([]string{"==>"}, `A ==> ?x.1 "b"`)
	if got := shown(l); e != api.OK || at != 0 || got != "I A 0; K ==> 2; V ?x.1 6; Str b 11" {
		t.Error(got, at, e)
	}
	if l, _, e := token.Scan([]string{"=>"}, "=>>"); e != api.OK || shown(l) != "S =>> 0" {
		t.Error(l, e)
	}
}

func TestCheck(t *testing.T) {
	many := make([]string, 501)
	for i := range many {
		many[i] = fmt.Sprint("k", i)
	}
	long := strings.Repeat("a", 40)
	for i, c := range []struct {
		l []string
		e api.Errno
	}{
		{nil, api.OK}, {many[:500], api.OK}, {many, api.ErrCount}, {slices.Repeat([]string{""}, 501), api.ErrCount}, {[]string{"a", "_", "a'1", "==>", "(", ".", `\<and>`, `\<a'_1>`}, api.OK}, {[]string{""}, token.ErrKeyword},
		{[]string{"a", "a"}, api.ErrDuplicate}, {[]string{"a", "", "a"}, token.ErrKeyword}, {[]string{"a", "a", ""}, api.ErrDuplicate}, {[]string{"1"}, token.ErrKeyword}, {[]string{"'a"}, token.ErrKeyword}, {[]string{"?x"}, token.ErrKeyword},
		{[]string{"a.b"}, token.ErrKeyword}, {[]string{"()"}, token.ErrKeyword}, {[]string{"(*"}, token.ErrKeyword}, {[]string{"=a"}, token.ErrKeyword}, {[]string{"a="}, token.ErrKeyword}, {[]string{"a b"}, token.ErrKeyword}, {[]string{" a"}, token.ErrKeyword},
		{[]string{`\<open>`}, token.ErrKeyword}, {[]string{`\<close>`}, token.ErrKeyword}, {[]string{`\<opened>`}, api.OK}, {[]string{`\<>`}, token.ErrKeyword}, {[]string{`\<a`}, token.ErrKeyword}, {[]string{`\<1>`}, token.ErrKeyword}, {[]string{`\<a>>`}, token.ErrKeyword},
		{[]string{`\<a>\<b>`}, token.ErrKeyword}, {[]string{`\`}, token.ErrKeyword}, {[]string{"\xc3\xa4"}, token.ErrKeyword}, {[]string{long}, api.OK}, {[]string{long + "a"}, token.ErrKeyword}, {[]string{strings.Repeat("=", 40)}, api.OK}, {[]string{strings.Repeat("=", 41)}, token.ErrKeyword},
		{[]string{`\<` + long[:37] + ">"}, api.OK}, {[]string{`\<` + long[:38] + ">"}, token.ErrKeyword}, {[]string{`"`}, token.ErrKeyword},
	} {
		if e := token.Check(c.l); e != c.e {
			t.Error(i, e, c.e)
		}
		if _, at, e := token.Scan(c.l, "?"); c.e != api.OK && (e != c.e || at != 0) {
			t.Error(i, "Scan", at, e)
		}
		if s, e := token.Write(c.l, token.Token{}); c.e != api.OK && (e != c.e || s != "") {
			t.Error(i, "Write", e)
		}
		if s, e := token.Join(c.l, make([]token.Token, 1001)); c.e != api.OK && (e != c.e || s != "") {
			t.Error(i, "Join", e)
		}
	}
}

func TestScan(t *testing.T) {
	keys := []string{"a", "end", "=", "=>", "(", ".", `\<and>`, "a'"}
	for i, c := range []struct{ text, want string }{
		{"", ""}, {" \t\n\r", ""}, {"(* a *)", ""}, {"x", "I x 0"}, {" _x'1 ", "I _x'1 1"},
		// keywords that are identifiers
		{"a", "K a 0"}, {"ab", "I ab 0"}, {"a'", "K a' 0"}, {"a''", "I a'' 0"}, {"a.b", "L a.b 0"}, {"a.", "K a 0; K . 1"}, {"a.1", "K a 0; K . 1; N 1 2"}, {"b.a", "L b.a 0"}, {"b.end.x", "L b.end.x 0"}, {"a..b", "K a 0; K . 1; K . 2; I b 3"}, {"end a", "K end 0; K a 4"}, {"ends", "I ends 0"},
		{"a(", "K a 0; K ( 1"}, {"'a", "T 'a 0"}, {"?a", "V ?a 0"}, {"a?a", "K a 0; V ?a 1"},
		// signs
		{"=", "K = 0"}, {"=>", "K => 0"}, {"=>>", "S =>> 0"}, {"==", "S == 0"}, {"= =>", "K = 0; K => 2"}, {"!#$%&*+-/:<=>@^|~", "S !#$%&*+-/:<=>@^|~ 0"}, {"+(", "S + 0; K ( 1"}, {"()[]{},;.", "K ( 0; S ) 1; S [ 2; S ] 3; S { 4; S } 5; S , 6; S ; 7; K . 8"},
		{`\<and>`, `K \<and> 0`}, {`\<or>`, `S \<or> 0`}, {`\<and>>`, `K \<and> 0; S > 6`}, {`<\<or>`, `S < 0; S \<or> 1`}, {`\<close>`, `S \<close> 0`}, {`\<opened>`, `S \<opened> 0`}, {`\<a'_1>`, `S \<a'_1> 0`},
		// names, variables, numbers
		{"b.c", "L b.c 0"}, {"b.c.d", "L b.c.d 0"}, {"b.c.", "L b.c 0; K . 3"}, {"b .c", "I b 0; K . 2; I c 3"}, {"b. c", "I b 0; K . 1; I c 3"}, {"'b.c", "T 'b 0; K . 2; I c 3"}, {"'b'c", "T 'b'c 0"}, {"?x", "V ?x 0"}, {"?x.1", "V ?x.1 0"}, {"?x.01", "V ?x.01 0"}, {"?x.1.2", "V ?x.1 0; K . 4; N 2 5"},
		{"?x.y", "V ?x 0; K . 2; I y 3"}, {"?x.", "V ?x 0; K . 2"}, {"?x. 1", "V ?x 0; K . 2; N 1 4"}, {"?'a", "W ?'a 0"}, {"?'a.12", "W ?'a.12 0"}, {"?'a.b", "W ?'a 0; K . 3; I b 4"}, {"'a.1", "T 'a 0; K . 2; N 1 3"}, {"012", "N 012 0"}, {"1a", "N 1 0; K a 1"}, {"1.2", "N 1 0; K . 1; N 2 2"}, {strings.Repeat("9", 60), "N " + strings.Repeat("9", 60) + " 0"},
		// strings, quotations, comments
		{`""`, "Str  0"}, {`"a b"`, "Str a b 0"}, {`"\"\\\n"`, "Str \"\\\n 0"}, {"\"\t\r\x00\xff\"", "Str \t\r\x00\xff 0"}, {`"(*"`, "Str (* 0"}, {`"a""b"`, "Str a 0; Str b 3"}, {`a"b"c`, `K a 0; Str b 1; I c 4`},
		{`\<open>\<close>`, "Q  0"}, {"\\<open>a\n\"(* ?\\<close>b", "Q a\n\"(* ? 0; I b 22"}, {`\<open>a\<open>b\<close>\<close>`, `Q a\<open>b\<close> 0`}, {`\<open>\<close>\<close>`, `Q  0; S \<close> 15`},
		{"(**)", ""}, {"(*)*)", ""}, {"(* (* *) *)", ""}, {"(*(*)*)*)", ""}, {"b(* *)c", "I b 0; I c 6"}, {"(* \" *)b", "I b 7"}, {"*)", "S * 0; S ) 1"}, {"( *", "K ( 0; S * 2"}, {"+(*)*)-", "S + 0; S - 6"}, {"(* \xff\\ *)", ""},
	} {
		l, at, e := token.Scan(keys, c.text)
		if got := shown(l); got != c.want || at != 0 || e != api.OK {
			t.Errorf("%d %q: %q %d %v", i, c.text, got, at, e)
		}
	}
}

func TestScanErrors(t *testing.T) {
	for i, c := range []struct {
		text string
		at   int
		e    api.Errno
	}{
		{"?", 0, token.ErrByte}, {"a ?", 2, token.ErrByte}, {"a ?1", 2, token.ErrByte}, {"'", 0, token.ErrByte}, {"''a", 0, token.ErrByte}, {"'1", 0, token.ErrByte}, {"?'", 0, token.ErrByte}, {"??x", 0, token.ErrByte}, {`\`, 0, token.ErrByte}, {`\<`, 0, token.ErrByte}, {`\<a`, 0, token.ErrByte}, {`\<a b>`, 0, token.ErrByte},
		{`\<>`, 0, token.ErrByte}, {`a\b`, 1, token.ErrByte}, {"\x00", 0, token.ErrByte}, {"a\xc3\xa4", 1, token.ErrByte}, {"`", 0, token.ErrByte}, {"\v", 0, token.ErrByte}, {`\<open`, 0, token.ErrByte},
		{`"`, 0, token.ErrString}, {`a "b`, 2, token.ErrString}, {"\"a\nb\"", 0, token.ErrString}, {`"\`, 0, token.ErrString}, {`"\"`, 0, token.ErrString}, {`"a\tb"`, 0, token.ErrString}, {`"\<open>"`, 0, token.ErrString}, {`"a" "`, 4, token.ErrString}, {"\"\\\n\"", 0, token.ErrString},
		{`\<open>`, 0, token.ErrString}, {`a\<open>\<open>\<close>`, 1, token.ErrString}, {`\<open>\<close`, 0, token.ErrString},
		{"(*", 0, token.ErrComment}, {"a (* (* *)", 2, token.ErrComment}, {"(*)", 0, token.ErrComment}, {"(* *", 0, token.ErrComment},
		// the first one decides
		{`? "`, 0, token.ErrByte}, {`(* "`, 0, token.ErrComment}, {`"a (*`, 0, token.ErrString}, {`"a" (* ?`, 4, token.ErrComment},
		{strings.Repeat("?", api.MaxText), 0, token.ErrByte}, {strings.Repeat("?", api.MaxText+1), 0, api.ErrLarge}, {strings.Repeat(" ", api.MaxText) + "?", 0, api.ErrLarge},
	} {
		if l, at, e := token.Scan(nil, c.text); l != nil || at != c.at || e != c.e {
			t.Errorf("%d %.20q: %v %d %v", i, c.text, l, at, e)
		}
	}
	if l, at, e := token.Scan(nil, strings.Repeat("a", api.MaxText)); len(l) != 1 || at != 0 || e != api.OK {
		t.Error(len(l), at, e)
	}
}

func TestWrite(t *testing.T) {
	keys := []string{"a", "=", "(", `\<and>`}
	for i, c := range []struct {
		kind       int
		text, want string
	}{
		{token.Ident, "x", "x"}, {token.Keyword, "a", "a"}, {token.Keyword, "=", "="}, {token.Keyword, `\<and>`, `\<and>`}, {token.Long, "a.b", "a.b"}, {token.TypeVar, "'a", "'a"}, {token.Schema, "?x.0", "?x.0"}, {token.SchemaT, "?'a", "?'a"}, {token.Number, "00", "00"}, {token.Symbol, "==", "=="}, {token.Symbol, ")", ")"},
		{token.String, "", `""`}, {token.String, "a\"\\\n", `"a\"\\\n"`}, {token.String, "\x00\xff\r", "\"\x00\xff\r\""}, {token.Quoted, "", `\<open>\<close>`}, {token.Quoted, "a\nb", "\\<open>a\nb\\<close>"}, {token.Quoted, `\<open>\<close>`, `\<open>\<open>\<close>\<close>`},
	} {
		if s, e := token.Write(keys, token.Token{Kind: c.kind, Text: c.text, At: -7}); s != c.want || e != api.OK {
			t.Errorf("%d %q %v", i, s, e)
		}
	}
	for i, c := range []token.Token{
		{}, {Kind: token.Ident}, {Kind: token.Ident, Text: "a"}, {Kind: token.Keyword, Text: "x"}, {Kind: token.Ident, Text: "x.y"}, {Kind: token.Long, Text: "x"}, {Kind: token.Ident, Text: " x"}, {Kind: token.Ident, Text: "x "}, {Kind: token.Ident, Text: "x(**)"}, {Kind: token.Ident, Text: "x y"}, {Kind: token.Symbol, Text: "="},
		{Kind: token.Symbol, Text: "=("}, {Kind: token.Symbol, Text: `\<open>`}, {Kind: token.Symbol, Text: "(*"}, {Kind: token.Quoted, Text: `\<close>`}, {Kind: token.Quoted, Text: `\<open>`}, {Kind: token.Quoted, Text: `\<close>\<open>`}, {Kind: 11, Text: "x"}, {Kind: 0, Text: "x"}, {Kind: math.MinInt, Text: "x"}, {Kind: token.Schema, Text: "x"}, {Kind: token.TypeVar, Text: "a"},
		{Kind: token.Number, Text: "-1"}, {Kind: token.Ident, Text: "\xff"}, {Kind: token.Ident, Text: strings.Repeat("x", api.MaxText+1)}, {Kind: token.String, Text: strings.Repeat("x", api.MaxText-1)}, {Kind: token.String, Text: strings.Repeat("\n", api.MaxText/2)},
	} {
		if s, e := token.Write(keys, c); s != "" || e != api.ErrForm {
			t.Errorf("%d %.20q %v", i, s, e)
		}
	}
	if s, e := token.Write(nil, token.Token{Kind: token.String, Text: strings.Repeat("x", api.MaxText-2)}); len(s) != api.MaxText || e != api.OK {
		t.Error(len(s), e)
	}
}

func TestJoin(t *testing.T) {
	keys := []string{"end", "=", "=>", ".", `\<and>`}
	for i, c := range []struct{ text, want string }{
		{"", ""}, {"x y", "x y"}, {"x = y", "x=y"}, {"= >", "= >"}, {"= =>", "= =>"}, {"x . y", "x. y"}, {"x . 1", "x.1"}, {"?x . 1", "?x. 1"}, {"?x . y", "?x.y"}, {"?'a . 1", "?'a. 1"}, {"'a . b", "'a.b"}, {"x . . y", "x..y"}, {"x.y . z", "x.y. z"}, {"1 . 2", "1.2"}, {"1 2", "1 2"}, {"1 x", "1x"}, {"x 1", "x 1"},
		{"( *", "( *"}, {"( *)", "( *)"}, {"* )", "*)"}, {"+ ( - )", "+(-)"}, {`"a" "b"`, `"a""b"`}, {`\<open>a\<close> b`, `\<open>a\<close>b`}, {`x 'a ?y ?'b`, `x 'a?y?'b`}, {`x 'a`, `x 'a`}, {"x (* c *) end", "x end"}, {`\<and> \<or> >`, `\<and>\<or>>`}, {"end . x", "end. x"}, {". .", ".."}, {"a.b.c . d . e", "a.b.c. d. e"},
	} {
		l, _, e := token.Scan(keys, c.text)
		if e != api.OK {
			t.Fatal(i, e)
		}
		if s, e := token.Join(keys, l); s != c.want || e != api.OK {
			t.Errorf("%d %q %v, want %q", i, s, e, c.want)
		}
	}
}

func TestJoinErrors(t *testing.T) {
	x, none := token.Token{Kind: token.Ident, Text: "x"}, token.Token{Kind: token.Ident}
	if s, e := token.Join(nil, slices.Repeat([]token.Token{x}, 1000)); len(s) != 1999 || e != api.OK {
		t.Error(len(s), e)
	}
	if s, e := token.Join(nil, slices.Repeat([]token.Token{none}, 1001)); s != "" || e != api.ErrCount {
		t.Error(s, e)
	}
	half := token.Token{Kind: token.String, Text: strings.Repeat("y", api.MaxText/2-2)}
	for i, c := range []struct {
		l []token.Token
		e api.Errno
	}{
		{[]token.Token{half, half}, api.OK}, {[]token.Token{half, half, x}, api.ErrLarge}, {[]token.Token{half, half, x, none}, api.ErrForm}, {[]token.Token{x, {}, x}, api.ErrForm},
	} {
		if s, e := token.Join(nil, c.l); e != c.e || e != api.OK && s != "" {
			t.Error(i, len(s), e, c.e)
		}
	}
	a := token.Token{Kind: token.Ident, Text: strings.Repeat("a", api.MaxText/2)}
	b := token.Token{Kind: token.Ident, Text: strings.Repeat("a", api.MaxText/2-1)}
	if s, e := token.Join(nil, []token.Token{a, b}); len(s) != api.MaxText || e != api.OK {
		t.Error(len(s), e)
	}
	if s, e := token.Join(nil, []token.Token{a, a}); s != "" || e != api.ErrLarge {
		t.Error(len(s), e)
	}
}

func TestSymbols(t *testing.T) {
	for i, c := range []struct{ plain, symbols string }{
		{"", ""}, {"a", "a"}, {"A ==> B", `A \<Longrightarrow> B`}, {"-->", `\<longrightarrow>`}, {"==", `\<equiv>`}, {"=>", `\<Rightarrow>`}, {"!!", `\<And>`}, {"%", `\<lambda>`}, {"&", `\<and>`}, {"|", `\<or>`}, {"~", `\<not>`}, {"!", `\<forall>`},
		{"===>", `\<equiv>\<Rightarrow>`}, {"!!!", `\<And>\<forall>`}, {"=", "="}, {"--->", `-\<longrightarrow>`}, {"====", `\<equiv>\<equiv>`}, {"\"&\"", `"\<and>"`}, {"\xff&", "\xff\\<and>"}, {`\<%`, `\<\<lambda>`}, {"==>>", `\<Longrightarrow>>`},
	} {
		if s := token.Symbols(c.plain); s != c.symbols {
			t.Errorf("%d %q", i, s)
		}
		if s := token.Plain(c.symbols); s != c.plain {
			t.Errorf("%d %q", i, s)
		}
	}
	// what is no sign, or no named symbol of the list, stays
	if s := token.Symbols(`\<and>`); s != `\<and>` {
		t.Error(s)
	}
	if s := token.Plain(`\<andy>\<an\<and>d>&`); s != `\<andy>\<an&d>&` {
		t.Error(s)
	}
}
