package token_test

import (
	"math/rand"
	"regexp"
	"slices"
	"strings"
	"testing"

	"triforium/api"
	"triforium/token"
)

// text returns a random text of parts of tokens.
func text(r *rand.Rand, n int) string {
	parts := []string{"a", "b'", "_1", "end", "1", "20", ".", ".", "'", "?", "=", ">", "=>", "==>", "(", ")", "*", ";", `\<and>`, `\<or>`, `\<`, `\<open>`, `\<close>`, `\`, `"`, `"`, `\n`, `\"`, " ", " ", "\n", "\t", "(*", "*)", "\xc3", "-->", "!!", "~", "&", "%", "|", "!"}
	var b strings.Builder
	for range r.Intn(n) {
		b.WriteString(parts[r.Intn(len(parts))])
	}
	return b.String()
}

// keywords returns random keywords.
func keywords(r *rand.Rand) []string {
	var l []string
	for _, k := range []string{"a", "end", "=", "=>", "==>", "(", ".", `\<and>`, "-->", "*"} {
		if r.Intn(2) == 0 {
			l = append(l, k)
		}
	}
	return l
}

// patterns are what tokens look like, kind by kind, behind the keywords.
var patterns = func() []*regexp.Regexp {
	const id = `[A-Za-z_][A-Za-z_0-9']*`
	var l []*regexp.Regexp
	for _, p := range []string{id, id + `(\.` + id + `)+`, `'` + id, `\?` + id + `(\.[0-9]+)?`, `\?'` + id + `(\.[0-9]+)?`, `[0-9]+`, `[!#$%&*+\-/:<=>@^|~]+|\\<` + id + `>|[()\[\]{},;.]`, `"([^"\\\n]|\\["\\n])*"`} {
		x := regexp.MustCompile(`^(` + p + `)`)
		x.Longest()
		l = append(l, x)
	}
	return l
}()

// between returns what is behind the blanks and comments ahead of a text, false for a comment without an end.
func between(s string) (string, bool) {
	for {
		s = strings.TrimLeft(s, " \t\r\n")
		if !strings.HasPrefix(s, "(*") {
			return s, true
		}
		n, ok := nested(s, "(*", "*)")
		if !ok {
			return s, false
		}
		s = s[n:]
	}
}

// nested returns how long what opens is.
func nested(s, open, end string) (int, bool) {
	depth, at := 0, 0
	for at < len(s) {
		switch {
		case strings.HasPrefix(s[at:], open):
			depth, at = depth+1, at+len(open)
		case strings.HasPrefix(s[at:], end):
			depth, at = depth-1, at+len(end)
		default:
			at++
		}
		if depth == 0 {
			return at, true
		}
	}
	return 0, false
}

// naive is Scan by the words of the chapter; places are counted from the end.
func naive(keywords []string, text string) ([]token.Token, int, api.Errno) {
	var l []token.Token
	for {
		s, ok := between(text)
		if !ok {
			return nil, len(s), token.ErrComment
		}
		if s == "" {
			return l, 0, api.OK
		}
		t, n, e := first(keywords, s)
		if e != api.OK {
			return nil, len(s), e
		}
		t.At = len(s)
		l = append(l, t)
		text = s[n:]
	}
}

// first returns the token with which a text begins, and how long it is.
func first(keywords []string, s string) (token.Token, int, api.Errno) {
	var lengths []int
	for _, p := range patterns {
		lengths = append(lengths, len(p.FindString(s)))
	}
	if strings.HasPrefix(s, `\<open>`) {
		n, ok := nested(s, `\<open>`, `\<close>`)
		if !ok {
			return token.Token{}, 0, token.ErrString
		}
		lengths = append(lengths, n)
	}
	if s[0] == '"' && lengths[7] == 0 {
		return token.Token{}, 0, token.ErrString
	}
	longest := slices.Max(lengths)
	for _, k := range keywords {
		isIdent := patterns[0].FindString(k) == k
		if strings.HasPrefix(s, k) && (!isIdent || lengths[0] == len(k) && lengths[1] == 0) && len(k) >= longest {
			return token.Token{Kind: token.Keyword, Text: k}, len(k), api.OK
		}
	}
	if longest == 0 {
		return token.Token{}, 0, token.ErrByte
	}
	kind := slices.Index(lengths, longest) + 1
	t := token.Token{Kind: kind, Text: s[:longest]}
	switch kind {
	case token.String:
		t.Text = strings.NewReplacer(`\"`, `"`, `\\`, `\`, `\n`, "\n").Replace(s[1 : longest-1])
	case token.Quoted:
		t.Text = s[len(`\<open>`) : longest-len(`\<close>`)]
	}
	return t, longest, api.OK
}

func TestNaive(t *testing.T) {
	r := rand.New(rand.NewSource(1))
	good := 0
	for range 60000 {
		s, k := text(r, 12), keywords(r)
		l, at, e := token.Scan(k, s)
		want, from, we := naive(k, s)
		for i := range want {
			want[i].At = len(s) - want[i].At
		}
		if we != api.OK {
			from = len(s) - from
		}
		if e != we || at != from || !slices.Equal(l, want) {
			t.Fatalf("%q %v: %v %d %v, want %v %d %v", s, k, l, at, e, want, from, we)
		}
		if e == api.OK && len(l) > 2 {
			good++
		}
	}
	if good < 5000 {
		t.Error(good)
	}
}

// same reports whether tokens are the same, wherever they stand.
func same(a, b []token.Token) bool {
	return slices.EqualFunc(a, b, func(x, y token.Token) bool { return x.Kind == y.Kind && x.Text == y.Text })
}

func TestLaws(t *testing.T) {
	r := rand.New(rand.NewSource(2))
	for range 20000 {
		s, k := text(r, 12), keywords(r)
		if token.Plain(token.Symbols(s)) != token.Plain(s) {
			t.Fatalf("Symbols %q", s)
		}
		l, _, e := token.Scan(k, s)
		if e != api.OK {
			continue
		}
		size := 0
		for i, x := range l {
			w, e := token.Write(k, x)
			if e != api.OK || !strings.HasPrefix(s[x.At:], w) || i > 0 && l[i-1].At >= x.At {
				t.Fatalf("places %q %v", s, l)
			}
			size += len(w) + 1
		}
		j, e := token.Join(k, l)
		back, _, f := token.Scan(k, j)
		if e != api.OK || f != api.OK || !same(l, back) || len(j) > max(0, size-1) {
			t.Fatalf("Join of %q is %q", s, j)
		}
		joinedNaive(t, k, l, j)
		more := text(r, 12)
		m, at, e := token.Scan(k, more)
		both, behind, f := token.Scan(k, s+"\n"+more)
		if e != f || e != api.OK && behind != at+len(s)+1 || e == api.OK && !same(both, slices.Concat(l, m)) {
			t.Fatalf("parts %q %q", s, more)
		}
	}
}

// joinedNaive holds Join against its own words.
func joinedNaive(t *testing.T, k []string, l []token.Token, joined string) {
	s := ""
	for i, x := range l {
		w, _ := token.Write(k, x)
		got, _, e := token.Scan(k, s+w)
		if e != api.OK || !same(got, l[:i+1]) {
			s += " "
		}
		s += w
	}
	if s != joined {
		t.Fatalf("Join %v is %q, want %q", l, joined, s)
	}
}

// TestAny gives texts of any bytes and any tokens.
func TestAny(t *testing.T) {
	r := rand.New(rand.NewSource(3))
	for range 20000 {
		b := make([]byte, r.Intn(8))
		for i := range b {
			b[i] = byte(r.Intn(256))
		}
		s := string(b)
		token.Scan([]string{s}, s)
		if token.Plain(token.Symbols(s)) != token.Plain(s) {
			t.Fatalf("%q", s)
		}
		x := token.Token{Kind: r.Intn(14) - 1, Text: s, At: r.Int()}
		w, e := token.Write(nil, x)
		l, _, f := token.Scan(nil, w)
		if e == api.OK && (f != api.OK || !same(l, []token.Token{x})) {
			t.Fatalf("%v %q", x, w)
		}
	}
}
