package lexer_test

import (
	"math/rand"
	"slices"
	"strconv"
	"strings"
	"testing"

	"columbary/api"
	"columbary/lexer"
)

func word(s string) api.Token { return api.Token{Kind: api.Word, Text: s} }
func text(s string) api.Token { return api.Token{Kind: api.Text, Text: s} }
func sign(s string) api.Token { return api.Token{Kind: api.Sign, Text: s} }
func number(s string) api.Token {
	n, _ := strconv.Atoi(s)
	return api.Token{Kind: api.Number, Text: s, Num: n}
}

const (
	most = "4611686018427387904"
	more = "4611686018427387905"
)

func TestTokens(t *testing.T) {
	long := strings.Repeat("q", 400)
	value := strings.Repeat("x", api.MaxText)
	for s, want := range map[string][]api.Token{
		"": nil, "  \t\n ": nil, "a": {word("a")}, "sum(x_1)<-40": {word("sum"), sign("("), word("x_1"), sign(")"), sign("<"), number("-40")},
		"select count": {word("select"), word("count")}, " a\tb\nc ": {word("a"), word("b"), word("c")}, "a1_b2": {word("a1_b2")}, "abz019": {word("abz019")}, "a__": {word("a__")},
		"1a": {number("1"), word("a")}, "a-1": {word("a"), number("-1")}, "1-1": {number("1"), number("-1")}, "12 34": {number("12"), number("34")}, "0": {number("0")}, "0 0": {number("0"), number("0")}, "-7": {number("-7")}, "9a0": {number("9"), word("a0")},
		most: {number(most)}, "-" + most: {number("-" + most)}, "10": {number("10")}, "1234567890": {number("1234567890")},
		`""`: {text("")}, `"a b"`: {text("a b")}, `"a""b"`: {text("a"), text("b")}, `a"b"c`: {word("a"), text("b"), word("c")}, `"` + value + `"`: {text(value)}, `" !#[]~"`: {text(" !#[]~")}, `"(,)"`: {text("(,)")},
		",()=<>": {sign(","), sign("("), sign(")"), sign("="), sign("<"), sign(">")}, "a=\"x\"": {word("a"), sign("="), text("x")}, "<=": {sign("<"), sign("=")},
		long: {word(long)}, strings.Repeat(" ", 399) + "a": {word("a")},
	} {
		l, e := lexer.Tokens(s)
		if e != api.OK || !slices.Equal(l, want) {
			t.Errorf("%q: %v, %v", s, l, e)
		}
	}
}

func TestWrong(t *testing.T) {
	for _, s := range []string{
		strings.Repeat("q", 401), strings.Repeat(" ", 401), "-", "- 1", "a -", "--1", "-a", "5-", "01", "00", "-01", "-00", "a 007", more, "-" + more, "99999999999999999999", strings.Repeat("9", 400), "9223372036854775807", "18446744073709551617",
		`"`, `"a`, `a "`, `"a\"`, `"a\b"`, "\"a\nb\"", "\"a\tb\"", "\"\x7f\"", `"é"`, "\"\x00\"", `"` + strings.Repeat("x", api.MaxText+1) + `"`, `"a" "`,
		"A", "aB", "_", "_a", "a;", "a.b", "a+b", "+1", "a*", "!", "'a'", "a\rb", "\x00", "é", "a\xff", "{", "`", "/", ":", "@", "[", "&", ";", "?", "\v", "\f", "a\u00a0b", "~", "|",
	} {
		if l, e := lexer.Tokens(s); len(l) != 0 || e != api.ErrToken {
			t.Errorf("%q: %v, %v", s, l, e)
		}
	}
	for i := range 256 {
		c := byte(i)
		_, e := lexer.Tokens(string([]byte{c}))
		fits := c >= 'a' && c <= 'z' || c >= '0' && c <= '9' || strings.IndexByte(" \t\n,()=<>", c) >= 0
		if (e == api.OK) != fits {
			t.Errorf("byte %d: %v", i, e)
		}
	}
}

func TestRight(t *testing.T) {
	for _, x := range []api.Token{word("a"), word("select"), word("a_1"), word(strings.Repeat("a", 400)), number("0"), number("-7"), number(most), number("-" + most), text(""), text("a b"), text(strings.Repeat("x", api.MaxText)), sign(","), sign("("), sign(")"), sign("="), sign("<"), sign(">")} {
		if !lexer.Right(x) {
			t.Errorf("%v is right", x)
		}
	}
	for _, x := range []api.Token{
		{}, word(""), word("A"), word("1"), word("_a"), word("a b"), word(" a"), word("a "), word("\"a\""), word(","), word("a,"), word(strings.Repeat("a", 401)),
		number(""), number("01"), number("-"), number("1 "), number(" 1"), number("1 2"), number("a"), number("+1"), number(more), {Kind: api.Number, Text: "5", Num: 6}, {Kind: api.Number, Text: "5"}, {Kind: api.Number, Num: 5}, {Kind: api.Number, Text: "-5", Num: 5},
		text("\""), text("a\" \"b"), text("\\"), text("\n"), text("é"), text(strings.Repeat("x", api.MaxText+1)), sign(""), sign(",,"), sign("a"), sign(";"), sign(" ,"), sign("\"a\""),
		{Kind: api.Word, Text: "a", Num: 1}, {Kind: api.Text, Text: "a", Num: 1}, {Kind: api.Sign, Text: ",", Num: 1}, {Kind: 4, Text: "a"}, {Kind: -1, Text: "a"}, {Kind: 4, Text: "5", Num: 5}, {Kind: api.Sign, Text: "5", Num: 5}, {Kind: api.Word, Text: "5", Num: 5},
	} {
		if lexer.Right(x) {
			t.Errorf("%v is not right", x)
		}
	}
}

func TestText(t *testing.T) {
	l := []api.Token{word("select"), word("sum"), word("m"), sign("("), text("a b"), text(""), number("-7"), sign("<")}
	if s := lexer.Text(l); s != `select sum m ( "a b" "" -7 <` {
		t.Errorf("%q", s)
	}
	if l[4].Text != "a b" {
		t.Error("changed")
	}
	if lexer.Text(nil) != "" || lexer.Text(l[:1]) != "select" || lexer.Text(l[5:6]) != `""` {
		t.Error("few")
	}
}

// TestThereAndBack: the text of right tokens, if it is not too long, has just these.
func TestThereAndBack(t *testing.T) {
	r := rand.New(rand.NewSource(1))
	one := func() api.Token {
		switch r.Intn(5) {
		case 0:
			return word(string(rune('a'+r.Intn(26))) + []string{"", "_", "9", "z_0", "select"}[r.Intn(5)])
		case 1:
			return number(strconv.Itoa((r.Intn(api.MaxInt) - api.MaxInt/2) >> r.Intn(63)))
		case 2:
			return number([]string{"0", "-1", most, "-" + most, "10"}[r.Intn(5)])
		case 3:
			return text([]string{"", " ", "(", "a = b", "-1", "'", "x,y"}[r.Intn(7)])
		}
		return sign(string(",()=<>"[r.Intn(6)]))
	}
	for range 3000 {
		var l []api.Token
		for range r.Intn(30) {
			x := one()
			if !lexer.Right(x) {
				t.Fatalf("%v", x)
			}
			l = append(l, x)
		}
		s := lexer.Text(l)
		if len(s) > api.MaxQuery {
			continue
		}
		got, e := lexer.Tokens(s)
		if e != api.OK || !slices.Equal(got, l) || lexer.Text(got) != s {
			t.Fatalf("%q: %v, %v", s, got, e)
		}
		for _, x := range got {
			if !lexer.Right(x) {
				t.Fatalf("%v of %q", x, s)
			}
		}
	}
}

// TestAnyText: whatever a text is, each token that it has is right.
func TestAnyText(t *testing.T) {
	r := rand.New(rand.NewSource(2))
	for range 20000 {
		b := make([]byte, r.Intn(8))
		for i := range b {
			b[i] = "ab_09-\" ,(=<\n\\"[r.Intn(14)]
		}
		l, e := lexer.Tokens(string(b))
		if e != api.OK {
			continue
		}
		again, e := lexer.Tokens(lexer.Text(l))
		if e != api.OK || !slices.Equal(again, l) {
			t.Fatalf("%q: %v, %v", b, l, again)
		}
		for _, x := range l {
			if !lexer.Right(x) {
				t.Fatalf("%v of %q", x, b)
			}
		}
	}
}
