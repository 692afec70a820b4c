package curtain

import (
	"math/rand"
	"regexp"
	"strings"
	"sync"
	"testing"
	"unsafe"

	"curtain/api"
)

func wantTidy(t *testing.T, s, want string) {
	t.Helper()
	if got, e := Tidy(s); got != want || e != api.OK {
		t.Errorf("Tidy(%q) = %q, %d, want %q", s, got, e, want)
	}
}

func wantSame(t *testing.T, texts ...string) {
	t.Helper()
	for _, s := range texts {
		wantTidy(t, s, s)
	}
}

func wantNone(t *testing.T, texts ...string) {
	t.Helper()
	for _, s := range texts {
		if got, e := Tidy(s); got != "" || e != api.ErrText {
			t.Errorf("Tidy(%q) = %q, %d, want ErrText", s, got, e)
		}
	}
}

func nested(deep int, inner string) string {
	return strings.Repeat("(f ", deep) + inner + strings.Repeat(")", deep)
}

func TestTidyOfDocument(t *testing.T) {
	wantTidy(t, "( and(= a.x   1)b.y)", "(and (= a.x 1) b.y)")
	wantNone(t, "", "()", "(f", "x", "01", "-0", "(+ 1 2) 3", "(true)", "(a.b 1)", "'it's'", "(-1)", "(= 1'x')")
	wantSame(t, "(- 1)", "(if (= $1 0) (note 0) (/ 100 $1))", "(< 0 a.k)", "(and (= a.k b.k) (< a.k 5))", "row.h")
}

func TestTidyNumerals(t *testing.T) {
	wantSame(t, "0", "1", "9", "10", "-1", "-10", "999999999", "1000000000", "-1000000000", "(f -1 0 10)")
	wantNone(t, "-0", "00", "01", "-01", "--1", "+1", "- 1", "-", "1-", "1-1", "1a", "1e3", "1.5", "1_000", "0x1", "０",
		"1000000001", "-1000000001", "2000000000", "9999999999", "10000000000", "01000000000",
		"18446744073709551617", "-18446744073709551617", "9223372036854775808", strings.Repeat("9", 400))
}

func TestTidyQuotes(t *testing.T) {
	all := ""
	for c := byte(32); c <= 126; c++ {
		if c == '\'' {
			wantNone(t, "'''")
			continue
		}
		all += string(rune(c))
		wantSame(t, "'"+string(rune(c))+"'")
	}
	for i := 0; i < len(all); i += api.MaxLong {
		wantSame(t, "'"+all[i:min(i+api.MaxLong, len(all))]+"'")
	}
	for c := range 256 {
		if c < 32 || c > 126 {
			wantNone(t, "'"+string([]byte{byte(c)})+"'")
		}
	}
	wantSame(t, "''", "'  a  '", "'(f'", "')'", "'true'", "'$1'", "'"+strings.Repeat("x", 30)+"'", "(f 'a  (b' ') ')")
	wantNone(t, "'", "'a", "a'", "'a''b'", "''''", "'a'b", "'a'1", "'a'$1", "'a'true", "1'a'", "a'b'", "'é'", "'a\tb'", "'a\nb'",
		"'"+strings.Repeat("x", 31)+"'", "'"+strings.Repeat(" ", 31)+"'", "(f 'a)", "(f'a')", "(f 'a''b')", "(f 'a' 'b)", "'a' 'b'", "\"a\"", "'a'.b")
}

func TestTidyWords(t *testing.T) {
	wantSame(t, "true", "false", "user", "(f true false user)", "(a)", "(z9)", "(twelvebytes1)", "(true1)", "(users)", "(tru)", "(f2f3)")
	wantNone(t, "x", "and", "note", "True", "TRUE", "truefalse", "true1", "(f x)", "(f and)", "(f (g) h)", "(and or)",
		"(thirteenbytes)", "(thirteenbyte1)", "(F)", "(aB)", "(a_b)", "(1f)", "(é)", "(f!)", "(a-b)", "(f\x00)", "\x00")
}

func TestTidyColumns(t *testing.T) {
	twelve, thirteen := "twelvebytes1", "thirteenbytes"
	wantSame(t, "a.b", "a1.b2", twelve+"."+twelve, "true.user", "user.and", "false.x", "(f a.b row.k)")
	wantNone(t, "a.", ".b", ".", "..", "a..b", "a.b.c", "a. b", "a .b", "a . b", "A.b", "a.B", "1.b", "a.1", "a.1b", "a.b ' '", "$1.b", "a.$1",
		thirteen+".a", "a."+thirteen, "a.'b'", "a.b-")
}

func TestTidyParameters(t *testing.T) {
	for c := byte('1'); c <= '9'; c++ {
		wantSame(t, "$"+string(rune(c)))
	}
	wantSame(t, "(f $1 $9)")
	wantNone(t, "$", "$0", "$00", "$01", "$10", "$11", "$a", "$-1", "$ 1", "$$1", "1$", "$1$2", "$1 $2", "$$")
}

func TestTidyHeads(t *testing.T) {
	wantSame(t, "(f)", "(and)", "(+)", "(+ 1 2)", "(-)", "(- -1)", "(* 1 2 3)", "(/ 'a')", "(= 1 'x')", "(< 1 2)", "(<= 1 2)", "(not true)")
	wantNone(t, "+", "-", "*", "/", "=", "<", "<=", "(f +)", "(+ +)", "(- - 1)", "(f <=)",
		"(> 1 2)", "(>= 1 2)", "(=< 1 2)", "(== 1 2)", "(< = 1 2)", "(<== 1 2)", "(!= 1 2)", "(% 1 2)", "(! true)", "(++ 1 2)",
		"(0)", "(1 2)", "(-1)", "('f')", "('f' 1)", "($1)", "($1 1)", "(a.b)", "(a.b 1)", "(true)", "(false 1)", "(user)", "((f))", "((f) 1)", "(())", "( )")
}

func TestTidyBrackets(t *testing.T) {
	wantSame(t, "(f (g (h)) (i))", "(f 1 (g 2) 3)")
	wantNone(t, "(", ")", ")(", "(f", "f)", "(f))", "((f)", "(f (g)", "(f 1", "(f) 1", "1 (f)", "(f) (g)", "(f)(g)", "1 2", "true false", "[f]", "{f}", "(f,1)", "(f 1;)")
}

func TestTidyDeep(t *testing.T) {
	wantSame(t, nested(api.MaxDeep-1, "1"), nested(api.MaxDeep, "1"), nested(api.MaxDeep-1, "(g)"))
	wantNone(t, nested(api.MaxDeep+1, "1"), nested(api.MaxDeep, "(g)"), nested(api.MaxDeep, "1 (g) 1"), strings.Repeat("(", 400), strings.Repeat("(f", 200), strings.Repeat(")", 400))
	// Brackets beside each other are no deeper than one of them.
	wide := "(f" + strings.Repeat(" (g)", 30) + ")"
	wantSame(t, wide, nested(api.MaxDeep-2, wide), nested(api.MaxDeep-1, "(g) (g) (g)"))
	wantNone(t, nested(api.MaxDeep-1, wide))
}

func TestTidyBlanks(t *testing.T) {
	for _, blank := range []string{" ", "\t", "\n", "  ", " \t\n", "\n\n\t "} {
		wantTidy(t, blank+"1"+blank, "1")
		wantTidy(t, strings.ReplaceAll("_(_f_1_'a'_(_g_)_a.b_$1_true_(_h_-1_)_)_", "_", blank), "(f 1 'a' (g) a.b $1 true (h -1))")
		wantTidy(t, strings.ReplaceAll("(<=_1_2)", "_", blank), "(<= 1 2)")
		wantNone(t, blank, "("+blank+")", "-"+blank+"1", "(f 1"+blank)
	}
	// Ahead of a bracket and behind it there need be none.
	wantTidy(t, "(f(g)1(h)'a'(i)a.b(j)$1(k)true(l))", "(f (g) 1 (h) 'a' (i) a.b (j) $1 (k) true (l))")
	wantTidy(t, "(-(f)-1(g)0)", "(- (f) -1 (g) 0)")
	wantTidy(t, "(<(f)(g))", "(< (f) (g))")
	// Between two others there must be one.
	wantNone(t, "(=1 2)", "(<=1 2)", "(< =1 2)", "(+a.b 1)", "(-a.b)", "(-$1)", "(='a' 1)", "(f'a')", "(f$1)", "(f.1)", "(f 1'a')", "(f 1a.b)", "(f 1$1)", "(f $1$2)", "(f $1'a')", "(f 'a'a.b)",
		"(f a.b'a')", "(f a.b$1)", "(f 1-1)", "(f 1true)", "(f 'a''b')", "(f 0 1-)")
	for c := range 256 {
		other := string([]byte{byte(c)})
		if !strings.Contains(" \t\n", other) {
			wantNone(t, other+"true", "true"+other, "("+other+"+ 1)", "(f 1"+other+"'a')", "(f"+other+"$1)")
		}
	}
}

func TestTidyLong(t *testing.T) {
	wantTidy(t, "1"+strings.Repeat(" ", api.MaxText-1), "1")
	wantTidy(t, strings.Repeat("\n", api.MaxText-1)+"1", "1")
	wantNone(t, "1"+strings.Repeat(" ", api.MaxText), strings.Repeat("\n", api.MaxText)+"1", strings.Repeat(" ", api.MaxText))
	full := "(f" + strings.Repeat(" 1", 198) + " )"
	if len(full) != api.MaxText {
		t.Fatalf("the text has %d bytes", len(full))
	}
	wantTidy(t, full, "(f"+strings.Repeat(" 1", 198)+")")
	wantNone(t, full+" ", " "+full)
	// What is bounded is the text that is handed in: with its blanks it may grow beyond that.
	dense := "(f" + strings.Repeat("(g)", 132) + ")"
	grown := "(f" + strings.Repeat(" (g)", 132) + ")"
	wantTidy(t, dense, grown)
	wantNone(t, grown)
	wantNone(t, strings.Repeat("(f ", 1000000), strings.Repeat("'", 1000000), strings.Repeat("1", 1000000))
}

// The oracle reads expressions by a regular expression, brackets up to oracleDeep deep.
const oracleDeep = 4

const (
	wordPattern     = `[a-z][a-z0-9]{0,11}`
	atomPattern     = `(?:0|-?(?:[1-9][0-9]{0,8}|1000000000)|'[ -&(-~]{0,30}'|\$[1-9]|true|false|user|` + wordPattern + `\.` + wordPattern + `)`
	headPattern     = `(?:<=|[-+*/=<]|` + wordPattern + `)`
	anyTokenPattern = `[()]|'[^']*'|[^ \t\n()]+`
)

func oracle() func(s string) (string, bool) {
	bracket := `\([ \t\n]*HEAD(?:[ \t\n]+ATOM)*[ \t\n]*\)`
	for range oracleDeep - 1 {
		bracket = `\([ \t\n]*HEAD(?:[ \t\n]+ATOM)*(?:[ \t\n]*` + bracket + `(?:[ \t\n]*ATOM(?:[ \t\n]+ATOM)*)?)*[ \t\n]*\)`
	}
	pattern := strings.NewReplacer("HEAD", headPattern, "ATOM", atomPattern).Replace(`^[ \t\n]*(?:ATOM|` + bracket + `)[ \t\n]*$`)
	whole := regexp.MustCompile(pattern)
	valueHead := regexp.MustCompile(`\([ \t\n]*(?:true|false|user)(?:[ \t\n()]|$)`)
	quotes := regexp.MustCompile(`'[^']*'`)
	token := regexp.MustCompile(anyTokenPattern)
	return func(s string) (string, bool) {
		if len(s) > api.MaxText || !whole.MatchString(s) || valueHead.MatchString(quotes.ReplaceAllString(s, "''")) {
			return "", false
		}
		joined := strings.Join(token.FindAllString(s, -1), "\x00")
		return strings.NewReplacer("(\x00", "(", "\x00)", ")", "\x00", " ").Replace(joined), true
	}
}

func compare(t *testing.T, s string, want string, right bool) {
	t.Helper()
	if right {
		wantTidy(t, s, want)
	} else {
		wantNone(t, s)
	}
}

func TestTidyOfEachShortText(t *testing.T) {
	read := oracle()
	for a := range 256 {
		one := string([]byte{byte(a)})
		want, right := read(one)
		compare(t, one, want, right)
		for b := range 256 {
			two := string([]byte{byte(a), byte(b)})
			want, right := read(two)
			compare(t, two, want, right)
		}
	}
	const letters = "() -01'a."
	var extend func(s string, more int)
	extend = func(s string, more int) {
		want, right := read(s)
		compare(t, s, want, right)
		for i := range len(letters) {
			if more > 0 {
				extend(s+letters[i:i+1], more-1)
			}
		}
	}
	extend("", 5)
}

func TestTidyOfMixedTexts(t *testing.T) {
	read := oracle()
	random := rand.New(rand.NewSource(1))
	pieces := []string{"(", "(", "(", ")", ")", ")", " ", " ", " ", " ", "\t", "\n", "1", "0", "-1", "-", "<=", "=", "f", "and", "true", "user", "a.b", "$1", "$", "'a'", "'( '", "'", "''", "."}
	rights := 0
	for range 300000 {
		var b strings.Builder
		deep := 0
		for range 1 + random.Intn(12) {
			piece := pieces[random.Intn(len(pieces))]
			if piece == "(" {
				deep++
			}
			if deep <= oracleDeep {
				b.WriteString(piece)
			}
		}
		want, right := read(b.String())
		if right {
			rights++
		}
		compare(t, b.String(), want, right)
	}
	if rights < 1000 {
		t.Errorf("only %d of the texts are expressions", rights)
	}
}

// grower makes right texts of any depth, each beside its tidy form.
type grower struct {
	random *rand.Rand
	loose  strings.Builder
	tidy   strings.Builder
	last   string
}

func (g *grower) put(token string) {
	bracket := g.last == "" || strings.Contains("()", token) || strings.Contains("()", g.last)
	blanks := g.random.Intn(3)
	if !bracket {
		blanks++
	}
	for range blanks {
		g.loose.WriteByte(" \t\n"[g.random.Intn(3)])
	}
	g.loose.WriteString(token)
	if g.last != "" && g.last != "(" && token != ")" {
		g.tidy.WriteByte(' ')
	}
	g.tidy.WriteString(token)
	g.last = token
}

func (g *grower) grow(room int) {
	atoms := []string{"0", "-7", "1000000000", "''", "'a (b'", "true", "false", "user", "a.b", "row.user", "$3"}
	if room == 0 || g.random.Intn(5) == 0 {
		g.put(atoms[g.random.Intn(len(atoms))])
		return
	}
	heads := []string{"+", "-", "*", "/", "=", "<", "<=", "and", "f", "twelvebytes1"}
	g.put("(")
	g.put(heads[g.random.Intn(len(heads))])
	for range g.random.Intn(3) {
		g.grow(room - 1)
	}
	g.put(")")
}

func TestTidyOfGrownTexts(t *testing.T) {
	random := rand.New(rand.NewSource(2))
	for range 20000 {
		g := grower{random: random}
		g.grow(random.Intn(api.MaxDeep + 1))
		loose, tidy := g.loose.String(), g.tidy.String()
		compare(t, loose, tidy, len(loose) <= api.MaxText)
		compare(t, tidy, tidy, len(tidy) <= api.MaxText)
		compare(t, loose+")", "", false)
		compare(t, "("+loose, "", false)
		compare(t, loose+" 1", "", false)
	}
}

func TestTidyOfAnyBytes(t *testing.T) {
	random := rand.New(rand.NewSource(3))
	for range 20000 {
		raw := make([]byte, random.Intn(450))
		random.Read(raw)
		got, e := Tidy(string(raw))
		if (e != api.OK && e != api.ErrText) || (e == api.OK) != (got != "") {
			t.Fatalf("Tidy(%q) = %q, %d", raw, got, e)
		}
	}
}

func TestTidyAnswersNewMemory(t *testing.T) {
	for _, s := range []string{"0", "true", "'abc'", "(f)", "(f 1 2)", " 1 "} {
		got, _ := Tidy(s)
		from, to := uintptr(unsafe.Pointer(unsafe.StringData(s))), uintptr(unsafe.Pointer(unsafe.StringData(got)))
		if to >= from && to < from+uintptr(len(s)) {
			t.Errorf("Tidy(%q) answers a piece of its argument", s)
		}
	}
}

func TestTidyHangsOnItsTextAlone(t *testing.T) {
	var all sync.WaitGroup
	for range 8 {
		all.Go(func() {
			for range 200 {
				wantTidy(t, "(f(g)1)", "(f (g) 1)")
				wantNone(t, "(f(g)1")
			}
		})
	}
	all.Wait()
}
