package curtain

import (
	"fmt"
	"math/rand"
	"slices"
	"strings"
	"testing"

	"curtain/api"
)

// trial is a second working out, for the tests alone: a fault is a panic with its number.
type trial struct {
	args  []api.Cell
	notes []string
}

// sample is a grown expression, beside what the document says of it.
type sample struct {
	text  string
	size  int
	quiet bool
	wrong api.Errno
	value func(tr *trial) api.Cell
}

// sampleFunc is a grown function; the type of its body is a letter.
type sampleFunc struct {
	name, args, letter string
	body               sample
}

// sampler grows expressions of a type, in which some things are wrong if errors is not 0.
type sampler struct {
	random *rand.Rand
	params string
	funcs  []sampleFunc
	errors int
}

func (g *sampler) one(words ...string) string { return words[g.random.Intn(len(words))] }

func (g *sampler) slips() bool { return g.errors > 0 && g.random.Intn(1000) < g.errors }

func atom(text string, c api.Cell) sample {
	return sample{text: text, size: 1, quiet: true, value: func(*trial) api.Cell { return c }}
}

func unknown(text string) sample {
	return sample{text: text, size: 1, quiet: true, wrong: api.ErrName}
}

func (g *sampler) atom(letter string) sample {
	if g.slips() {
		return unknown(g.one("$9", "a.b", "row.k", fmt.Sprintf("$%d", len(g.params)+1)))
	}
	var places []int
	for i := range len(g.params) {
		if g.params[i:i+1] == letter {
			places = append(places, i)
		}
	}
	if len(places) > 0 && g.random.Intn(2) == 0 {
		i := places[g.random.Intn(len(places))]
		return sample{text: fmt.Sprintf("$%d", i+1), size: 1, quiet: true, value: func(tr *trial) api.Cell { return tr.args[i] }}
	}
	switch letter {
	case "n":
		n := []int{0, 1, -1, 2, 7, 100, 40000, -30000, 1000000000, -1000000000}[g.random.Intn(10)]
		return atom(fmt.Sprint(n), num(n))
	case "t":
		if g.random.Intn(4) == 0 {
			return atom("user", txt("me"))
		}
		s := g.one("", "a", "b (", "longer text", "me", "text of twenty bytes")
		return atom("'"+s+"'", txt(s))
	}
	if g.random.Intn(2) == 0 {
		return atom("true", yes())
	}
	return atom("false", no())
}

// bracket puts a head ahead of operands; what is wrong with them counts ahead of what is wrong with it.
func bracket(head string, wrong api.Errno, quiet bool, operands []sample, value func(tr *trial) api.Cell) sample {
	s := sample{text: "(" + head, size: 1, quiet: quiet, value: value}
	for _, o := range operands {
		s.text += " " + o.text
		s.size += o.size
		s.quiet = s.quiet && o.quiet
		if s.wrong == api.OK {
			s.wrong = o.wrong
		}
	}
	s.text += ")"
	if s.wrong == api.OK {
		s.wrong = wrong
	}
	return s
}

// operands grows one for each letter; with a slip, there are others than that.
func (g *sampler) operands(deep int, letters string) ([]sample, api.Errno) {
	wrong := api.OK
	if g.slips() {
		wrong = api.ErrType
		switch g.random.Intn(3) {
		case 0:
			letters += letters + "ntb"
		case 1:
			letters = ""
		case 2:
			letters = strings.NewReplacer("n", "t", "t", "b", "b", "n").Replace(letters[:1]) + letters[1:]
		}
	}
	var list []sample
	for _, letter := range strings.Split(letters, "") {
		if letter != "" {
			list = append(list, g.grow(deep, letter))
		}
	}
	return list, wrong
}

// all works out operands; true, if none is nothing.
func all(tr *trial, operands []sample) ([]api.Cell, bool) {
	var cells []api.Cell
	for _, o := range operands {
		cells = append(cells, o.value(tr))
	}
	return cells, !slices.Contains(cells, nothing)
}

func (g *sampler) grow(deep int, letter string) sample {
	if deep <= 0 || g.random.Intn(5) == 0 {
		return g.atom(letter)
	}
	if g.slips() {
		operands, _ := g.operands(deep-1, g.one("n", "nt"))
		return bracket("nosuch", api.ErrName, true, operands, nil)
	}
	switch g.random.Intn(8) {
	case 0:
		return g.note(deep-1, letter)
	case 1:
		return g.choice(deep-1, letter)
	case 2, 3:
		if s, ok := g.call(deep-1, letter); ok {
			return s
		}
	}
	switch letter {
	case "n":
		return g.number(deep - 1)
	case "t":
		return g.cat(deep - 1)
	}
	return g.truth(deep - 1)
}

func (g *sampler) note(deep int, letter string) sample {
	operand := g.grow(deep, letter)
	return bracket("note", api.OK, false, []sample{operand}, func(tr *trial) api.Cell {
		c := operand.value(tr)
		tr.notes = append(tr.notes, []string{"-", fmt.Sprint(c.N), "'" + c.S + "'", fmt.Sprint(c.N == 1)}[c.Kind])
		return c
	})
}

func (g *sampler) choice(deep int, letter string) sample {
	list, wrong := g.operands(deep, "b"+letter+letter)
	return bracket("if", wrong, true, list, func(tr *trial) api.Cell {
		if list[0].value(tr) == yes() {
			return list[1].value(tr)
		}
		return list[2].value(tr)
	})
}

func (g *sampler) call(deep int, letter string) (sample, bool) {
	var fitting []sampleFunc
	for _, f := range g.funcs {
		if f.letter == letter && f.args != "" {
			fitting = append(fitting, f)
		}
	}
	if len(fitting) == 0 {
		return sample{}, false
	}
	f := fitting[g.random.Intn(len(fitting))]
	list, wrong := g.operands(deep, f.args)
	s := bracket(f.name, wrong, f.body.quiet, list, func(tr *trial) api.Cell {
		args, _ := all(tr, list)
		inner := trial{args: args, notes: tr.notes}
		defer func() { tr.notes = inner.notes }()
		return f.body.value(&inner)
	})
	s.size += f.body.size
	return s, true
}

func (g *sampler) number(deep int) sample {
	if g.random.Intn(5) == 0 {
		list, wrong := g.operands(deep, "t")
		return bracket("len", wrong, true, list, func(tr *trial) api.Cell {
			cells, full := all(tr, list)
			if !full {
				return nothing
			}
			return num(len(cells[0].S))
		})
	}
	head := g.one("+", "-", "*", "/")
	list, wrong := g.operands(deep, "nn")
	return bracket(head, wrong, false, list, func(tr *trial) api.Cell {
		cells, full := all(tr, list)
		if !full {
			return nothing
		}
		if head == "/" && cells[1].N == 0 {
			panic(api.Zero)
		}
		a, b := float64(cells[0].N), float64(cells[1].N)
		x := map[string]float64{"+": a + b, "-": a - b, "*": a * b, "/": a / b}[head]
		if x > api.MaxNumber || x < -api.MaxNumber {
			panic(api.Over)
		}
		return num(int(x))
	})
}

func (g *sampler) cat(deep int) sample {
	list, wrong := g.operands(deep, g.one("t", "tt", "ttt"))
	return bracket("cat", wrong, false, list, func(tr *trial) api.Cell {
		cells, full := all(tr, list)
		if !full {
			return nothing
		}
		s := ""
		for _, c := range cells {
			s += c.S
		}
		if len(s) > api.MaxLong {
			panic(api.Long)
		}
		return txt(s)
	})
}

func (g *sampler) truth(deep int) sample {
	switch g.random.Intn(4) {
	case 0:
		operand := g.grow(deep, g.one("n", "t", "b"))
		return bracket("isnull", api.OK, true, []sample{operand}, func(tr *trial) api.Cell {
			if operand.value(tr) == nothing {
				return yes()
			}
			return no()
		})
	case 1:
		list, wrong := g.operands(deep, "b")
		return bracket("not", wrong, true, list, func(tr *trial) api.Cell {
			c := list[0].value(tr)
			if c != nothing {
				c.N = 1 - c.N
			}
			return c
		})
	case 2:
		return g.junction(deep)
	}
	return g.comparison(deep)
}

func (g *sampler) junction(deep int) sample {
	head := g.one("and", "or")
	list, wrong := g.operands(deep, g.one("b", "bb", "bbb"))
	return bracket(head, wrong, true, list, func(tr *trial) api.Cell {
		stop, last := no(), yes()
		if head == "or" {
			stop, last = yes(), no()
		}
		for _, o := range list {
			switch o.value(tr) {
			case stop:
				return stop
			case nothing:
				last = nothing
			}
		}
		return last
	})
}

func (g *sampler) comparison(deep int) sample {
	head := g.one("=", "<", "<=")
	letter := g.one("n", "t", "b")
	list, wrong := g.operands(deep, letter+letter)
	return bracket(head, wrong, true, list, func(tr *trial) api.Cell {
		cells, full := all(tr, list)
		if !full {
			return nothing
		}
		a, b := cells[0], cells[1]
		below := a.N < b.N || a.S < b.S
		if head == "<" && below || head == "<=" && (below || a == b) || head == "=" && a == b {
			return yes()
		}
		return no()
	})
}

// function grows a function behind those that there are.
func (g *sampler) function() sampleFunc {
	g.params = ""
	for range g.random.Intn(5) {
		g.params += g.one("n", "t", "b")
	}
	letter := g.one("n", "t", "b")
	return sampleFunc{"f" + fmt.Sprint(len(g.funcs)), g.params, letter, g.grow(1+g.random.Intn(5), letter)}
}

func (f sampleFunc) given() api.Func { return fn(f.name, f.args, f.body.text) }

// wrongWith is what is wrong with the body, where its names and types are grown.
func (f sampleFunc) wrongWith() api.Errno {
	switch {
	case len(f.body.text) > api.MaxText:
		return api.ErrText
	case f.body.wrong != api.OK:
		return f.body.wrong
	case f.body.size > api.MaxSize:
		return api.ErrSize
	}
	return api.OK
}

func (g *sampler) arguments(letters string) []api.Cell {
	var cells []api.Cell
	for _, letter := range letters {
		c := nothing
		if g.random.Intn(4) > 0 {
			c = map[rune][]api.Cell{
				'n': {num(0), num(1), num(-3), num(1000000000), num(31623)},
				't': {txt(""), txt("it's"), txt("\xff"), txt(strings.Repeat("y", 30)), txt("me")},
				'b': {yes(), no(), yes(), no(), yes()},
			}[letter][g.random.Intn(5)]
		}
		cells = append(cells, c)
	}
	return cells
}

func (f sampleFunc) try(args []api.Cell) (value api.Cell, notes []string, fault api.Errno) {
	tr := &trial{args: args}
	defer func() {
		if x := recover(); x != nil {
			value, notes, fault = nothing, tr.notes, x.(api.Errno)
		}
	}()
	value = f.body.value(tr)
	return value, tr.notes, api.OK
}

func TestGrownFunctions(t *testing.T) {
	g := &sampler{random: rand.New(rand.NewSource(4))}
	told := map[api.Errno]int{}
	for range 2000 {
		g.funcs = nil
		var b api.Base
		for range api.MaxFuncs {
			f := g.function()
			b.Funcs = append(b.Funcs, f.given())
			wantCheck(t, f.body.text, b, f.wrongWith())
			told[f.wrongWith()]++
			if f.wrongWith() != api.OK {
				b.Funcs = b.Funcs[:len(b.Funcs)-1]
				continue
			}
			g.funcs = append(g.funcs, f)
			wantQuiet(t, b, f.name, f.body.quiet, api.OK)
			args := g.arguments(f.args)
			value, notes, fault := f.try(args)
			got, gotNotes, e := Call(b, "me", f.name, args)
			if got != value || !slices.Equal(gotNotes, notes) || e != fault {
				t.Fatalf("%+v of %+v: %+v, %q, %d, want %+v, %q, %d", b.Funcs, args, got, gotNotes, e, value, notes, fault)
			}
			told[e]++
			if f.body.quiet && (fault != api.OK || len(notes) > 0) {
				t.Errorf("the quiet %s faults or is noted", f.body.text)
			}
		}
	}
	for _, e := range []api.Errno{api.ErrText, api.ErrSize, api.Zero, api.Over, api.Long} {
		if told[e] < 20 {
			t.Errorf("only %d functions have the error %d", told[e], e)
		}
	}
}

func TestGrownWrongFunctions(t *testing.T) {
	g := &sampler{random: rand.New(rand.NewSource(5))}
	told := map[api.Errno]int{}
	for range 1500 {
		g.funcs, g.errors = nil, 0
		var b api.Base
		for len(b.Funcs) < 4 {
			if f := g.function(); f.wrongWith() == api.OK {
				g.funcs = append(g.funcs, f)
				b.Funcs = append(b.Funcs, f.given())
			}
		}
		g.errors = 60
		for range 10 {
			f := g.function()
			more := withFuncs(append(b.Funcs[:4:4], f.given())...)
			wantCheck(t, f.body.text, more, f.wrongWith())
			told[f.wrongWith()]++
		}
	}
	for _, e := range []api.Errno{api.OK, api.ErrText, api.ErrName, api.ErrType} {
		if told[e] < 100 {
			t.Errorf("only %d functions have the error %d", told[e], e)
		}
	}
}
