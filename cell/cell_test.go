package cell

import (
	"strings"
	"testing"

	"curtain/api"
)

func TestTypeOf(t *testing.T) {
	for c := range 256 {
		want := map[int]int{'n': api.Number, 't': api.Text, 'b': api.Truth}[c]
		if got := TypeOf(byte(c)); got != want {
			t.Errorf("TypeOf(%d) = %d, want %d", c, got, want)
		}
	}
}

func TestFits(t *testing.T) {
	for _, c := range []api.Cell{{}, Number(api.MaxNumber), Number(-api.MaxNumber), Text(""), Text(strings.Repeat("\xff", api.MaxLong)), Truth(true), Truth(false)} {
		for kind := api.Number; kind <= api.Truth; kind++ {
			if got, want := Fits(c, kind), c.Kind == kind || IsNothing(c); got != want {
				t.Errorf("Fits(%+v, %d) = %t", c, kind, got)
			}
		}
	}
	for _, c := range []api.Cell{{N: 1}, {S: "x"}, Number(api.MaxNumber + 1), Number(-api.MaxNumber - 1), Text(strings.Repeat("x", api.MaxLong+1)), {Kind: api.Text, N: 1}, {Kind: api.Truth, N: 2}, {Kind: 4}, {Kind: -1}} {
		for kind := api.None; kind <= api.Truth; kind++ {
			if IsCell(c) || Fits(c, kind) {
				t.Errorf("%+v fits %d", c, kind)
			}
		}
	}
}

func TestNoted(t *testing.T) {
	for want, c := range map[string]api.Cell{"-": {}, "0": Number(0), "-7": Number(-7), "''": Text(""), "'it's'": Text("it's"), "true": Truth(true), "false": Truth(false)} {
		if got := Noted(c); got != want {
			t.Errorf("Noted(%+v) = %q, want %q", c, got, want)
		}
	}
}

func TestCompare(t *testing.T) {
	for _, rising := range [][]api.Cell{{{}, Number(-2), Number(-1), Number(0), Number(10)}, {{}, Text(""), Text("10"), Text("9"), Text("a"), Text("aa"), Text("\xff")}, {{}, Truth(false), Truth(true)}} {
		for i, a := range rising {
			for j, b := range rising {
				if got := Compare(a, b); (got < 0) != (i < j) || (got == 0) != (i == j) {
					t.Errorf("Compare(%+v, %+v) = %d", a, b, got)
				}
			}
		}
	}
}
