package curtain

import (
	"reflect"
	"slices"
	"sync"
	"testing"
	"unsafe"

	"curtain/api"
)

// roomy puts a list ahead of spare room in which something stands.
func roomy[T any](list []T, spare T) []T {
	full := append(slices.Clone(list), spare, spare)
	return full[:len(list)]
}

// roomyBase is a right base of which each list has spare room.
func roomyBase() api.Base {
	x := people()
	for i := range x.Rows {
		x.Rows[i] = roomy(x.Rows[i], num(99))
	}
	x.Cols = roomy(x.Cols, col("spare", "n"))
	x.Rows = roomy(x.Rows, in(num(98)))
	x.Users = roomy(x.Users, "spare")
	funcs := append(helpers(), fn("f", "nt", "(if (isnull (note $1)) (note $2) $2)"))
	return api.Base{Funcs: roomy(funcs, fn("spare", "", "1")), Tables: roomy([]api.Table{x}, people())}
}

// whole is a base with its lists up to the end of their spare room.
func whole(b api.Base) api.Base {
	b.Funcs = b.Funcs[:cap(b.Funcs)]
	b.Tables = slices.Clone(b.Tables[:cap(b.Tables)])
	for i := range b.Tables {
		x := &b.Tables[i]
		x.Cols = x.Cols[:cap(x.Cols)]
		x.Users = x.Users[:cap(x.Users)]
		x.Rows = slices.Clone(x.Rows[:cap(x.Rows)])
		for j := range x.Rows {
			x.Rows[j] = x.Rows[j][:cap(x.Rows[j])]
		}
	}
	return b
}

func TestCallsDoNotWriteIntoTheirArguments(t *testing.T) {
	b := roomyBase()
	args := roomy(in(nothing, txt("abc")), num(97))
	Check(b)
	Quiet(b, "f")
	Call(b, "me", "f", args)
	if !reflect.DeepEqual(whole(b), whole(roomyBase())) {
		t.Errorf("the base is now %+v", whole(b))
	}
	if got := args[:cap(args)]; !slices.Equal(got[:4], in(nothing, txt("abc"), num(97), num(97))) {
		t.Errorf("the arguments are now %+v", got)
	}
}

func sharesMemory(a, b string) bool {
	from, to := uintptr(unsafe.Pointer(unsafe.StringData(a))), uintptr(unsafe.Pointer(unsafe.StringData(b)))
	return len(a) > 0 && len(b) > 0 && from < to+uintptr(len(b)) && to < from+uintptr(len(a))
}

func TestCallAnswersNewMemory(t *testing.T) {
	user, arg, body := string([]byte("me")), string([]byte("abc")), string([]byte("'quoted'"))
	b := withFuncs(fn("who", "", "(note user)"), fn("same", "t", "(note $1)"), fn("const", "", body), fn("catone", "t", "(cat $1)"))
	for name, args := range map[string][]api.Cell{"who": nil, "same": {txt(arg)}, "const": nil, "catone": {txt(arg)}} {
		value, notes, e := Call(b, user, name, args)
		if e != api.OK {
			t.Errorf("Call of %s: %d", name, e)
		}
		for _, told := range append(notes, value.S) {
			if sharesMemory(told, user) || sharesMemory(told, arg) || sharesMemory(told, body) {
				t.Errorf("Call of %s answers a piece of an argument", name)
			}
		}
	}
	_, first, _ := Call(b, user, "who", nil)
	_, second, _ := Call(b, user, "who", nil)
	first[0] = "changed"
	_ = append(first, "more")
	if second[0] != "'me'" {
		t.Error("two answers share notes")
	}
}

func TestCallsHangOnTheirArgumentsAlone(t *testing.T) {
	b := roomyBase()
	var joined sync.WaitGroup
	for i := range 8 {
		joined.Go(func() {
			for range 100 {
				wantCheck(t, "a shared base", b, api.OK)
				wantQuiet(t, b, "loud", false, api.OK)
				value, told, e := Call(b, "me", "f", in(num(i), txt("a")))
				if value != txt("a") || len(told) != 1 || e != api.OK {
					t.Errorf("Call beside others: %+v, %q, %d", value, told, e)
				}
			}
		})
	}
	joined.Wait()
}
