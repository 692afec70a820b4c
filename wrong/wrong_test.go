package wrong

import (
	"testing"

	"curtain/api"
)

func TestFirst(t *testing.T) {
	for _, c := range []struct {
		errs []api.Errno
		want api.Errno
	}{
		{nil, api.OK},
		{[]api.Errno{api.OK, api.OK}, api.OK},
		{[]api.Errno{api.ErrType}, api.ErrType},
		{[]api.Errno{api.OK, api.ErrType, api.ErrText}, api.ErrType},
		{[]api.Errno{api.Long, api.OK, api.ErrText}, api.Long},
	} {
		if got := First(c.errs...); got != c.want {
			t.Errorf("First(%v) = %d, want %d", c.errs, got, c.want)
		}
	}
}

func TestWhen(t *testing.T) {
	if When(true, api.ErrSize) != api.ErrSize || When(false, api.ErrSize) != api.OK {
		t.Error("When does not hang on what is bad")
	}
}
