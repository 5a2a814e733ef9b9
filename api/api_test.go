package api

import "testing"

// TestNumbers: the numbers that the document names.
func TestNumbers(t *testing.T) {
	for want, e := range []Errno{OK, ErrRange, ErrHandle, ErrVariable, ErrLimit, ErrFull, ErrOrder, ErrText, ErrTwice, ErrName, ErrMissing} {
		if int(e) != want {
			t.Errorf("the error %d, want %d", e, want)
		}
	}
	for want, what := range []int{And, Or, Xor, Implies} {
		if what != want {
			t.Errorf("the kind %d, want %d", what, want)
		}
	}
	limits := [...]int{MaxVariables, MaxLimit, MaxHandles, MaxText, MaxName, MaxInputs, MaxLatches, MaxDeep}
	if limits != [...]int{8, 2000, 60, 1000, 8, 3, 4, 8} {
		t.Errorf("the limits %v", limits)
	}
}
