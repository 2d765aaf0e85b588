package rules

import (
	"errors"
	"fmt"
	"testing"

	"diapause/api"
)

func TestErrorsHaveTheirNumbers(t *testing.T) {
	l := []api.Errno{api.OK, api.ErrArg, api.ErrShort, api.ErrTail, api.ErrSum, api.ErrForm, api.ErrRange, api.ErrFull, api.ErrNone, api.ErrTwice, api.ErrDeep, api.ErrLoop, api.ErrBusy, api.ErrMask, api.ErrOff, api.ErrLast, api.ErrCold, api.ErrWarm, api.ErrState, api.ErrDisk, api.ErrMagic, api.ErrKind, api.ErrLong}
	words := map[string]int{}
	for i, e := range l {
		if int(e) != i {
			t.Errorf("error %d has the number %d", i, int(e))
		}
		if other, is := words[e.Error()]; is || e.Error() == "" || e.Error() == "unknown" {
			t.Errorf("error %d is told as %q, as is %d", i, e.Error(), other)
		}
		words[e.Error()] = i
	}
	for _, e := range []api.Errno{-1, api.Errno(len(l)), 1 << 62, -1 << 62} {
		if e.Error() != "unknown" {
			t.Errorf("error %d is told as %q", int(e), e.Error())
		}
	}
	if err := fmt.Errorf("wrapped: %w", api.ErrCold); !errors.Is(err, api.ErrCold) || errors.Is(err, api.ErrWarm) {
		t.Error("an error is not found in what wraps it")
	}
}

func TestLimitsAndStates(t *testing.T) {
	for name, x := range map[string][2]int{
		"MaxCores":  {api.MaxCores, 64},
		"MaxDeep":   {api.MaxDeep, 16},
		"MaxWeight": {api.MaxWeight, 1 << 20},
		"MaxTicks":  {api.MaxTicks, 1 << 40},
		"MaxId":     {api.MaxId, 1 << 20},
		"MaxEach":   {api.MaxEach, 4096},
		"Scale":     {api.Scale, 1 << 20},
		"MaxPeriod": {api.MaxPeriod, 1 << 20},
		"MaxFar":    {api.MaxFar, 1 << 61},
		"Ready":     {api.Ready, 1},
		"Asleep":    {api.Asleep, 2},
		"Parked":    {api.Parked, 3},
		"Thawed":    {api.Thawed, 1},
		"Freezing":  {api.Freezing, 2},
		"Frozen":    {api.Frozen, 3},
	} {
		if x[0] != x[1] {
			t.Errorf("%s is %d, not %d", name, x[0], x[1])
		}
	}
}
