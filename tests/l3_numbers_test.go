package tests

import (
	"slices"
	"testing"

	"loop.example/s01647/impl"
)

// expectRow wants numbers that count up from the first.
func expectRow(t *testing.T, what string, first int, got ...int) {
	t.Helper()
	for i, n := range got {
		if n != first+i {
			t.Errorf("%s: %v, want them to count from %d", what, got, first)
			return
		}
	}
}

// The names stand for the numbers that the document gives them.
func TestNumbersOfHostAndCore(t *testing.T) {
	expectRow(t, "boxes", 0, impl.BoxFree, impl.BoxWaiting, impl.BoxSending, impl.BoxDoomed)
	expectRow(t, "policies", 0, impl.PolicyOld, impl.PolicyNew)
	expectRow(t, "events", 1, impl.EvSent, impl.EvReceived, impl.EvOverrun, impl.EvFull, impl.EvBad, impl.EvAborted, impl.EvMiss, impl.EvError, impl.EvOverload, impl.EvState, impl.EvRestart, impl.EvFetched)
	expectRow(t, "reasons", 1, impl.BadTag, impl.BadFrame, impl.BadUsed, impl.BadStamp)
	expectRow(t, "phases", 0, impl.PhaseIdle, impl.PhaseFrame, impl.PhaseFlag, impl.PhaseWait, impl.PhaseDelim, impl.PhaseGap, impl.PhaseSuspend, impl.PhaseOff)
	expectRow(t, "states", 0, impl.StateActive, impl.StatePassive, impl.StateOff)
	expectRow(t, "errors", 1, impl.ErrBit, impl.ErrStuff, impl.ErrForm, impl.ErrCrc, impl.ErrAck, impl.ErrArbStuff)
	expectRow(t, "ends", 1, impl.FinishSent, impl.FinishHeard, impl.FinishQuiet, impl.FinishOver, impl.FinishLost)
	limits := []int{impl.MaxBoxes, impl.MaxFifo, impl.MaxQueue, impl.MaxFilters, impl.MaxTag, impl.MaxStamp, impl.MaxLost, impl.RecoverRuns, impl.RecoverBits}
	if !slices.Equal(limits, []int{8, 16, 32, 16, 9999, 1000000, 100000, 128, 11}) {
		t.Errorf("limits: %v", limits)
	}
}
