package tally_test

import (
	"math"
	"slices"
	"testing"

	"tally/api"
	"tally/tally"
)

func checkTake(t *testing.T, k *tally.Sink, window int, text string, want api.Errno) {
	t.Helper()
	if e := k.Take(api.Message{Window: window, Text: text}); e != want {
		t.Errorf("P12: Take of window %d = %d, want %d", window, e, want)
	}
}

func checkTaken(t *testing.T, k *tally.Sink, want ...api.Message) {
	t.Helper()
	if got := k.Taken(); !slices.Equal(got, want) {
		t.Errorf("P12: Taken() = %+v, want %+v", got, want)
	}
}

func TestSinkOrdinary(t *testing.T) {
	k := tally.NewSink()
	checkTaken(t, k)
	checkTake(t, k, 5, "five", api.OK)
	checkTake(t, k, 2, "two", api.OK)
	checkTaken(t, k, api.Message{Window: 2, Text: "two"}, api.Message{Window: 5, Text: "five"})
	checkTake(t, k, 5, "five", api.ErrTwice)
	checkTake(t, k, 2, "otherwise", api.ErrTwice)
	checkTake(t, k, 3, "two", api.OK)
	checkTaken(t, k, api.Message{Window: 2, Text: "two"}, api.Message{Window: 3, Text: "two"}, api.Message{Window: 5, Text: "five"})
}

func TestSinkEdges(t *testing.T) {
	k := tally.NewSink()
	var want []api.Message
	for _, w := range []int{0, math.MaxInt, -1, math.MinInt, 1} {
		checkTake(t, k, w, "", api.OK)
		checkTake(t, k, w, "", api.ErrTwice)
		checkTake(t, k, w, "text", api.ErrTwice)
	}
	for _, w := range []int{math.MinInt, -1, 0, 1, math.MaxInt} {
		want = append(want, api.Message{Window: w})
	}
	checkTaken(t, k, want...)
}

func TestSinkMany(t *testing.T) {
	k := tally.NewSink()
	var want []api.Message
	for i := range 1000 {
		checkTake(t, k, i*377%1000, "", api.OK)
		want = append(want, api.Message{Window: i})
	}
	for range 5 {
		checkTaken(t, k, want...)
	}
}

func TestSinksApart(t *testing.T) {
	a, b, zero := tally.NewSink(), tally.NewSink(), new(tally.Sink)
	checkTaken(t, zero)
	checkTake(t, a, 1, "a", api.OK)
	checkTake(t, b, 1, "b", api.OK)
	checkTake(t, zero, 1, "zero", api.OK)
	checkTake(t, zero, 1, "zero", api.ErrTwice)
	checkTaken(t, a, api.Message{Window: 1, Text: "a"})
	checkTaken(t, b, api.Message{Window: 1, Text: "b"})
	checkTaken(t, zero, api.Message{Window: 1, Text: "zero"})
}

// TestTakenIsNew: what is done to a list that came out, and to its spare room, is not to be seen in another.
func TestTakenIsNew(t *testing.T) {
	k := tally.NewSink()
	for w := range 5 {
		checkTake(t, k, w, "text", api.OK)
	}
	first, second := k.Taken(), k.Taken()
	spoilt := first[:cap(first)]
	for i := range spoilt {
		spoilt[i] = api.Message{Window: -7, Text: "spoilt"}
	}
	checkTake(t, k, 5, "text", api.OK)
	if len(second) != 5 || slices.Contains(second[:cap(second)], spoilt[0]) {
		t.Errorf("P1: %+v", second)
	}
	for i, m := range k.Taken() {
		if m.Window != i || m.Text != "text" {
			t.Errorf("P1: Taken() has %+v at %d", m, i)
		}
	}
}
