package sketch_test

import (
	"testing"

	"tally/sketch"
)

func checkAt(t *testing.T, s *sketch.Sketch, k, want int) {
	t.Helper()
	if got := s.At(k); got != want {
		t.Errorf("At(%d) = %d, want %d", k, got, want)
	}
}

func TestAt(t *testing.T) {
	s := sketch.New(3)
	checkAt(t, s, 0, 0)
	s.Add(9, 2)
	s.Add(5, 1)
	s.Add(52, 3)
	for k, want := range []int{5, 9, 9, 51, 51, 51, 0} {
		checkAt(t, s, k, want)
	}
	if s.Folded() {
		t.Error("folded, though there is a place for each")
	}
}

func TestFold(t *testing.T) {
	s := sketch.New(2)
	s.Add(5, 1)
	s.Add(9, 2)
	s.Add(7, 4)
	if !s.Folded() {
		t.Error("not folded")
	}
	for k, want := range []int{7, 7, 7, 7, 7, 9, 9, 0} {
		checkAt(t, s, k, want)
	}
	s.Add(0, 1)
	checkAt(t, s, 5, 7)
	checkAt(t, s, 6, 9)
	s.Add(1000, 1)
	checkAt(t, s, 7, 9)
	checkAt(t, s, 8, 999)
	if !s.Folded() {
		t.Error("not folded any more")
	}
}
