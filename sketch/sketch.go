package sketch

import (
	"maps"
	"slices"
)

// cell is a bucket that has something.
type cell struct {
	stands int // what the bucket stands for
	weight int
}

// Sketch holds weights by the buckets of their values, in no more buckets than it may have.
type Sketch struct {
	most   int
	cells  map[int]cell // by the buckets' numbers
	folded bool
}

// New makes a sketch that may have so many buckets.
func New(most int) *Sketch {
	return &Sketch{most: most, cells: map[int]cell{}}
}

// Add lays a weight into the bucket of a value, which is one that has a bucket.
func (s *Sketch) Add(value, weight int) {
	number, stands := Bucket(value)
	s.cells[number] = cell{stands, s.cells[number].weight + weight}
	if len(s.cells) > s.most {
		s.fold()
	}
}

// fold moves what the lowest bucket has into the next higher one.
func (s *Sketch) fold() {
	numbers := s.rising()
	if len(numbers) < 2 {
		return
	}
	lowest, next := numbers[0], numbers[1]
	s.cells[next] = cell{s.cells[next].stands, s.cells[next].weight + s.cells[lowest].weight}
	delete(s.cells, lowest)
	s.folded = true
}

// rising are the numbers of the buckets that have something.
func (s *Sketch) rising() []int {
	return slices.Sorted(maps.Keys(s.cells))
}

// Folded tells whether a bucket was ever moved into another.
func (s *Sketch) Folded() bool { return s.folded }

// At is what the lowest bucket stands for at which the buckets up to it have more than k; 0: there is none.
func (s *Sketch) At(k int) int {
	sum := 0
	for _, number := range s.rising() {
		sum += s.cells[number].weight
		if sum > k {
			return s.cells[number].stands
		}
	}
	return 0
}
