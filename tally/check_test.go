package tally_test

import (
	"math"
	"testing"

	"tally/api"
	"tally/tally"
)

// ordinary is a configuration that lies on none of its bounds.
func ordinary() api.Config {
	return api.Config{Width: 10, Series: 8, Sets: 4, Buckets: 16, Shards: 4, Segment: 256}
}

// bound is a field of a configuration, and what it may be.
type bound struct {
	name        string
	field       func(c *api.Config) *int
	least, most int
}

func bounds() []bound {
	return []bound{
		{"Width", func(c *api.Config) *int { return &c.Width }, 1, 1000},
		{"Series", func(c *api.Config) *int { return &c.Series }, 1, 32},
		{"Sets", func(c *api.Config) *int { return &c.Sets }, 1, 16},
		{"Buckets", func(c *api.Config) *int { return &c.Buckets }, 2, 64},
		{"Shards", func(c *api.Config) *int { return &c.Shards }, 1, 16},
		{"Segment", func(c *api.Config) *int { return &c.Segment }, 64, 4096},
	}
}

func TestCheckOrdinary(t *testing.T) {
	if e := tally.Check(ordinary()); e != api.OK {
		t.Errorf("P4: Check(%+v) = %d, want OK", ordinary(), e)
	}
	if e := tally.Check(api.Config{}); e != api.ErrConfig {
		t.Errorf("P4: Check of an empty configuration = %d, want ErrConfig", e)
	}
}

func TestCheckBounds(t *testing.T) {
	for _, b := range bounds() {
		for v := b.least - 3; v <= b.most+3; v++ {
			want := api.OK
			if v < b.least || v > b.most {
				want = api.ErrConfig
			}
			checkField(t, b, v, want)
		}
		for _, v := range []int{math.MinInt, math.MinInt32, -b.least, -b.most, math.MaxInt32, 1<<32 + b.least, math.MaxInt} {
			checkField(t, b, v, api.ErrConfig)
		}
	}
}

func checkField(t *testing.T, b bound, v int, want api.Errno) {
	t.Helper()
	c := ordinary()
	*b.field(&c) = v
	if e := tally.Check(c); e != want {
		t.Errorf("P4: Check with %s %d = %d, want %d", b.name, v, e, want)
	}
}

func TestCheckAllLeastAndAllMost(t *testing.T) {
	var least, most api.Config
	for _, b := range bounds() {
		*b.field(&least), *b.field(&most) = b.least, b.most
	}
	for _, c := range []api.Config{least, most} {
		if e := tally.Check(c); e != api.OK {
			t.Errorf("P4: Check(%+v) = %d, want OK", c, e)
		}
	}
}
