package sample_test

import (
	"reflect"
	"testing"

	"tally/sample"
)

func TestRead(t *testing.T) {
	for line, want := range map[string]sample.Sample{
		"a.b:012.50|c|@0.10|#z,b,z": {Name: "a.b", Kind: sample.Counter, Value: 12500, Rate: 100, Tags: []string{"b", "z"}},
		"c:-0.001|c":                {Name: "c", Kind: sample.Counter, Value: -1, Rate: 1000},
		"g:7|g":                     {Name: "g", Kind: sample.Gauge, Value: 7000, Rate: 1000},
		"g:+7|g":                    {Name: "g", Kind: sample.Gauge, Signed: true, Value: 7000, Rate: 1000},
		"g:-0|g":                    {Name: "g", Kind: sample.Gauge, Signed: true, Rate: 1000},
		"s:007|s":                   {Name: "s", Kind: sample.Set, Word: "007", Rate: 1000},
		"t:999999.999|h|@0.001":     {Name: "t", Kind: sample.Timer, Value: 999999999, Rate: 1},
		"t:3|ms|@1":                 {Name: "t", Kind: sample.Timer, Value: 3000, Rate: 1000},
	} {
		if got, ok := sample.Read(line); !ok || !reflect.DeepEqual(got, want) {
			t.Errorf("Read(%q) = %+v, %t, want %+v", line, got, ok, want)
		}
	}
}

func TestReadNothingBesideFalse(t *testing.T) {
	for _, line := range []string{"", "x", "x:1", "x:1|d", "x:1|c|", "x:1|c|@0.5|#", "x:1|c|@0", "x:1|g|@1", "x:12345678|c", "x:a.b|s"} {
		if got, ok := sample.Read(line); ok || !reflect.DeepEqual(got, sample.Sample{}) {
			t.Errorf("Read(%q) = %+v, %t, want nothing", line, got, ok)
		}
	}
}

func TestKey(t *testing.T) {
	for line, want := range map[string]string{
		"a.b:012.50|c|@0.10|#z,b,z": "a.b|c|#b,z",
		"c:1|c":                     "c|c",
		"g:-7|g":                    "g|g",
		"g:7|g|#_":                  "g|g|#_",
		"s:word|s":                  "s|s",
		"t:3|h|#a":                  "t|ms|#a",
		"t:3|ms|@0.5":               "t|ms",
	} {
		if s, ok := sample.Read(line); !ok || s.Key() != want {
			t.Errorf("the key of %q is %q, want %q", line, s.Key(), want)
		}
	}
}
