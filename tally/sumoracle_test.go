package tally_test

import (
	"fmt"
	"math/big"
	"math/rand"
	"slices"
	"strconv"
	"strings"
	"testing"

	"tally/api"
	"tally/tally"
)

// told is one series, reckoned anew from the plain forms of its lines.
type told struct {
	kind              string
	total, count, sum *big.Int
	words             []string
	values            []int // a timer's
	weights           []weight
	folded            bool
}

// weight is what a bucket has.
type weight struct{ bucket, stands, weight int }

// reckoner sums up datagrams with one list in place of shards.
type reckoner struct {
	c              api.Config
	keys           []string
	series         []*told
	rejects, drops int
}

// thousandths are the thousandths of a number, by its digits alone.
func thousandths(text string) int {
	ahead, behind, _ := strings.Cut(text, ".")
	n, err := strconv.Atoi(ahead + (behind + "000")[:3])
	if err != nil {
		panic(err)
	}
	return n
}

// kept is a number within the document's bounds.
func kept(n *big.Int) *big.Int {
	most := big.NewInt(api.Most)
	if n.CmpAbs(most) > 0 {
		return most.Mul(most, big.NewInt(int64(n.Sign())))
	}
	return n
}

// line takes one line.
func (r *reckoner) line(text string) {
	plain := expected(text)
	if plain == "" {
		r.rejects++
		return
	}
	name, rest, _ := strings.Cut(plain, ":")
	value, rest, _ := strings.Cut(rest, "|")
	rest, tags, tagged := strings.Cut(rest, "|#")
	kind, rate, rated := strings.Cut(rest, "|@")
	if !rated {
		rate = "1"
	}
	key := name + "|" + kind
	if tagged {
		key += "|#" + tags
	}
	at := slices.Index(r.keys, key)
	if at < 0 && len(r.keys) == r.c.Series {
		r.drops++
		return
	}
	if at < 0 {
		at = len(r.keys)
		r.keys = append(r.keys, key)
		r.series = append(r.series, &told{kind: kind, total: new(big.Int), count: new(big.Int), sum: new(big.Int)})
	}
	if !r.series[at].sample(r.c, value, thousandths(rate)) {
		r.drops++
	}
}

// sample takes a value; false: it is dropped.
func (x *told) sample(c api.Config, value string, rate int) bool {
	switch x.kind {
	case "c":
		n := big.NewInt(int64(thousandths(value)) * 1000)
		x.total = kept(new(big.Int).Add(x.total, n.Quo(n, big.NewInt(int64(rate)))))
	case "g":
		n := big.NewInt(int64(thousandths(value)))
		if value[0] == '+' || value[0] == '-' {
			n.Add(n, x.total)
		}
		x.total = kept(n)
	case "s":
		if slices.Contains(x.words, value) {
			return true
		}
		if len(x.words) == c.Sets {
			return false
		}
		x.words = append(x.words, value)
	default:
		x.time(c, thousandths(value), 1000/rate)
	}
	return true
}

// time takes a timer's value.
func (x *told) time(c api.Config, value, w int) {
	x.count = kept(new(big.Int).Add(x.count, big.NewInt(int64(w))))
	x.sum = kept(new(big.Int).Add(x.sum, big.NewInt(int64(value)*int64(w))))
	x.values = append(x.values, value)
	number, stands := tally.Bucket(value)
	at, found := slices.BinarySearchFunc(x.weights, number, func(b weight, n int) int { return b.bucket - n })
	if !found {
		x.weights = slices.Insert(x.weights, at, weight{number, stands, 0})
	}
	x.weights[at].weight += w
	if len(x.weights) > c.Buckets {
		x.weights[1].weight += x.weights[0].weight
		x.weights = x.weights[1:]
		x.folded = true
	}
}

// quantile is told by laying all that the buckets have in a row.
func (x *told) quantile(q int) int {
	var row []int
	for _, b := range x.weights {
		row = append(row, slices.Repeat([]int{b.stands}, b.weight)...)
	}
	return row[q*(len(row)-1)/100]
}

// text is what stands behind the key.
func (x *told) text() string {
	switch x.kind {
	case "c", "g":
		return x.total.String()
	case "s":
		return strconv.Itoa(len(x.words))
	}
	folded := 0
	if x.folded {
		folded = 1
	}
	return fmt.Sprintf("%v %v %d %d %d %d %d %d", x.count, x.sum, slices.Min(x.values), slices.Max(x.values), x.quantile(50), x.quantile(90), x.quantile(99), folded)
}

// reckoned is the text of a window, reckoned anew.
func reckoned(c api.Config, window int, datagrams []string) string {
	r := &reckoner{c: c}
	for _, d := range datagrams {
		for _, line := range strings.FieldsFunc(d, func(r rune) bool { return r == '\n' }) {
			r.line(line)
		}
	}
	var lines []string
	for i, key := range r.keys {
		lines = append(lines, key+"\x00="+r.series[i].text()+"\n")
	}
	// The byte 00 lets a key come ahead of those that it begins; none has such a byte.
	slices.Sort(lines)
	return fmt.Sprintf("window %d rejects %d drops %d\n", window, r.rejects, r.drops) + strings.ReplaceAll(strings.Join(lines, ""), "\x00", "")
}

// pick is one of the texts.
func pick(r *rand.Rand, texts ...string) string { return texts[r.Intn(len(texts))] }

// anyLine is a line, or now and then something near one.
func anyLine(r *rand.Rand) string {
	name := pick(r, "a", "b", "a.b", "_", "0", "long.name_16byte")
	value := strconv.Itoa(r.Intn(120)) + pick(r, "", "", ".5", ".125", ".001")
	if r.Intn(3) == 0 {
		value = fmt.Sprintf("0.%03d", r.Intn(120))
	}
	rate := pick(r, "", "", "|@1", "|@0.5", "|@0.333", "|@0.999", "|@0.01")
	tags := pick(r, "", "", "", "|#a", "|#b,a", "|#a,b,a")
	switch r.Intn(12) {
	case 0, 1, 2:
		return name + ":" + pick(r, "", "-") + value + "|c" + rate + tags
	case 3, 4:
		return name + ":" + pick(r, "", "+", "-") + value + "|g" + tags
	case 5, 6:
		return name + ":" + pick(r, "a", "b", "c", "d", "e", "0", "00") + "|s" + tags
	case 7, 8, 9, 10:
		return name + ":" + value + pick(r, "|ms", "|h") + rate + tags
	}
	return pick(r, "", "bad", name, name+":"+value, name+":1|g|@0.5", name+":1|c|#", ":1|c", "a:1|c\r")
}

// TestSumReckoned: many windows of all configurations, held against another way to reckon; however many shards there are.
func TestSumReckoned(t *testing.T) {
	r := rand.New(rand.NewSource(5))
	for range 3000 {
		c := api.Config{Width: 1, Series: 1 + r.Intn(32), Sets: 1 + r.Intn(6), Buckets: 2 + r.Intn(20), Shards: 1 + r.Intn(16), Segment: 64}
		var datagrams []string
		for range r.Intn(12) {
			var lines []string
			for range r.Intn(12) {
				lines = append(lines, anyLine(r))
			}
			datagrams = append(datagrams, strings.Join(lines, "\n"))
		}
		number := r.Intn(100) - 50
		want := reckoned(c, number, datagrams)
		if got, e := tally.Sum(c, number, datagrams); got != want || e != api.OK {
			t.Fatalf("P5: Sum(%+v, %d, %q) = %q, %d, want %q", c, number, datagrams, got, e, want)
		}
	}
}

// TestSumShards: nothing that is told hangs on the shards.
func TestSumShards(t *testing.T) {
	c := widest()
	var lines []string
	for i := range 40 {
		lines = append(lines, fmt.Sprintf("n%d:1|c\nn%d:1|h|#t%d", i*7%40, i, i%3))
	}
	datagrams := []string{strings.Join(lines, "\n")}
	want := reckoned(c, 3, datagrams)
	for shards := 1; shards <= 16; shards++ {
		c.Shards = shards
		if got, e := tally.Sum(c, 3, datagrams); got != want || e != api.OK {
			t.Errorf("P5: with %d shards: %q, %d, want %q", shards, got, e, want)
		}
	}
}

// FuzzSum: whatever the text is, it is what another way to reckon makes of it.
func FuzzSum(f *testing.F) {
	for _, s := range []string{"", "\n", "x:1|c", "x:+1|g\nx:1|g", "x:a|s\nx:b|s", "t:3|h|@0.5|#a,b\n\xff", "x:1|c\r\n"} {
		f.Add(s, 3, 2, 2)
	}
	f.Fuzz(func(t *testing.T, s string, window, series, buckets int) {
		c := ordinary()
		c.Series, c.Buckets = series, buckets
		got, e := tally.Sum(c, window, []string{s, s})
		if tally.Check(c) != api.OK {
			if got != "" || e != api.ErrConfig {
				t.Errorf("P5: %q, %d, want ErrConfig", got, e)
			}
			return
		}
		if want := reckoned(c, window, []string{s, s}); got != want || e != api.OK {
			t.Errorf("P5: Sum of %q: %q, %d, want %q", s, got, e, want)
		}
	})
}
