package tally_test

import (
	"fmt"
	"regexp"
	"slices"
	"strings"
	"testing"

	"tally/api"
	"tally/tally"
)

// checkLine: the line has this plain form, which is its own plain form.
func checkLine(t *testing.T, line, want string) {
	t.Helper()
	if got, e := tally.Parse(line); got != want || e != api.OK {
		t.Errorf("P4: Parse(%q) = %q, %d, want %q", line, got, e, want)
	}
	if got, e := tally.Parse(want); got != want || e != api.OK {
		t.Errorf("P4: Parse(%q) = %q, %d, want it unchanged", want, got, e)
	}
}

// checkNoLine: there is an error, and nothing beside it.
func checkNoLine(t *testing.T, line string) {
	t.Helper()
	if got, e := tally.Parse(line); got != "" || e != api.ErrLine {
		t.Errorf("P4: Parse(%.60q) = %q, %d, want ErrLine", line, got, e)
	}
}

// checkWhether: it is a line and plain already, or it is none.
func checkWhether(t *testing.T, line string, isLine bool) {
	t.Helper()
	if isLine {
		checkLine(t, line, line)
	} else {
		checkNoLine(t, line)
	}
}

func TestParseOrdinary(t *testing.T) {
	for line, want := range map[string]string{
		"a.b:012.50|c|@0.10|#z,b,z":    "a.b:12.5|c|@0.1|#b,z",
		"hits:3|c":                     "hits:3|c",
		"hits:-3.25|c|@0.5":            "hits:-3.25|c|@0.5",
		"load:7|g":                     "load:7|g",
		"load:+7|g|#b,a":               "load:+7|g|#a,b",
		"load:-7.5|g":                  "load:-7.5|g",
		"users:ann_7|s|#web":           "users:ann_7|s|#web",
		"t:3|h":                        "t:3|ms",
		"t:3|ms|@0.125|#x":             "t:3|ms|@0.125|#x",
		"t:3|h|@0.125|#x":              "t:3|ms|@0.125|#x",
		"ms:1|ms":                      "ms:1|ms",
		"h:1|h":                        "h:1|ms",
		"h:h|s|#h":                     "h:h|s|#h",
		"c:1|c|@1|#c":                  "c:1|c|#c",
		"...:1|c":                      "...:1|c",
		"_:1|c":                        "_:1|c",
		"0:0|c":                        "0:0|c",
		"s:007|s":                      "s:007|s",
		"s:0|s":                        "s:0|s",
		"a_b.9:999999.999|h|@0.999|#_": "a_b.9:999999.999|ms|@0.999|#_",
	} {
		checkLine(t, line, want)
	}
}

func TestParseZerosAndSigns(t *testing.T) {
	for line, want := range map[string]string{
		"x:0|c": "x:0|c", "x:-0|c": "x:0|c", "x:-000000.000|c": "x:0|c", "x:-0.001|c": "x:-0.001|c",
		"x:0|g": "x:0|g", "x:+0|g": "x:+0|g", "x:-0|g": "x:+0|g", "x:-0.0|g": "x:+0|g", "x:00.00|g": "x:0|g",
		"x:+0.010|g": "x:+0.01|g", "x:-0.010|g": "x:-0.01|g", "x:+000001|g": "x:+1|g", "x:-999999.999|g": "x:-999999.999|g",
		"x:0|ms": "x:0|ms", "x:0.0|h": "x:0|ms",
	} {
		checkLine(t, line, want)
	}
	for _, value := range []string{"+1", "+0", "++1", "+-1", "-+1", "--1", "-", "+", "1-", "1+"} {
		checkNoLine(t, "x:"+value+"|c")
		checkNoLine(t, "x:"+value+"|ms")
		checkNoLine(t, "x:"+value+"|h")
		checkNoLine(t, "x:"+value+"|s")
	}
	for _, value := range []string{"++1", "+-1", "-+1", "--1", "-", "+", "1-", "1+", "+.5", "-1."} {
		checkNoLine(t, "x:"+value+"|g")
	}
	for _, kind := range []string{"ms", "h", "s"} {
		checkNoLine(t, "x:-1|"+kind)
		checkNoLine(t, "x:-0|"+kind)
	}
}

// TestParseNumbers: all thousandths, behind several whole numbers, with zeros more and less.
func TestParseNumbers(t *testing.T) {
	for _, ahead := range []string{"0", "1", "9", "10", "100", "1000", "20500", "100000", "999999"} {
		for n := range 1000 {
			behind := fmt.Sprintf("%03d", n)
			want := ahead
			if n > 0 {
				want += "." + strings.TrimRight(behind, "0")
			}
			padded := strings.Repeat("0", 6-len(ahead)) + ahead
			for _, value := range []string{ahead + "." + behind, padded + "." + behind, want} {
				checkLine(t, "x:"+value+"|c", "x:"+want+"|c")
				checkLine(t, "x:-"+value+"|g", "x:"+signed(want)+"|g")
				checkLine(t, "x:"+value+"|h", "x:"+want+"|ms")
			}
		}
	}
}

// signed is a gauge's value with a minus ahead, in its plain form.
func signed(value string) string {
	if value == "0" {
		return "+0"
	}
	return "-" + value
}

func TestParseRates(t *testing.T) {
	for n := range 1000 {
		rate := fmt.Sprintf("0.%03d", n)
		if n == 0 {
			checkNoLine(t, "x:1|c|@"+rate)
			continue
		}
		plain := strings.TrimRight(rate, "0")
		for _, kind := range []string{"c", "ms"} {
			checkLine(t, "x:1|"+kind+"|@"+rate, "x:1|"+kind+"|@"+plain)
			checkLine(t, "x:1|"+kind+"|@"+plain+"|#a", "x:1|"+kind+"|@"+plain+"|#a")
		}
		checkNoLine(t, "x:1|g|@"+rate)
		checkNoLine(t, "x:w|s|@"+rate)
	}
	for _, kind := range []string{"c", "ms"} {
		checkLine(t, "x:1|"+kind+"|@1", "x:1|"+kind)
		for _, rate := range []string{"", "0", "0.", "0.0", "0.00", "0.000", "0.0000", "0.1234", "0.0001", "00.5", "01", "1.", "1.0", "1.000", "2", "10", ".5", "-1", "+1", "-0.5", "0,5", "0.5.5", "0.a", "a", " 1", "1 "} {
			checkNoLine(t, "x:1|"+kind+"|@"+rate)
			checkNoLine(t, "x:1|"+kind+"|@"+rate+"|#a")
		}
	}
	checkNoLine(t, "x:1|g|@1")
	checkNoLine(t, "x:1|g|@1|#a")
	checkNoLine(t, "x:w|s|@1")
}

func TestParseLengths(t *testing.T) {
	for n := range 40 {
		checkWhether(t, strings.Repeat("n", n)+":1|c", n >= 1 && n <= api.MaxName)
		checkWhether(t, strings.Repeat(".", n)+":1|g", n >= 1 && n <= api.MaxName)
		checkWhether(t, "x:"+strings.Repeat("w", n)+"|s", n >= 1 && n <= api.MaxWord)
		checkWhether(t, "x:1|c|#"+strings.Repeat("t", n), n >= 1 && n <= api.MaxTag)
		checkWhether(t, "x:w|s|#a,"+strings.Repeat("t", n)+",z", n >= 1 && n <= api.MaxTag)
		for _, kind := range []string{"c", "g", "ms"} {
			checkWhether(t, "x:"+strings.Repeat("1", n)+"|"+kind, n >= 1 && n <= 6)
			checkWhether(t, "x:"+strings.Repeat("1", n)+".5|"+kind, n >= 1 && n <= 6)
			checkWhether(t, "x:1."+strings.Repeat("1", n)+"|"+kind, n >= 1 && n <= 3)
		}
		checkWhether(t, "x:1|c|@0."+strings.Repeat("1", n), n >= 1 && n <= 3)
	}
	checkNoLine(t, "x:0000001|c")
	checkNoLine(t, "x:1.0000|c")
}

func TestParseTags(t *testing.T) {
	for tags, want := range map[string]string{
		"a": "a", "a,b,c,d": "a,b,c,d", "d,c,b,a": "a,b,c,d", "b,a,b,a": "a,b", "a,a,a,a": "a",
		"a,_,9,0": "0,9,_,a", "ab,a,abc,b": "a,ab,abc,b", "10,9,1,2": "1,10,2,9", "zzzzzzzz,z": "z,zzzzzzzz",
	} {
		checkLine(t, "x:1|c|#"+tags, "x:1|c|#"+want)
		checkLine(t, "x:1|g|#"+tags, "x:1|g|#"+want)
		checkLine(t, "x:w|s|#"+tags, "x:w|s|#"+want)
		checkLine(t, "x:1|h|@0.50|#"+tags, "x:1|ms|@0.5|#"+want)
	}
	for _, tags := range []string{"", ",", "a,", ",a", "a,,b", "a,b,c,d,e", "a,a,a,a,a", "a,b,c,d,", "a.b", "A", "a b", "a, b", "a;b", "a:1", "a|b", "a|#b", "a|@0.5", "#a", "ä"} {
		checkNoLine(t, "x:1|c|#"+tags)
		checkNoLine(t, "x:1|h|@0.5|#"+tags)
	}
}

func TestParseNoLine(t *testing.T) {
	for _, line := range []string{
		"", "x", ":", "|", "x:", "x:1", "x:1|", "x|c", "x:|c", ":1|c", "x:1|c|", "x:1|c||", "x:1|c||#a", "x:1|c|@0.5|", "x:1|c|x",
		"x:1|d", "x:1|C", "x:1|m", "x:1|s|", "x:1|mss", "x:1|cc", "x:1|hh", "x:1| c", "x:1|c ", " x:1|c", "x :1|c", "x: 1|c", "x:1 |c",
		"X:1|c", "x-y:1|c", "x/y:1|c", "é:1|c", "x:1:2|c", "x::1|c", "x:1||c", "x:a|c", "x:1e3|c", "x:0x1|c", "x:1_0|c", "x:1,5|c", "x:٣|c",
		"x:.|c", "x:.5|c", "x:1.|c", "x:1..5|c", "x:1.5.5|c", "x:1.a|c", "x:a.b|s", "x:W|s", "x:a b|s", "x:a-b|s",
		"x:1|c\n", "\nx:1|c", "x:1|c\ny:1|c", "x:1|c\r", "x:1|c\x00", "\x00", "\xff:1|c", "x:\xff|s",
		"x:1|c#a", "x:1|c@0.5", "x:1|c,#a", "x:1|c|#a|@0.5", "x:1|c|@0.5|@0.5", "x:1|c|#a|#b", "x:1|c|@0.5#a",
	} {
		checkNoLine(t, line)
	}
}

func TestParseVeryLong(t *testing.T) {
	const many = 1 << 20
	for _, line := range []string{
		strings.Repeat("x", many), strings.Repeat(":", many), strings.Repeat("|", many), strings.Repeat("x:1|c\n", many),
		strings.Repeat("x", many) + ":1|c", "x:" + strings.Repeat("0", many) + "|c", "x:1." + strings.Repeat("0", many) + "|c",
		"x:" + strings.Repeat("-", many) + "1|g", "x:1|" + strings.Repeat("c", many), "x:" + strings.Repeat("w", many) + "|s",
		"x:1|c|@0." + strings.Repeat("1", many), "x:1|c|#" + strings.Repeat("t", many), "x:1|c|#" + strings.Repeat("a,", many) + "a",
	} {
		checkNoLine(t, line)
	}
}

// grammar is what the document says of a line, with its parts in groups: name, value, type, rate, tags.
var grammar = regexp.MustCompile(`^([a-z0-9_.]{1,16}):(?:` +
	`(-?[0-9]{1,6}(?:\.[0-9]{1,3})?)\|(c)(?:\|@(1|0\.[0-9]{1,3}))?|` +
	`([+-]?[0-9]{1,6}(?:\.[0-9]{1,3})?)\|(g)|` +
	`([a-z0-9_]{1,16})\|(s)|` +
	`([0-9]{1,6}(?:\.[0-9]{1,3})?)\|(ms|h)(?:\|@(1|0\.[0-9]{1,3}))?` +
	`)(?:\|#([a-z0-9_]{1,8}(?:,[a-z0-9_]{1,8}){0,3}))?$`)

// expected is the plain form by the grammar, made from the text alone; "": no line.
func expected(line string) string {
	m := grammar.FindStringSubmatch(line)
	if m == nil {
		return ""
	}
	value, kind, rate := m[2]+m[5]+m[7]+m[9], m[3]+m[6]+m[8]+m[10], m[4]+m[11]
	if rate != "" && strings.Trim(rate, "0.") == "" {
		return ""
	}
	if kind == "h" {
		kind = "ms"
	}
	if kind != "s" {
		value = expectedValue(value, kind)
	}
	plain := m[1] + ":" + value + "|" + kind
	if rate != "" && rate != "1" {
		plain += "|@" + strings.TrimRight(rate, "0")
	}
	if m[12] != "" {
		tags := strings.Split(m[12], ",")
		slices.Sort(tags)
		plain += "|#" + strings.Join(slices.Compact(tags), ",")
	}
	return plain
}

// expectedValue is a number's plain form, by cutting zeros.
func expectedValue(value, kind string) string {
	digits := strings.TrimLeft(value, "+-")
	sign := value[:len(value)-len(digits)]
	digits = strings.TrimLeft(digits, "0")
	if strings.Contains(digits, ".") {
		digits = strings.TrimRight(strings.TrimRight(digits, "0"), ".")
	}
	if digits == "" || digits[0] == '.' {
		digits = "0" + digits
	}
	switch {
	case digits != "0":
		return sign + digits
	case kind == "g" && sign != "":
		return "+0"
	}
	return "0"
}

func checkAgainstGrammar(t *testing.T, line string) {
	t.Helper()
	if want := expected(line); want != "" {
		checkLine(t, line, want)
	} else {
		checkNoLine(t, line)
	}
}

// TestParseChanged: lines with a byte changed, put in or taken out, and pieces of two lines put together.
func TestParseChanged(t *testing.T) {
	lines := []string{
		"a.b:012.50|c|@0.10|#z,b,z", "c:-0.5|c", "g:-0.0|g|#a", "g:+12|g", "g:7.125|g", "s:word_1|s|#b,a", "s:0|s",
		"t:3|h", "t:3.0|ms|@0.001|#a,b,c,d", "t:100|h|@1|#12345678,_", "0123456789abcde.:999999.999|c|@0.999", "s:0123456789abcdef|s",
	}
	for _, line := range lines {
		for i := range len(line) + 1 {
			for b := range 256 {
				checkAgainstGrammar(t, line[:i]+string([]byte{byte(b)})+line[i:])
				if i < len(line) {
					checkAgainstGrammar(t, line[:i]+string([]byte{byte(b)})+line[i+1:])
				}
			}
			for j := i; j <= len(line); j++ {
				checkAgainstGrammar(t, line[:i]+line[j:])
			}
			for _, other := range lines {
				for j := range len(other) + 1 {
					checkAgainstGrammar(t, line[:i]+other[j:])
				}
			}
		}
	}
}

// TestParseShort: all texts of a few bytes behind a name, so that no short form is forgotten.
func TestParseShort(t *testing.T) {
	const bytes = "10a.-+:|cgsmh@#,"
	for _, ahead := range []string{"x:", "x:1|", "x:1|c|", "x:1|c|@0.", "x:1|g|#", "x:w|s|"} {
		texts := []string{""}
		for range 4 {
			var longer []string
			for _, text := range texts {
				checkAgainstGrammar(t, ahead+text)
				for i := range len(bytes) {
					longer = append(longer, text+bytes[i:i+1])
				}
			}
			texts = longer
		}
		for _, text := range texts {
			checkAgainstGrammar(t, ahead+text)
		}
	}
}
