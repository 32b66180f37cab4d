package sample

import (
	"strconv"
	"strings"
)

// Whole is 1 in thousandths, and the rate where there is none.
const Whole = 1000

const (
	mostDigits  = 6 // ahead of a number's point
	mostDecimal = 3 // behind it
)

// readNumber reads a number without a sign, in thousandths; false: it is none.
func readNumber(text string) (int, bool) {
	ahead, behind, point := strings.Cut(text, ".")
	if !isDigits(ahead, mostDigits) {
		return 0, false
	}
	if !point {
		behind = "0"
	}
	part, ok := readDecimals(behind)
	if !ok {
		return 0, false
	}
	return digitsValue(ahead)*Whole + part, true
}

// readRate reads a rate in thousandths; false: it is none.
func readRate(text string) (int, bool) {
	if text == "1" {
		return Whole, true
	}
	behind, ok := strings.CutPrefix(text, "0.")
	if !ok {
		return 0, false
	}
	n, ok := readDecimals(behind)
	return n, ok && n > 0
}

// readDecimals reads the digits behind a point, in thousandths.
func readDecimals(text string) (int, bool) {
	if !isDigits(text, mostDecimal) {
		return 0, false
	}
	return digitsValue(text + strings.Repeat("0", mostDecimal-len(text))), true
}

// digitsValue is the value of a few digits.
func digitsValue(digits string) int {
	n := 0
	for i := range len(digits) {
		n = n*10 + int(digits[i]-'0')
	}
	return n
}

// writeNumber writes thousandths as a number in its plain form, with a minus ahead below 0.
func writeNumber(n int) string {
	sign := ""
	if n < 0 {
		sign, n = "-", -n
	}
	text := sign + strconv.Itoa(n/Whole)
	if n%Whole == 0 {
		return text
	}
	// The 1 ahead of the thousandths keeps their zeros; it is cut off again.
	decimals := strconv.Itoa(Whole + n%Whole)[1:]
	return text + "." + strings.TrimRight(decimals, "0")
}
