package sample

import "tally/api"

// isLetter tells whether a byte is one that words are made of.
func isLetter(b byte) bool {
	return b >= 'a' && b <= 'z' || isDigit(b) || b == '_'
}

// isDigit tells whether a byte is a decimal digit.
func isDigit(b byte) bool {
	return b >= '0' && b <= '9'
}

// isNameByte tells whether a byte may stand in a name.
func isNameByte(b byte) bool {
	return isLetter(b) || b == '.'
}

// isName tells whether a text is a name.
func isName(text string) bool {
	return isMadeOf(text, api.MaxName, isNameByte)
}

// isWord tells whether a text is 1 to most letters.
func isWord(text string, most int) bool {
	return isMadeOf(text, most, isLetter)
}

// isDigits tells whether a text is 1 to most digits.
func isDigits(text string, most int) bool {
	return isMadeOf(text, most, isDigit)
}

// isMadeOf tells whether a text is 1 to most bytes, all of the kind that is asked for.
func isMadeOf(text string, most int, fits func(byte) bool) bool {
	if text == "" || len(text) > most {
		return false
	}
	for i := range len(text) {
		if !fits(text[i]) {
			return false
		}
	}
	return true
}
