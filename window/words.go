package window

// words are the words of a set, up to as many as it may have.
type words struct {
	most int
	has  map[string]struct{}
}

// newWords makes a set without words.
func newWords(most int) *words {
	return &words{most: most, has: map[string]struct{}{}}
}

// add puts a word in, unless it is there; false: there is no place for it.
func (l *words) add(word string) bool {
	if _, ok := l.has[word]; ok {
		return true
	}
	if len(l.has) >= l.most {
		return false
	}
	l.has[word] = struct{}{}
	return true
}

// len is how many words there are.
func (l *words) len() int { return len(l.has) }
