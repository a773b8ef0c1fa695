package parse

import "stitch/api"

const idLength = 4

// IsName tells whether a text is the name of a file.
func IsName(text string) bool {
	if text == "" || hasOver(text, api.MaxName) {
		return false
	}
	for _, r := range text {
		if !isLetter(r) {
			return false
		}
	}
	return true
}

func areNames(words []string) bool {
	for _, word := range words {
		if !IsName(word) {
			return false
		}
	}
	return true
}

func isLetter(r rune) bool {
	return 'a' <= r && r <= 'z' || '\u03b1' <= r && r <= '\u03c9'
}

func isId(text string) bool {
	if len(text) != idLength {
		return false
	}
	for _, r := range text {
		if !isIdRune(r) {
			return false
		}
	}
	return true
}

func isIdRune(r rune) bool {
	return '0' <= r && r <= '9' || 'a' <= r && r <= 'f'
}
