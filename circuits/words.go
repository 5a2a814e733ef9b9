package circuits

import (
	"strings"

	"diagram/api"
)

const signs = "=?!&^|()"

// split gives the words of a line, where nothing but words and blanks stands in it.
func split(line string) ([]string, bool) {
	var words []string
	for rest := strings.TrimLeft(line, " "); rest != ""; rest = strings.TrimLeft(rest, " ") {
		word := ahead(rest)
		if !isWord(word) {
			return nil, false
		}
		words = append(words, word)
		rest = rest[len(word):]
	}
	return words, true
}

// ahead gives what stands as one at the start of a text: letters and digits go together, since only a blank would part them.
func ahead(text string) string {
	end := 0
	for end < len(text) && (isLetter(text[end]) || isDigit(text[end])) {
		end++
	}
	return text[:max(end, 1)]
}

// isWord tells whether what ahead gave is a word.
func isWord(piece string) bool {
	return isName(piece) || piece == "0" || piece == "1" || strings.Contains(signs, piece)
}

// isName tells a name from all else that ahead gives.
func isName(piece string) bool {
	return isLetter(piece[0]) && len(piece) <= api.MaxName
}

func isLetter(b byte) bool { return b >= 'a' && b <= 'z' }

func isDigit(b byte) bool { return b >= '0' && b <= '9' }
