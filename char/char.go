// Package char tells the sorts of bytes that programs and values are written in.
package char

// Run tells how many bytes at the head of a text are of one sort.
func Run(text string, is func(byte) bool) int {
	for i := range len(text) {
		if !is(text[i]) {
			return i
		}
	}
	return len(text)
}

// Are tells whether all bytes of a text are of one sort.
func Are(text string, is func(byte) bool) bool { return Run(text, is) == len(text) }

// IsBlank: what may stand between the tokens of a program.
func IsBlank(b byte) bool { return b == ' ' || b == '\n' }

// IsDigit: what a number is made of.
func IsDigit(b byte) bool { return '0' <= b && b <= '9' }

// IsLetter: what a word is made of.
func IsLetter(b byte) bool { return 'a' <= b && b <= 'z' }

// IsQuotable: what may stand in a text.
func IsQuotable(b byte) bool { return 32 <= b && b <= 126 && b != '\'' }
