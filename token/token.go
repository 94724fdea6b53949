// Package token reads the text of a program token by token.
package token

import (
	"strings"

	"stagehand/api"
)

// Kind tells tokens apart.
type Kind int

const (
	End Kind = iota // the text's end; nothing stands there
	Open
	Close
	Number
	Text
	Word
)

// Token is a token and the byte at which it begins. Its body is what is written there, of a text without the quotes.
type Token struct {
	Kind  Kind
	Place int
	Body  string
}

// Reader gives the tokens of a text one after the other.
type Reader struct {
	text  string
	place int
}

// NewReader begins at the head of a text.
func NewReader(text string) *Reader { return &Reader{text: text} }

// Next gives the next token, End as often as it is asked there, or an api.Wrong if the token is a wrong one.
func (r *Reader) Next() (Token, error) {
	r.place += run(r.text[r.place:], isBlank)
	rest := r.text[r.place:]
	kind, length, err := measure(rest)
	if err != nil {
		return Token{}, api.Wrong{Place: r.place, Cause: err}
	}
	read := Token{Kind: kind, Place: r.place, Body: body(kind, rest[:length])}
	r.place += length
	return read, nil
}

func measure(rest string) (Kind, int, error) {
	if rest == "" {
		return End, 0, nil
	}
	switch first := rest[0]; {
	case first == '(':
		return Open, 1, nil
	case first == ')':
		return Close, 1, nil
	case first == '\'':
		length, err := measureText(rest)
		return Text, length, err
	case first == '-' || isDigit(first):
		length, err := measureNumber(rest)
		return Number, length, err
	case isLetter(first):
		length, err := measureWord(rest)
		return Word, length, err
	}
	return End, 0, api.ErrText
}

func measureText(rest string) (int, error) {
	inside := run(rest[1:], isQuotable)
	if inside > api.MaxQuoted || !strings.HasPrefix(rest[1+inside:], "'") {
		return 0, api.ErrText
	}
	return inside + 2, nil
}

func measureNumber(rest string) (int, error) {
	unsigned := strings.TrimPrefix(rest, "-")
	digits := run(unsigned, isDigit)
	if digits == 0 || digits > api.MaxDigits {
		return 0, api.ErrText
	}
	return len(rest) - len(unsigned) + digits, nil
}

func measureWord(rest string) (int, error) {
	letters := run(rest, isLetter)
	if letters > api.MaxName {
		return 0, api.ErrText
	}
	return letters, nil
}

func body(kind Kind, written string) string {
	if kind == Text {
		return written[1 : len(written)-1]
	}
	return written
}

// run tells how many bytes at the head of a text are of one sort.
func run(text string, is func(byte) bool) int {
	for i := range len(text) {
		if !is(text[i]) {
			return i
		}
	}
	return len(text)
}

func isBlank(b byte) bool    { return b == ' ' || b == '\n' }
func isDigit(b byte) bool    { return '0' <= b && b <= '9' }
func isLetter(b byte) bool   { return 'a' <= b && b <= 'z' }
func isQuotable(b byte) bool { return 32 <= b && b <= 126 && b != '\'' }
