// Package token reads the text of a program token by token.
package token

import (
	"strings"

	"stagehand/api"
	"stagehand/char"
)

// Kind tells tokens apart.
type Kind int

const (
	End Kind = iota // the text's end; nothing stands there
	Open
	Close
	Number
	Text
	Word
)

// Token is a token and the byte at which it begins. Its body is what is written there, of a text without the quotes.
type Token struct {
	Kind  Kind
	Place int
	Body  string
}

// Reader gives the tokens of a text one after the other.
type Reader struct {
	text  string
	place int
}

// NewReader begins at the head of a text.
func NewReader(text string) *Reader { return &Reader{text: text} }

// Next gives the next token, End as often as it is asked there, or an api.Wrong if the token is a wrong one.
func (r *Reader) Next() (Token, error) {
	r.place += char.Run(r.text[r.place:], char.IsBlank)
	rest := r.text[r.place:]
	kind, length, err := measure(rest)
	if err != nil {
		return Token{}, api.Wrong{Place: r.place, Cause: err}
	}
	read := Token{Kind: kind, Place: r.place, Body: body(kind, rest[:length])}
	r.place += length
	return read, nil
}

func measure(rest string) (Kind, int, error) {
	if rest == "" {
		return End, 0, nil
	}
	switch first := rest[0]; {
	case first == '(':
		return Open, 1, nil
	case first == ')':
		return Close, 1, nil
	case first == '\'':
		length, err := measureText(rest)
		return Text, length, err
	case first == '-' || char.IsDigit(first):
		length, err := measureNumber(rest)
		return Number, length, err
	case char.IsLetter(first):
		length, err := measureWord(rest)
		return Word, length, err
	}
	return End, 0, api.ErrText
}

func measureText(rest string) (int, error) {
	inside := char.Run(rest[1:], char.IsQuotable)
	if inside > api.MaxQuoted || !strings.HasPrefix(rest[1+inside:], "'") {
		return 0, api.ErrText
	}
	return inside + 2, nil
}

func measureNumber(rest string) (int, error) {
	unsigned := strings.TrimPrefix(rest, "-")
	digits := char.Run(unsigned, char.IsDigit)
	if digits == 0 || digits > api.MaxDigits {
		return 0, api.ErrText
	}
	return len(rest) - len(unsigned) + digits, nil
}

func measureWord(rest string) (int, error) {
	letters := char.Run(rest, char.IsLetter)
	if letters > api.MaxName {
		return 0, api.ErrText
	}
	return letters, nil
}

func body(kind Kind, written string) string {
	if kind == Text {
		return written[1 : len(written)-1]
	}
	return written
}
