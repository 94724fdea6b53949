package node

import (
	"strconv"
	"strings"

	"stagehand/value"
)

// Write tells a tree; none is the empty text.
func Write(top Node) string {
	var b strings.Builder
	write(&b, top)
	return b.String()
}

func write(b *strings.Builder, n Node) {
	switch n := Bare(n).(type) {
	case *Text:
		b.WriteString(mark(n.Mark) + " " + quote(n.Text))
	case *Element:
		writeElement(b, n)
	case *Keyed:
		writeElement(b, &n.Element)
	}
}

func writeElement(b *strings.Builder, e *Element) {
	b.WriteString("<" + e.Tag + mark(e.Mark))
	for _, attribute := range e.Attributes {
		b.WriteString(" " + attribute.Name + "=" + quote(attribute.Text))
	}
	b.WriteString(">")
	for _, inner := range e.Nodes {
		write(b, inner)
	}
	b.WriteString("</" + e.Tag + ">")
}

func mark(m Mark) string {
	number := "#" + strconv.Itoa(m.Number)
	if m.IsWritten {
		return number + "!" + quote(m.Written)
	}
	return number
}

func quote(text string) string { return value.Write(value.Text(text)) }
