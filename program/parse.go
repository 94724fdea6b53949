package program

import (
	"strconv"

	"stagehand/api"
	"stagehand/token"
)

// parser takes each token once and never looks ahead, so that the first error it meets is the first in the text.
type parser struct {
	tokens *token.Reader
	open   int // brackets
}

func parse(text string) ([]Function, error) {
	p := &parser{tokens: token.NewReader(text)}
	var functions []Function
	for {
		first, err := p.tokens.Next()
		if err != nil {
			return nil, err
		}
		if first.Kind == token.End {
			return functions, nil
		}
		function, err := p.function(first)
		if err != nil {
			return nil, err
		}
		functions = append(functions, function)
	}
}

func (p *parser) function(first token.Token) (Function, error) {
	if err := p.enter(first); err != nil {
		return Function{}, err
	}
	if err := p.fun(); err != nil {
		return Function{}, err
	}
	name, err := p.name()
	if err != nil {
		return Function{}, err
	}
	parameters, err := p.parameters()
	if err != nil {
		return Function{}, err
	}
	body, err := p.exprs(1)
	if err != nil {
		return Function{}, err
	}
	return Function{Name: name, Parameters: parameters, Body: body[0]}, nil
}

func (p *parser) fun() error {
	word, err := p.tokens.Next()
	if err != nil {
		return err
	}
	if word.Kind != token.Word || word.Body != "fun" {
		return misplaced(word)
	}
	return nil
}

func (p *parser) parameters() ([]Name, error) {
	first, err := p.tokens.Next()
	if err != nil {
		return nil, err
	}
	if err := p.enter(first); err != nil {
		return nil, err
	}
	var names []Name
	for {
		next, err := p.tokens.Next()
		if err != nil {
			return nil, err
		}
		if next.Kind == token.Close {
			return names, p.leave(next)
		}
		name, err := nameOf(next)
		if err != nil {
			return nil, err
		}
		names = append(names, name)
	}
}

func (p *parser) name() (Name, error) {
	next, err := p.tokens.Next()
	if err != nil {
		return Name{}, err
	}
	return nameOf(next)
}

func (p *parser) expr(first token.Token) (Expr, error) {
	switch first.Kind {
	case token.Number:
		return numberOf(first)
	case token.Text:
		return Text{Spot: Spot(first.Place), Value: first.Body}, nil
	case token.Word:
		name, err := nameOf(first)
		return Variable{Spot: Spot(first.Place), Word: name.Word}, err
	}
	if err := p.enter(first); err != nil {
		return nil, err
	}
	return p.form(Spot(first.Place))
}

func (p *parser) form(spot Spot) (Expr, error) {
	word, err := p.tokens.Next()
	if err != nil {
		return nil, err
	}
	wanted, known := shapeOf(word.Body)
	if word.Kind != token.Word || !known {
		return nil, misplaced(word)
	}
	var name Name
	if wanted.named {
		if name, err = p.name(); err != nil {
			return nil, err
		}
	}
	parts, err := p.exprs(wanted.exprs)
	if err != nil {
		return nil, err
	}
	return build(word.Body, spot, name, parts), nil
}

// exprs takes that many exprs, or any, and the bracket that closes what they stand in.
func (p *parser) exprs(many int) ([]Expr, error) {
	var taken []Expr
	for {
		next, err := p.tokens.Next()
		if err != nil {
			return nil, err
		}
		if len(taken) == many || many == anyNumber && next.Kind == token.Close {
			return taken, p.leave(next)
		}
		expr, err := p.expr(next)
		if err != nil {
			return nil, err
		}
		taken = append(taken, expr)
	}
}

func (p *parser) enter(bracket token.Token) error {
	if bracket.Kind != token.Open {
		return misplaced(bracket)
	}
	if p.open == api.MaxDepth {
		return api.Wrong{Place: bracket.Place, Cause: api.ErrDeep}
	}
	p.open++
	return nil
}

func (p *parser) leave(bracket token.Token) error {
	if bracket.Kind != token.Close {
		return misplaced(bracket)
	}
	p.open--
	return nil
}

func nameOf(word token.Token) (Name, error) {
	if word.Kind != token.Word || isReserved(word.Body) {
		return Name{}, misplaced(word)
	}
	return Name{Word: word.Body, Place: word.Place}, nil
}

func numberOf(number token.Token) (Expr, error) {
	value, err := strconv.ParseInt(number.Body, 10, 64)
	if err != nil {
		return nil, misplaced(number)
	}
	return Number{Spot: Spot(number.Place), Value: value}, nil
}

func misplaced(found token.Token) error {
	return api.Wrong{Place: found.Place, Cause: api.ErrText}
}
