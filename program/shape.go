package program

// anyNumber of exprs, none too.
const anyNumber = -1

// shape is what stands behind the word of a form: a name or none, and how many exprs.
type shape struct {
	named bool
	exprs int
}

func shapeOf(word string) (shape, bool) {
	switch word {
	case "list":
		return shape{exprs: anyNumber}, true
	case "call":
		return shape{named: true, exprs: anyNumber}, true
	case "map":
		return shape{named: true, exprs: 1}, true
	case "let":
		return shape{named: true, exprs: 2}, true
	case "if", "set":
		return shape{exprs: 3}, true
	case "len":
		return shape{exprs: 1}, true
	case "add", "sub", "mul", "eq", "less", "at", "join":
		return shape{exprs: 2}, true
	}
	return shape{}, false
}

func isReserved(word string) bool {
	_, known := shapeOf(word)
	return known || word == "fun"
}

// build makes the expr of a form; name and parts are as the word's shape asks.
func build(word string, spot Spot, name Name, parts []Expr) Expr {
	switch word {
	case "list":
		return List{Spot: spot, Items: parts}
	case "call":
		return Call{Spot: spot, Function: name, Arguments: parts}
	case "map":
		return Map{Spot: spot, Function: name, List: parts[0]}
	case "let":
		return Let{Spot: spot, Name: name, Value: parts[0], Body: parts[1]}
	case "if":
		return If{Spot: spot, Condition: parts[0], Then: parts[1], Else: parts[2]}
	case "set":
		return Set{Spot: spot, List: parts[0], Index: parts[1], Value: parts[2]}
	case "len":
		return Len{Spot: spot, Of: parts[0]}
	}
	return Binary{Spot: spot, Operation: Operation(word), First: parts[0], Second: parts[1]}
}
