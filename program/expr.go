package program

// Name is a name and the byte at which it stands.
type Name struct {
	Word  string
	Place int
}

// Function is a definition of a program.
type Function struct {
	Name       Name
	Parameters []Name
	Body       Expr
}

// Program is a program with which nothing is wrong; its functions are in their order.
type Program struct {
	Functions []Function
}

// Expr is one of the types below; what is done with one goes by a type switch.
type Expr interface{ Place() int }

// Spot is the byte at which an expr begins.
type Spot int

// Place tells that byte.
func (s Spot) Place() int { return int(s) }

type (
	// Number is a number as it is written in a program.
	Number struct {
		Spot
		Value int64
	}

	// Text is a text as it is written in a program.
	Text struct {
		Spot
		Value string
	}

	// Variable is a name that stands as an expr.
	Variable struct {
		Spot
		Word string
	}

	// List makes a list.
	List struct {
		Spot
		Items []Expr
	}

	// If chooses Then, unless Condition is 0.
	If struct {
		Spot
		Condition, Then, Else Expr
	}

	// Let gives Value a name within Body.
	Let struct {
		Spot
		Name        Name
		Value, Body Expr
	}

	// Binary is one of the operations on two values.
	Binary struct {
		Spot
		Operation     Operation
		First, Second Expr
	}

	// Len asks how long something is.
	Len struct {
		Spot
		Of Expr
	}

	// Set lays a value at an index of a list.
	Set struct {
		Spot
		List, Index, Value Expr
	}

	// Call calls a function.
	Call struct {
		Spot
		Function  Name
		Arguments []Expr
	}

	// Map calls a function for each value of a list.
	Map struct {
		Spot
		Function Name
		List     Expr
	}
)

// Operation is what a Binary does with its two values; it is the word that stands for it.
type Operation string

const (
	Add  Operation = "add"
	Sub  Operation = "sub"
	Mul  Operation = "mul"
	Eq   Operation = "eq"
	Less Operation = "less"
	At   Operation = "at"
	Join Operation = "join"
)
