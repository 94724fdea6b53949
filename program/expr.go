package program

// Name is a name and the byte at which it stands.
type Name struct {
	Word  string
	Place int
}

// Function is a definition of a program.
type Function struct {
	Name       Name
	Parameters []Name
	Body       Expr
}

// Program is a program with which nothing is wrong; its functions are in their order.
type Program struct {
	Functions []Function
}

// Expr is one of the types below; what is done with one goes by a type switch.
type Expr interface{ isExpr() }

type (
	// Number is a number as it is written in a program.
	Number struct{ Value int64 }

	// Text is a text as it is written in a program.
	Text struct{ Value string }

	// Variable is a name that stands as an expr.
	Variable struct{ Name Name }

	// List makes a list.
	List struct{ Items []Expr }

	// If chooses Then, unless Condition is 0.
	If struct{ Condition, Then, Else Expr }

	// Let gives Value a name within Body.
	Let struct {
		Name        Name
		Value, Body Expr
	}

	// Binary is one of the operations on two values.
	Binary struct {
		Operation     Operation
		First, Second Expr
	}

	// Len asks how long something is.
	Len struct{ Of Expr }

	// Set lays a value at a place of a list.
	Set struct{ List, Place, Value Expr }

	// Call calls a function.
	Call struct {
		Function  Name
		Arguments []Expr
	}

	// Map calls a function for each value of a list.
	Map struct {
		Function Name
		List     Expr
	}
)

// Operation is what a Binary does with its two values; it is the word that stands for it.
type Operation string

const (
	Add  Operation = "add"
	Sub  Operation = "sub"
	Mul  Operation = "mul"
	Eq   Operation = "eq"
	Less Operation = "less"
	At   Operation = "at"
	Join Operation = "join"
)

func (Number) isExpr()   {}
func (Text) isExpr()     {}
func (Variable) isExpr() {}
func (List) isExpr()     {}
func (If) isExpr()       {}
func (Let) isExpr()      {}
func (Binary) isExpr()   {}
func (Len) isExpr()      {}
func (Set) isExpr()      {}
func (Call) isExpr()     {}
func (Map) isExpr()      {}
