// Package stagehand: programs that show what they have: see DOC.md.
package stagehand

import (
	"stagehand/api"
	"stagehand/fault"
	"stagehand/program"
	"stagehand/reckon"
	"stagehand/value"
)

// Check tells what is wrong with a program (P3 to P5).
func Check(text string) error {
	_, err := program.Read(text)
	return err
}

// Reckon tells what a function of a program gives (P6).
func Reckon(text string, name string, args []string) (string, error) {
	read, err := program.Read(text)
	if err != nil {
		return "", err
	}
	function, there := read.Find(name, len(args))
	if !there {
		return "", fault.Function
	}
	arguments, err := readAll(args)
	if err != nil {
		return "", err
	}
	given, err := reckon.Function(read, function, arguments)
	if err != nil {
		return "", err
	}
	return value.Write(given), nil
}

func readAll(written []string) ([]value.Value, error) {
	var values []value.Value
	for i, text := range written {
		read, err := value.Read(text)
		if err != nil {
			return nil, fault.Argument{Index: i, Cause: err}
		}
		values = append(values, read)
	}
	return values, nil
}

// App is a program that runs.
type App struct{}

// New begins a program (P7).
func New(text string) (*App, error) { return nil, nil }

// Model tells the model (P7).
func (a *App) Model() string { return "" }

// Send lays a message behind those that wait (P8).
func (a *App) Send(value string) error { return nil }

// Pump handles messages (P8).
func (a *App) Pump(most int) int { return 0 }

// Frame shows what there is (P9, P10).
func (a *App) Frame() error { return nil }

// Tree tells what is shown (P11).
func (a *App) Tree() string { return "" }

// Event tells a node that something has happened (P12).
func (a *App) Event(path []int, name string) (int, error) { return 0, nil }

// Scribble writes on a node (P11).
func (a *App) Scribble(path []int, text string) error { return nil }

// Counts tells how often what was (P13).
func (a *App) Counts() api.Count { return api.Count{} }
