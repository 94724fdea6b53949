// Package program reads programs, and tells what is wrong with them.
package program

import "stagehand/api"

// Read gives the program that a text is, or the first thing that is wrong with it: an error in which errors.As finds an api.Wrong.
func Read(text string) (Program, error) {
	if len(text) > api.MaxText {
		return Program{}, api.Wrong{Place: 0, Cause: api.ErrLong}
	}
	functions, err := parse(text)
	if err != nil {
		return Program{}, err
	}
	if err := checkNames(functions); err != nil {
		return Program{}, err
	}
	if err := checkMain(functions); err != nil {
		return Program{}, api.Wrong{Place: len(text), Cause: err}
	}
	return Program{Functions: functions}, nil
}
