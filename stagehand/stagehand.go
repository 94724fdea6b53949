// Package stagehand: programs that show what they have: see DOC.md.
package stagehand

import (
	"stagehand/fault"
	"stagehand/program"
	"stagehand/reckon"
	"stagehand/value"
)

// Check tells what is wrong with a program (P3 to P5).
func Check(text string) error {
	_, err := program.Read(text)
	return err
}

// Reckon tells what a function of a program gives (P6).
func Reckon(text string, name string, args []string) (string, error) {
	read, err := program.Read(text)
	if err != nil {
		return "", err
	}
	if _, there := read.Find(name, len(args)); !there {
		return "", fault.Function
	}
	arguments, err := readAll(args)
	if err != nil {
		return "", err
	}
	given, err := reckon.Named(read, name, arguments...)
	if err != nil {
		return "", err
	}
	return value.Write(given), nil
}

func readAll(written []string) ([]value.Value, error) {
	var values []value.Value
	for i, text := range written {
		read, err := value.Read(text)
		if err != nil {
			return nil, fault.In{What: "argument", Index: i, Cause: err}
		}
		values = append(values, read)
	}
	return values, nil
}
