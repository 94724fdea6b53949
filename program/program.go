// Package program reads programs, and tells what is wrong with them.
package program

import (
	"slices"
	"strings"

	"stagehand/api"
)

// Read gives the program that a text is, or the first thing that is wrong with it: an error in which errors.As finds an api.Wrong.
func Read(text string) (Program, error) {
	if len(text) > api.MaxText {
		return Program{}, api.Wrong{Place: 0, Cause: api.ErrLong}
	}
	functions, err := parse(strings.Clone(text)) // so that nothing of what was handed in is kept
	if err != nil {
		return Program{}, err
	}
	if err := checkNames(functions); err != nil {
		return Program{}, err
	}
	read := Program{Functions: functions}
	if !read.hasMain() {
		return Program{}, api.Wrong{Place: len(text), Cause: api.ErrMain}
	}
	return read, nil
}

func (p Program) hasMain() bool {
	_, hasInit := p.Find("init", 0)
	_, hasUpdate := p.Find("update", 2)
	_, hasView := p.Find("view", 1)
	return hasInit && hasUpdate && hasView
}

// Find gives the function that has this name and as many parameters, if there is one.
func (p Program) Find(word string, parameters int) (Function, bool) {
	i := slices.IndexFunc(p.Functions, func(f Function) bool {
		return f.Name.Word == word && len(f.Parameters) == parameters
	})
	if i < 0 {
		return Function{}, false
	}
	return p.Functions[i], true
}
