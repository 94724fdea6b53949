package reckon

import (
	"stagehand/fault"
	"stagehand/value"
)

// scope is a name and its value, and those around it; nil has none. It is never written into: what is beside a let does not see its name.
type scope struct {
	name   string
	value  value.Value
	around *scope
}

func (s *scope) with(name string, v value.Value) *scope {
	return &scope{name: name, value: v, around: s}
}

func (s *scope) find(name string) (value.Value, error) {
	for ; s != nil; s = s.around {
		if s.name == name {
			return s.value, nil
		}
	}
	return nil, fault.Name
}
