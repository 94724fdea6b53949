package stagehand

import (
	"errors"
	"slices"
	"strings"
	"sync"

	"stagehand/api"
	"stagehand/char"
	"stagehand/event"
	"stagehand/fault"
	"stagehand/node"
	"stagehand/program"
	"stagehand/reckon"
	"stagehand/show"
	"stagehand/value"
)

// App is a program that runs.
type App struct {
	lock     sync.Mutex // each call holds it
	program  program.Program
	model    value.Value
	waiting  []value.Value
	handled  bool      // whether a message was, since the last Frame
	shown    node.Node // nil, as long as nothing is
	greatest int       // of the numbers that were ever given
	counts   api.Count // but for those that wait
}

// New begins a program (P7).
func New(text string) (*App, error) {
	read, err := program.Read(text)
	if err != nil {
		return nil, err
	}
	model, err := reckon.Named(read, "init")
	if err != nil {
		return nil, err
	}
	return &App{program: read, model: model}, nil
}

// Model tells the model (P7).
func (a *App) Model() string {
	a.lock.Lock()
	defer a.lock.Unlock()
	return value.Write(a.model)
}

// Send lays a message behind those that wait (P8).
func (a *App) Send(value string) error {
	a.lock.Lock()
	defer a.lock.Unlock()
	return a.send(value)
}

func (a *App) send(written string) error {
	message, err := value.Read(written)
	if err != nil {
		return err
	}
	a.lay(message)
	return nil
}

// lay lets all of these messages wait, or drops all of them; it tells how many wait more than ahead.
func (a *App) lay(messages ...value.Value) int {
	if len(a.waiting)+len(messages) > api.MaxQueue {
		a.counts.Dropped++
		return 0
	}
	a.waiting = append(a.waiting, messages...)
	return len(messages)
}

// Pump handles messages (P8).
func (a *App) Pump(most int) int {
	a.lock.Lock()
	defer a.lock.Unlock()
	handled := 0
	for handled < most && len(a.waiting) > 0 {
		message := a.waiting[0]
		a.waiting = slices.Delete(a.waiting, 0, 1)
		a.handle(message)
		handled++
	}
	return handled
}

func (a *App) handle(message value.Value) {
	a.handled = true
	model, err := reckon.Named(a.program, "update", message, a.model)
	if err != nil {
		a.countFault(err)
		return
	}
	a.model = model
}

func (a *App) countFault(err error) {
	if errors.Is(err, api.ErrFault) {
		a.counts.Faults++
	}
}

// Frame shows what there is (P9, P10).
func (a *App) Frame() error {
	a.lock.Lock()
	defer a.lock.Unlock()
	if a.shown != nil && !a.handled {
		return nil
	}
	a.handled = false
	if err := a.show(); err != nil {
		a.countFault(err)
		return err
	}
	a.counts.Frames++
	return nil
}

func (a *App) show() error {
	given, err := reckon.Named(a.program, "view", a.model)
	if err != nil {
		return err
	}
	top, lazies, err := show.Look(a.program, given, a.shown)
	a.counts.Lazies += lazies
	if err != nil {
		return err
	}
	a.greatest = node.Number(top, a.shown, a.greatest)
	a.shown = top
	return nil
}

// Tree tells what is shown (P11).
func (a *App) Tree() string {
	a.lock.Lock()
	defer a.lock.Unlock()
	return node.Write(a.shown)
}

// Event tells a node that something has happened (P12).
func (a *App) Event(path []int, name string) (int, error) {
	a.lock.Lock()
	defer a.lock.Unlock()
	way, err := node.Way(a.shown, path)
	if err != nil {
		return 0, err
	}
	return a.lay(a.messages(event.Ask(way, name))...), nil
}

// messages gives those of the handlers that have one; the others are faults.
func (a *App) messages(handlers []event.Asked) []value.Value {
	var messages []value.Value
	for _, handler := range handlers {
		message, err := handler.Message(a.program)
		if err != nil {
			a.countFault(err)
			continue
		}
		messages = append(messages, message)
	}
	return messages
}

// Scribble writes on a node (P11).
func (a *App) Scribble(path []int, text string) error {
	a.lock.Lock()
	defer a.lock.Unlock()
	found, err := node.Find(a.shown, path)
	if err != nil {
		return err
	}
	if len(text) > api.MaxQuoted || !char.Are(text, char.IsQuotable) {
		return fault.Scribble
	}
	mark := found.Marked()
	mark.IsWritten, mark.Written = true, strings.Clone(text)
	return nil
}

// Counts tells how often what was (P13).
func (a *App) Counts() api.Count {
	a.lock.Lock()
	defer a.lock.Unlock()
	counts := a.counts
	counts.Waiting = len(a.waiting)
	return counts
}
