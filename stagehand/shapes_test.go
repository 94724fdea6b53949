package stagehand_test

import (
	"math/rand/v2"
	"slices"
	"strconv"
	"strings"
	"testing"

	"stagehand/stagehand"
)

// shape is a node as the tests below make it up.
type shape struct {
	kind string // text, el, keyed, tag or lazy
	word string // the text, the tag or the function
	on   string // its handlers, as they are written
	keys []string
	in   []*shape
}

const shapeFunctions = "(fun same (x) x) (fun pick (x y) y) (fun box (x) (list 'el' 'b' (list (list 'id' 'b')) (list x))) (fun inc (x) (add x 1)) (fun wrap (x) (list 'w' x))"

// written is the value of a shape; plain ones have what lazy nodes give instead of these, and no tags.
func (s *shape) written(plain bool) string {
	var inside []string
	for i, inner := range s.in {
		text := inner.written(plain)
		if s.kind == "keyed" {
			text = "('" + s.keys[i] + "' " + text + ")"
		}
		inside = append(inside, text)
	}
	all := strings.Join(inside, " ")
	switch {
	case s.kind == "text":
		return "'" + s.word + "'"
	case s.kind == "el" || s.kind == "keyed":
		return "('" + s.kind + "' '" + s.word + "' (('id' '" + s.word + "')" + s.on + ") (" + all + "))"
	case plain && s.kind == "tag":
		return all
	case plain:
		return s.given().written(plain)
	case s.word == "pick":
		return "('lazy' 'pick' 0 " + all + ")"
	}
	return "('" + s.kind + "' '" + s.word + "' " + all + ")"
}

// given is what a lazy one gives.
func (s *shape) given() *shape {
	if s.word == "box" {
		return &shape{kind: "el", word: "b", in: s.in}
	}
	return s.in[0]
}

func (s *shape) bare() *shape {
	for s.kind == "tag" || s.kind == "lazy" {
		if s.kind == "tag" {
			s = s.in[0]
		} else {
			s = s.given()
		}
	}
	return s
}

// step is how the place of the i-th node in s goes on from the place of s.
func (s *shape) step(i int) string {
	switch s.kind {
	case "el":
		return "/el " + s.word + " " + strconv.Itoa(i)
	case "keyed":
		return "/keyed " + s.word + " " + s.keys[i]
	}
	return "/" + s.kind
}

// oracle tells by the places of nodes alone, written as texts, what an App has to show: a node matches if one alike had the same place.
type oracle struct {
	numbers   map[string]int
	scribbles map[string]string
	lazies    map[string]string // what the lazy node at a place is of
	greatest  int
	reckoned  int
	paths     map[string][]int // of what is shown
}

func (o *oracle) frame(top *shape) string {
	was := *o
	o.numbers, o.scribbles, o.lazies, o.paths = map[string]int{}, map[string]string{}, map[string]string{}, map[string][]int{}
	o.countLazies(top, "", &was, true)
	return o.tree(top, "", nil, &was)
}

func (o *oracle) countLazies(s *shape, place string, was *oracle, anew bool) {
	if s.kind == "lazy" {
		o.lazies[place] = s.written(false)
		if was.lazies[place] == o.lazies[place] {
			anew = false
		}
		if anew {
			o.reckoned++
		}
		o.countLazies(s.given(), place+s.step(0), was, anew)
		return
	}
	for i, inner := range s.in {
		o.countLazies(inner, place+s.step(i), was, anew)
	}
}

func (o *oracle) tree(s *shape, place string, path []int, was *oracle) string {
	s = s.bare()
	self := place + "=" + s.kind
	if s.kind != "text" {
		self += " " + s.word
	}
	o.paths[self] = path
	number, matches := was.numbers[self]
	if !matches {
		o.greatest++
		number = o.greatest
	}
	o.numbers[self] = number
	mark := "#" + strconv.Itoa(number)
	if text, there := was.scribbles[self]; there && matches {
		o.scribbles[self] = text
		mark += "!'" + text + "'"
	}
	if s.kind == "text" {
		return mark + " '" + s.word + "'"
	}
	told := "<" + s.word + mark + " id='" + s.word + "'>"
	for i, inner := range s.in {
		told += o.tree(inner, place+s.step(i), append(slices.Clone(path), i), was)
	}
	return told + "</" + s.word + ">"
}

// maker makes up shapes, the same ones in each run; with handlers or without.
type maker struct {
	*rand.Rand
	hears bool
}

func (m maker) pick(words ...string) string { return words[m.IntN(len(words))] }

func (m maker) shape(depth int) *shape {
	kind := m.pick("text", "el", "keyed", "tag", "lazy", "lazy")
	if depth == 0 {
		kind = "text"
	}
	s := &shape{kind: kind}
	switch kind {
	case "text":
		s.word = m.pick("x", "y", "z")
	case "tag":
		s.word, s.in = m.pick("same", "box", "inc", "wrap"), []*shape{m.shape(depth - 1)}
	case "lazy":
		s.word, s.in = m.pick("same", "pick", "box"), []*shape{m.shape(depth - 1)}
	default:
		s.word, s.on = m.pick("a", "b"), m.handlers()
		for range m.IntN(4) {
			s = m.grown(s, depth)
		}
	}
	return s
}

// grown has one more node somewhere, unless its key is there already.
func (m maker) grown(s *shape, depth int) *shape {
	key := m.pick("k", "j", "i", "h", "")
	if s.kind == "keyed" && slices.Contains(s.keys, key) {
		return s
	}
	at := m.IntN(len(s.in) + 1)
	grown := &shape{kind: s.kind, word: s.word, on: s.on, keys: s.keys, in: slices.Insert(slices.Clone(s.in), at, m.shape(depth-1))}
	if s.kind == "keyed" {
		grown.keys = slices.Insert(slices.Clone(s.keys), at, key)
	}
	return grown
}

// changed is a shape with some change somewhere, often none.
func (m maker) changed(s *shape, depth int) *shape {
	changed := &shape{kind: s.kind, word: s.word, on: s.on, keys: slices.Clone(s.keys)}
	for _, inner := range s.in {
		changed.in = append(changed.in, m.changed(inner, depth-1))
	}
	holds := s.kind == "el" || s.kind == "keyed"
	switch chance := m.IntN(30); {
	case chance == 0:
		return m.shape(max(depth, 0))
	case chance == 1 && (s.kind == "tag" || s.kind == "lazy"):
		changed.word = m.pick("same", "box")
	case chance == 2:
		return &shape{kind: m.pick("tag", "lazy"), word: "same", in: []*shape{changed}}
	case chance == 3 && (s.kind == "tag" || s.kind == "lazy"):
		return changed.in[0]
	case chance < 6 && holds:
		return m.grown(changed, max(depth, 1))
	case chance < 8 && holds && len(s.in) > 1:
		m.swap(changed)
	case chance > 25 && holds:
		changed.on = m.handlers()
	case chance < 10 && holds && len(s.in) > 0:
		at := m.IntN(len(s.in))
		changed.in = slices.Delete(changed.in, at, at+1)
		if s.kind == "keyed" {
			changed.keys = slices.Delete(changed.keys, at, at+1)
		}
	}
	return changed
}

// next is a changed shape, or a new one, if that would be too great to be shown.
func (m maker) next(s *shape) *shape {
	for _, next := range []*shape{m.changed(s, 3), s} {
		if next.nodes() <= 60 && len(next.written(false)) < 500 && len(next.written(true)) < 500 {
			return next
		}
	}
	return m.shape(1)
}

func (m maker) swap(s *shape) {
	i, j := m.IntN(len(s.in)), m.IntN(len(s.in))
	s.in[i], s.in[j] = s.in[j], s.in[i]
	if s.kind == "keyed" {
		s.keys[i], s.keys[j] = s.keys[j], s.keys[i]
	}
}

func (s *shape) nodes() int {
	in := s.in
	if s.kind == "lazy" {
		in = []*shape{s.given()}
	}
	nodes := 1
	for _, inner := range in {
		nodes += inner.nodes()
	}
	return nodes
}

// TestP9MadeUpShapes shows one shape after the other, with scribbles in between, beside the same without lazy nodes and tags.
func TestP9MadeUpShapes(t *testing.T) {
	for seed := range uint64(150) {
		m := maker{Rand: rand.New(rand.NewPCG(seed, 7))}
		a, plain := showing(t, shapeFunctions), showing(t, shapeFunctions)
		o := &oracle{}
		top := m.shape(4)
		for range 25 {
			top = m.next(top)
			wantShown(t, a, top.written(false), o.frame(top))
			wantShown(t, plain, top.written(true), a.Tree())
			if got := a.Counts().Lazies; got != o.reckoned {
				t.Errorf("P9: %d lazy nodes were reckoned, want %d", got, o.reckoned)
			}
			for range m.IntN(3) {
				scribbleSomewhere(t, m, o, a, plain)
			}
			wantTree(t, a, o.frame(top))
			wantTree(t, plain, a.Tree())
			if t.Failed() {
				t.Fatalf("P9: at seed %d: %s", seed, top.written(false))
			}
		}
	}
}

func scribbleSomewhere(t *testing.T, m maker, o *oracle, apps ...*stagehand.App) {
	t.Helper()
	place, text := m.pick(o.places()...), m.pick("", "one", "two")
	o.scribbles[place] = text
	for _, a := range apps {
		wantScribbled(t, a, text, o.paths[place]...)
	}
}
