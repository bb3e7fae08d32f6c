package market_test

import (
	"reflect"
	"slices"
	"testing"

	"noonbell/api"
	"noonbell/cert"
	"noonbell/market"
)

// within has spare room behind what is told of it.
func within[E any](l []E, more ...E) []E {
	return append(slices.Clone(l), more...)[:len(l)]
}

// handed is all that may be handed in, with spare room behind each list.
type handed struct {
	lines  []api.Line
	steps  []api.Step
	blocks []api.Block
	accept []bool
	net    []int
	x      []string
}

func roomy() handed {
	return handed{
		within([]api.Line{line(0, 1, 5), line(1, 0, 2)}, line(1, 0, 1000), line(0, 1, 1000)),
		within([]api.Step{sells(0, 10, 20), inHour(1, sells(0, 5, 3)), buys(1, 6, 50), buys(0, 2, 40)}, buys(0, 9, 99), sells(1, 9, -9)),
		within([]api.Block{gives(0, 4, within([]int{3, 2}, 99)...), takes(1, 60, within([]int{1}, 77)...)}, gives(0, 1, 88)),
		within([]bool{true, true}, true, true),
		within([]int{3, -1}, 5, 6),
		within(words("1 2 3 4"), "5", "6"),
	}
}

// rooms is all of it, with what stands in the room.
func (h handed) rooms() handed {
	h.lines, h.steps = slices.Clone(h.lines[:cap(h.lines)]), slices.Clone(h.steps[:cap(h.steps)])
	h.accept, h.net, h.x = slices.Clone(h.accept[:cap(h.accept)]), slices.Clone(h.net[:cap(h.net)]), slices.Clone(h.x[:cap(h.x)])
	h.blocks = slices.Clone(h.blocks[:cap(h.blocks)])
	for i, b := range h.blocks {
		h.blocks[i].Qty = slices.Clone(b.Qty[:cap(b.Qty)])
	}
	return h
}

// spoil writes over all that was handed in.
func (h handed) spoil() {
	clear(h.lines[:cap(h.lines)])
	clear(h.steps[:cap(h.steps)])
	for _, b := range h.blocks[:cap(h.blocks)] {
		clear(b.Qty[:cap(b.Qty)])
	}
	clear(h.blocks[:cap(h.blocks)])
	clear(h.accept[:cap(h.accept)])
	clear(h.net[:cap(h.net)])
	clear(h.x[:cap(h.x)])
}

// answers is what all calls answer.
type answers struct {
	net     []int
	problem cert.Problem
	hour    market.Hour
	welfare string
}

func (h handed) ask(t *testing.T) answers {
	t.Helper()
	g := gridOf(2, h.lines...)
	g.Lines = h.lines
	hour, e := market.Solve(g, h.steps, 0, h.net)
	if e != api.OK || !hour.OK {
		t.Fatalf("%+v: %+v, error %d", h, hour, e)
	}
	return answers{market.Net(g, h.blocks, h.accept, 0), market.Build(g, h.steps, 0, h.net), hour, market.Welfare(h.steps, h.x, h.blocks, h.accept)}
}

// lists are all of an answer's, with their spare room.
func (a answers) lists() (ints []*[]int, texts []*[]string) {
	ints = []*[]int{&a.net, &a.problem.Rel, &a.problem.B, &a.problem.C}
	for i := range a.problem.Rows {
		ints = append(ints, &a.problem.Rows[i])
	}
	return ints, []*[]string{&a.hour.X, &a.hour.F, &a.hour.P}
}

func TestR3WhatIsHandedInStays(t *testing.T) {
	h := roomy()
	was := h.rooms()
	first := h.ask(t)
	if got := h.rooms(); !reflect.DeepEqual(got, was) {
		t.Errorf("what was handed in: %+v, not %+v", got, was)
	}
	if first.welfare != "324" || !slices.Equal(first.net, []int{3, -1}) || first.hour.Welfare != "260" {
		t.Errorf("%+v", first)
	}
	// Nor is it kept: what was answered stays.
	h.spoil()
	if again := roomy().ask(t); !reflect.DeepEqual(again, first) {
		t.Errorf("%+v, then, once all was written over: %+v", again, first)
	}
	// An answer written over changes nothing that was handed in.
	h = roomy()
	spoilt := h.ask(t)
	ints, texts := spoilt.lists()
	for _, l := range ints {
		clear((*l)[:cap(*l)])
	}
	for _, l := range texts {
		clear((*l)[:cap(*l)])
	}
	if got := h.rooms(); !reflect.DeepEqual(got, was) {
		t.Errorf("behind an answer: %+v, not %+v", got, was)
	}
}

// No two lists of an answer share memory, nor two answers.
func TestR3NewMemory(t *testing.T) {
	first := roomy().ask(t)
	many, _ := first.lists()
	for i := range len(many) {
		got := roomy().ask(t)
		ints, _ := got.lists()
		for j := range (*ints[i])[:cap(*ints[i])] {
			(*ints[i])[:cap(*ints[i])][j] = 99
		}
		wanted, _ := first.lists()
		for j := range ints {
			if j != i && !slices.Equal(*ints[j], *wanted[j]) {
				t.Errorf("numbers %d share memory with %d: %v, not %v", j, i, *ints[j], *wanted[j])
			}
		}
	}
	for i := range 3 {
		got := roomy().ask(t)
		_, texts := got.lists()
		for j := range (*texts[i])[:cap(*texts[i])] {
			(*texts[i])[:cap(*texts[i])][j] = "gone"
		}
		_, wanted := first.lists()
		for j := range texts {
			if j != i && !slices.Equal(*texts[j], *wanted[j]) {
				t.Errorf("texts %d share memory with %d: %q, not %q", j, i, *texts[j], *wanted[j])
			}
		}
	}
	if again := roomy().ask(t); !reflect.DeepEqual(again, first) {
		t.Errorf("%+v, then %+v", first, again)
	}
}

func TestR5OneAnswer(t *testing.T) {
	l := hours()[:60]
	var first []market.Hour
	for _, c := range l {
		first = append(first, solved(t, c.g, c.steps, c.hour, c.net))
	}
	for i, c := range slices.Backward(l) {
		if again := solved(t, c.g, c.steps, c.hour, c.net); !reflect.DeepEqual(again, first[i]) {
			t.Errorf("%+v: %+v, then %+v", c, first[i], again)
		}
	}
}
