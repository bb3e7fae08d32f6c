package clear

import (
	"slices"

	"noonbell/rat"
)

// choice is what is decided on a block.
type choice int

const (
	undecided choice = iota
	accepted
	refused
)

// node is what is decided in it, block by block; what none of its members is
// worth more than; and what was best in the node that it came of.
type node struct {
	choices []choice
	upper   rat.Rat
	hours   []hour
}

// stack has the nodes that are open, that which was opened last on top.
type stack []node

func (s *stack) push(n node) {
	*s = append(*s, n)
}

func (s *stack) pop() node {
	top := len(*s) - 1
	n := (*s)[top]
	*s = (*s)[:top]
	return n
}

// dropTo drops the nodes none of whose members is worth more than this.
func (s *stack) dropTo(welfare rat.Rat) {
	*s = slices.DeleteFunc(*s, func(n node) bool { return n.upper.Cmp(welfare) <= 0 })
}

// pick is the block to decide on next, below 0 if there is none: one that is
// taken in part rather than one that is taken, since what is taken is not a
// member's as it is, and that rather than one that is not.
func (s *search) pick(choices []choice, hours []hour) int {
	at, most := -1, none-1
	for i, c := range choices {
		if share := s.share(hours, i); c == undecided && share > most {
			at, most = i, share
		}
	}
	if at < 0 {
		return at
	}
	// Parents are decided on ahead of their children.
	for p := s.parent(at); p >= 0 && choices[p] == undecided; p = s.parent(at) {
		at = p
	}
	return at
}

// with are the choices, this one made, too.
func (s *search) with(choices []choice, i int, c choice) []choice {
	l := slices.Clone(choices)
	s.decide(l, i, c)
	return l
}

// decide makes a choice, and what comes of it: none is accepted without its
// parent, nor beside another one of its group.
func (s *search) decide(choices []choice, i int, c choice) {
	choices[i] = c
	for j, b := range s.blocks {
		isChild := s.parent(j) == i
		isRival := b.Group > 0 && b.Group == s.blocks[i].Group && b.Who == s.blocks[i].Who
		if choices[j] == undecided && (c == refused && isChild || c == accepted && isRival) {
			s.decide(choices, j, refused)
		}
	}
}

// parent is the place of the block's parent, below 0 if it has none.
func (s *search) parent(i int) int {
	for j, b := range s.blocks {
		if s.blocks[i].Parent > 0 && b.Seq == s.blocks[i].Parent && b.Who == s.blocks[i].Who {
			return j
		}
	}
	return -1
}
