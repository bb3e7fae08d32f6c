package grid

import (
	"noonbell/api"
	"noonbell/rat"
)

// Export answers zone by zone how much leaves it more than comes in, where f
// has the lines' flows. It answers ErrShape ahead of ErrText.
func Export(g api.Grid, f []string) ([]string, api.Errno) {
	flows, e := read(g, f)
	if e != api.OK {
		return nil, e
	}
	leaves := make([]rat.Rat, g.Zones)
	for i, l := range g.Lines {
		leaves[l.From] = leaves[l.From].Add(flows[i])
		leaves[l.To] = leaves[l.To].Sub(flows[i])
	}
	texts := make([]string, g.Zones)
	for zone, n := range leaves {
		texts[zone] = n.Text()
	}
	return texts, api.OK
}

// Within tells whether f has a flow for each line, and none is beyond what its
// line may carry.
func Within(g api.Grid, f []string) bool {
	flows, e := read(g, f)
	if e != api.OK {
		return false
	}
	for i, l := range g.Lines {
		if flows[i].Cmp(rat.Of(-l.Cap)) < 0 || flows[i].Cmp(rat.Of(l.Cap)) > 0 {
			return false
		}
	}
	return true
}

// read answers the numbers whose texts f has, one for each line, or ErrShape,
// ErrText.
func read(g api.Grid, f []string) ([]rat.Rat, api.Errno) {
	// Of such a grid nothing is promised, but its lines may go to zones that
	// there are not.
	if e := Check(g); e != api.OK {
		return nil, e
	}
	if len(f) != len(g.Lines) {
		return nil, api.ErrShape
	}
	flows := make([]rat.Rat, len(f))
	for i, text := range f {
		n, e := rat.Parse(text)
		if e != api.OK {
			return nil, api.ErrText
		}
		flows[i] = n
	}
	return flows, api.OK
}
