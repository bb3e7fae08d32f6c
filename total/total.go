// Package total sums up fractions. It is no layer of its own.
package total

import "noonbell/rat"

// Of is by halves: one by one, the sums of fractions that have little in
// common would be long ones from early on.
func Of(l []rat.Rat) rat.Rat {
	switch len(l) {
	case 0:
		return rat.Of(0)
	case 1:
		return l[0]
	}
	half := len(l) / 2
	return Of(l[:half]).Add(Of(l[half:]))
}
