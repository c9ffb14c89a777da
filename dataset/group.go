package dataset

import (
	"cmp"
	"slices"

	"granary/api"
)

// group is a bundle that is being made.
type group struct {
	features  []int
	out       []bool // rows that stand out in one of the features at least
	conflicts int
	bins      int
}

func layTogether(features []known, outs [][]bool, budget int) []*group {
	var groups []*group
	for _, f := range byStandingOut(outs) {
		bins := features[f].HowMany()
		g := firstWithRoom(groups, outs[f], bins, budget)
		if g == nil {
			g = &group{out: make([]bool, len(outs[f]))}
			groups = append(groups, g)
		}
		g.add(f, outs[f], bins)
	}
	return groups
}

// byStandingOut orders features by how many rows stand out in them, falling;
// the sort is stable, so that those of equally many keep their order.
func byStandingOut(outs [][]bool) []int {
	order := make([]int, len(outs))
	for f := range order {
		order[f] = f
	}
	slices.SortStableFunc(order, func(f, g int) int { return cmp.Compare(count(outs[g]), count(outs[f])) })
	return order
}

func count(out []bool) int {
	n := 0
	for _, is := range out {
		if is {
			n++
		}
	}
	return n
}

func firstWithRoom(groups []*group, out []bool, bins, budget int) *group {
	for _, g := range groups {
		if g.conflicts+g.conflictsWith(out) <= budget && g.bins+bins <= api.MaxWide {
			return g
		}
	}
	return nil
}

func (g *group) conflictsWith(out []bool) int {
	n := 0
	for row, is := range out {
		if is && g.out[row] {
			n++
		}
	}
	return n
}

func (g *group) add(f int, out []bool, bins int) {
	g.conflicts += g.conflictsWith(out)
	g.features = append(g.features, f)
	g.bins += bins
	for row, is := range out {
		g.out[row] = g.out[row] || is
	}
}
