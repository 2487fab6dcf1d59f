package hier

import "math"

// done stands for all numbers of classes whose group is known: it is greater than those of the others.
const done = math.MaxInt

// groups tells classes apart that are not subkinds of each other, both ways (Tarjan's algorithm: in one walk, however the loops lie).
type groups struct {
	met    []int    // by class: the number with which it was met, from 1 on, or done
	count  int      // how many were met
	open   []*entry // those that were met and are not done, in order
	looped []bool   // by class: whether its group has another one
}

// looped returns for each class of a table whether it is a subkind of itself by way of Supers and Likes. (No class is its own parent.)
func looped(l []*entry) []bool {
	g := &groups{met: make([]int, len(l)), looped: make([]bool, len(l))}
	for _, c := range l {
		if g.met[c.at] == 0 {
			g.meet(c)
		}
	}
	return g.looped
}

// meet walks up from a class, and returns the least number of those above it, and itself, that are not done.
func (g *groups) meet(c *entry) int {
	first := len(g.open)
	g.open = append(g.open, c)
	g.count++
	own, least := g.count, g.count
	g.met[c.at] = own
	c.parents(func(d *entry) bool {
		n := g.met[d.at]
		if n == 0 {
			n = g.meet(d)
		}
		least = min(least, n)
		return false
	})
	if least == own {
		g.finish(first)
	}
	return least
}

// finish takes the open classes from an index on, which are one group.
func (g *groups) finish(first int) {
	group := g.open[first:]
	for _, c := range group {
		g.met[c.at] = done
		g.looped[c.at] = len(group) > 1
	}
	g.open = g.open[:first]
}
