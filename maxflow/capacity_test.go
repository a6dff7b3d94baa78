package maxflow_test

import (
	"fmt"
	"math/rand"
	"slices"
	"testing"
)

// P12.2: cuts and other lists, written out.
func TestCapacity(t *testing.T) {
	n := build(4, 3, 1, [3]int{3, 0, 1}, [3]int{3, 2, 10}, [3]int{0, 1, 100}, [3]int{2, 1, 1000}, [3]int{0, 2, 10000}, [3]int{2, 0, 100000}, [3]int{1, 3, 1000000}, [3]int{3, 3, 2000000}, [3]int{0, 0, 3000000})
	const no, yes = false, true
	checkCapacity(t, "Source alone", n, []bool{no, no, no, yes}, 11, true)
	checkCapacity(t, "with node 0", n, []bool{yes, no, no, yes}, 10110, true)
	checkCapacity(t, "with node 2", n, []bool{no, no, yes, yes}, 101001, true)
	checkCapacity(t, "all but Sink", n, []bool{yes, no, yes, yes}, 1100, true)
	for _, list := range [][]bool{nil, {}, {yes}, {no, no, no}, {yes, no, yes}, {no, no, no, no}, {yes, no, yes, no}, {no, yes, no, yes}, {yes, yes, yes, yes}, {no, yes, no, no}, {no, no, no, yes, no}, {no, no, no, yes, yes}} {
		checkCapacity(t, "no cut", n, list, 0, false)
	}
}

// P12.2: arcs that lead back do not count, parallel ones do, and the sum may be the greatest of all.
func TestCapacityOfOtherArcs(t *testing.T) {
	checkCapacity(t, "no arcs", build(2, 1, 0), alone(2, 1), 0, true)
	checkCapacity(t, "no arcs", build(700, 699, 0), alone(700, 699), 0, true)
	for _, most := range []int{0, 1, mostCap} {
		arcs := slices.Repeat([][3]int{{699, 0, most}}, mostArcs)
		checkCapacity(t, "parallel arcs", build(700, 699, 0, arcs...), alone(700, 699), mostArcs*most, true)
		checkCapacity(t, "arcs that lead back", build(700, 0, 699, arcs...), alone(700, 0), 0, true)
		checkCapacity(t, "arcs that lead to Sink from the other side", build(700, 5, 0, arcs...), alone(700, 5), 0, true)
		loops := slices.Repeat([][3]int{{7, 7, most}, {8, 8, most}}, mostArcs/2)
		checkCapacity(t, "arcs from a node to itself", build(700, 7, 8, loops...), alone(700, 7), 0, true)
	}
	for _, nodes := range []int{699, 701, 1 << 20} {
		checkCapacity(t, "another number of nodes", build(700, 5, 0), alone(nodes, 5), 0, false)
	}
}

// P12.2: all lists for small networks, and lists of other lengths.
func TestCapacityOfAllLists(t *testing.T) {
	r := rand.New(rand.NewSource(3))
	for range 300 {
		n := randomNetwork(r, 2+r.Intn(6), r.Intn(20), []int{0, 3, mostCap}[r.Intn(3)])
		for length := range n.Nodes + 2 {
			for list := range choices(length) {
				capacity, ok := capacityOf(n, list)
				checkCapacity(t, fmt.Sprint(n), n, list, capacity, ok)
			}
		}
	}
}
