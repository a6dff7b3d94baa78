package maxflow_test

import (
	"fmt"
	"math/rand"
	"slices"
	"testing"

	"drydock/api"
	"drydock/maxflow"
)

// checkGreatest checks what Solve returns for a network and for the same one in other orders, and that its value is as expected.
func checkGreatest(t *testing.T, name string, n api.Network, want int) {
	t.Helper()
	if got := checkSolved(t, name, n); got != want {
		t.Errorf("%s: the value is %d, want %d", name, got, want)
	}
	r := rand.New(rand.NewSource(6))
	for range 3 {
		if got := checkSolved(t, name, renumbered(r, n)); got != want {
			t.Errorf("%s: in another order the value is %d, want %d", name, got, want)
		}
	}
}

// The example of the chapter.
func TestExample(t *testing.T) {
	n := build(3, 0, 2, [3]int{0, 1, 2}, [3]int{1, 2, 3})
	flow, value, cut, err := maxflow.Solve(n)
	if !slices.Equal(flow, []int{2, 2}) || value != 2 || !slices.Equal(cut, []bool{true, false, false}) || err != api.OK {
		t.Errorf("Solve returns %v, %d, %v, %d", flow, value, cut, err)
	}
	checkGreatest(t, "two arcs one behind the other", n, 2)
	checkGreatest(t, "the arcs exchanged", build(3, 0, 2, [3]int{0, 1, 3}, [3]int{1, 2, 2}), 2)
}

// P12.3: networks whose greatest value is seen at once.
func TestSolve(t *testing.T) {
	checkGreatest(t, "no arcs", build(2, 0, 1), 0)
	checkGreatest(t, "a Cap of 0", build(2, 0, 1, [3]int{0, 1, 0}), 0)
	checkGreatest(t, "only back", build(2, 0, 1, [3]int{1, 0, 9}), 0)
	checkGreatest(t, "only from nodes to themselves", build(2, 0, 1, [3]int{0, 0, 9}, [3]int{1, 1, 9}), 0)
	checkGreatest(t, "no way to Sink", build(4, 0, 3, [3]int{0, 1, 9}, [3]int{1, 2, 9}, [3]int{2, 0, 9}, [3]int{3, 2, 9}), 0)
	checkGreatest(t, "parallel arcs", build(2, 0, 1, [3]int{0, 1, 1}, [3]int{0, 1, 20}, [3]int{0, 1, 0}, [3]int{0, 1, 300}), 321)
	checkGreatest(t, "arcs that lead back", build(3, 0, 2, [3]int{0, 1, 4}, [3]int{1, 0, 4}, [3]int{1, 2, 3}, [3]int{2, 1, 3}, [3]int{2, 0, 9}), 3)
	checkGreatest(t, "a small gate behind two arcs", build(4, 0, 3, [3]int{0, 1, 7}, [3]int{0, 1, 7}, [3]int{1, 2, 9}, [3]int{2, 3, 30}), 9)
	// The first short way takes the arc from 1 to 2, and both arcs beside it are needed.
	checkGreatest(t, "a way that is taken back", build(6, 0, 5, [3]int{0, 1, 1}, [3]int{1, 2, 1}, [3]int{2, 5, 1}, [3]int{0, 3, 1}, [3]int{3, 2, 1}, [3]int{1, 4, 1}, [3]int{4, 5, 1}), 2)
	// With ways of any length, the arc between the middle nodes could take a unit forth and one back 2^31 - 1 times.
	checkGreatest(t, "a bridge between great Caps", build(4, 0, 3, [3]int{0, 1, mostCap}, [3]int{0, 2, mostCap}, [3]int{1, 2, 1}, [3]int{1, 3, mostCap}, [3]int{2, 3, mostCap}), 2*mostCap)
}

// P12.3: all networks of two nodes with up to three arcs, of every direction and four Caps.
func TestAllOfTwoNodes(t *testing.T) {
	var kinds [][3]int
	for _, most := range []int{0, 1, 3, mostCap} {
		kinds = append(kinds, [3]int{0, 0, most}, [3]int{0, 1, most}, [3]int{1, 0, most}, [3]int{1, 1, most})
	}
	for count := range 4 {
		for chosen := range lists(0, slices.Repeat([]int{len(kinds) - 1}, count)) {
			var arcs [][3]int
			want := 0
			for _, i := range chosen {
				arcs = append(arcs, kinds[i])
				if kinds[i][0] == 1 && kinds[i][1] == 0 {
					want += kinds[i][2]
				}
			}
			n := build(2, 1, 0, arcs...)
			if got := checkSolved(t, fmt.Sprint(n), n); got != want {
				t.Errorf("%v: the value is %d, want %d", n, got, want)
			}
		}
	}
}

// P12.3: all networks of four nodes with an arc of the Cap 1 or none between any two of them, in both directions.
func TestAllOfFourNodes(t *testing.T) {
	var pairs [][3]int
	for from := range 4 {
		for to := range 4 {
			if from != to {
				pairs = append(pairs, [3]int{from, to, 1})
			}
		}
	}
	for taken := range choices(len(pairs)) {
		var arcs [][3]int
		for i, a := range pairs {
			if taken[i] {
				arcs = append(arcs, a)
			}
		}
		n := build(4, 2, 1, arcs...)
		if got, want := checkSolved(t, fmt.Sprint(n), n), leastCut(n); got != want {
			t.Errorf("%v: the value is %d, want %d", n, got, want)
		}
	}
}

// P12.3: random networks with few nodes, compared with all cuts.
func TestRandomNetworks(t *testing.T) {
	r := rand.New(rand.NewSource(7))
	positive := 0
	for range 4000 {
		nodes := 2 + r.Intn(7)
		n := randomNetwork(r, nodes, r.Intn(5*nodes), []int{1, 2, 10, 1 << 20, mostCap}[r.Intn(5)])
		got := checkSolved(t, fmt.Sprint(n), n)
		if want := leastCut(n); got != want {
			t.Errorf("%v: the value is %d, want %d", n, got, want)
		}
		if got > 0 {
			positive++
		}
	}
	if positive < 1000 {
		t.Errorf("%d values are above 0", positive)
	}
}

// P12.3: random networks of every size.
func TestLargeRandomNetworks(t *testing.T) {
	r := rand.New(rand.NewSource(8))
	positive := 0
	for range 60 {
		nodes, arcs := 2+r.Intn(mostNodes-1), r.Intn(mostArcs+1)
		n := randomNetwork(r, nodes, arcs, []int{1, 16, mostCap}[r.Intn(3)])
		if checkSolved(t, fmt.Sprintf("%d nodes and %d arcs", nodes, arcs), n) > 0 {
			positive++
		}
		checkSolved(t, "as many nodes and arcs as there may be", randomNetwork(r, mostNodes, mostArcs, mostCap))
	}
	if positive < 20 {
		t.Errorf("%d values are above 0", positive)
	}
}

// P12.3: networks of all sizes whose arcs stand one behind the other.
func TestRow(t *testing.T) {
	for _, nodes := range []int{2, 3, 4, 5, 10, 64, 65, 256, 257, 699, 700} {
		n := build(nodes, 0, nodes-1)
		for i := range nodes - 1 {
			n.Arcs = append(n.Arcs, api.Arc{From: i, To: i + 1, Cap: mostCap})
		}
		checkGreatest(t, fmt.Sprint("a row of ", nodes), n, mostCap)
		for _, gate := range []int{0, (nodes - 1) / 2, nodes - 2} {
			n.Arcs[gate].Cap = 5 + gate
			checkGreatest(t, fmt.Sprintf("a row of %d with a gate at %d", nodes, gate), n, 5+gate)
			n.Arcs[gate].Cap = mostCap
		}
	}
}

// P12.3: the greatest value of all.
func TestAllArcsToSink(t *testing.T) {
	checkGreatest(t, "all arcs to Sink", build(mostNodes, 0, 699, slices.Repeat([][3]int{{0, 699, mostCap}}, mostArcs)...), mostArcs*mostCap)
	wide := build(mostNodes, 0, 699)
	for i := range mostArcs / 2 {
		node := 1 + i%698
		wide.Arcs = append(wide.Arcs, api.Arc{From: 0, To: node, Cap: mostCap}, api.Arc{From: node, To: 699, Cap: mostCap})
	}
	checkGreatest(t, "arcs over all other nodes", wide, mostArcs/2*mostCap)
}

// P12.3: a network in which each of 698 ways to Sink is longer than the one before it.
func TestWaysOfAllLengths(t *testing.T) {
	n := build(mostNodes, 0, 699)
	for i := range 698 {
		n.Arcs = append(n.Arcs, api.Arc{From: i, To: i + 1, Cap: 697 - i}, api.Arc{From: i, To: 699, Cap: 1})
	}
	checkGreatest(t, "ways of all lengths", n, 698)
}

// P12.3: a block of 40 nodes with an arc to each of 40 others. Longer and longer ways enter it on one side or the other, so that what went over its arcs is taken back many times.
func TestBlock(t *testing.T) {
	const side, ways = 40, 40
	const enterLeft, leaveLeft, enterRight, leaveRight = 2, 3, 4, 5
	n := build(mostNodes, 0, 1)
	arc := func(from, to, most int) { n.Arcs = append(n.Arcs, api.Arc{From: from, To: to, Cap: most}) }
	for i := range side {
		left, right := 6+i, 6+side+i
		for j := range side {
			arc(left, 6+side+j, 1)
		}
		arc(enterLeft, left, mostCap)
		arc(left, leaveLeft, mostCap)
		arc(enterRight, right, mostCap)
		arc(right, leaveRight, mostCap)
	}
	// A row of nodes leads from Source past the entries, and one past the exits to Sink.
	first, last := 0, 1
	for k := range ways {
		arc(first, []int{enterLeft, enterRight}[k%2], side*side)
		arc([]int{leaveRight, leaveLeft}[k%2], last, side*side)
		for i := range 3 {
			next := 6 + 2*side + 6*k + 2*i
			arc(first, next, mostCap)
			arc(next+1, last, mostCap)
			first, last = next, next+1
		}
	}
	checkGreatest(t, "a block", n, ways*side*side)
}
