package maxflow_test

import (
	"fmt"
	"math/rand"
	"testing"

	"drydock/api"
	"drydock/maxflow"
)

// checkCheck checks the result of Check.
func checkCheck(t *testing.T, name string, n api.Network, flow []int, cut []bool, want bool) {
	t.Helper()
	if got := maxflow.Check(n, flow, cut); got != want {
		t.Errorf("%s: Check of %v and %v: %t", name, flow, cut, got)
	}
}

// P12.3: flows and cuts that fit, that do not fit, and that are none, written out.
func TestCheck(t *testing.T) {
	n := build(3, 0, 2, [3]int{0, 1, 2}, [3]int{1, 2, 3})
	first, second := []bool{true, false, false}, []bool{true, true, false}
	checkCheck(t, "both are best", n, []int{2, 2}, first, true)
	checkCheck(t, "only the flow is best", n, []int{2, 2}, second, false)
	checkCheck(t, "only the cut is best", n, []int{1, 1}, first, false)
	checkCheck(t, "none is best", n, []int{1, 1}, second, false)
	checkCheck(t, "too much flow", n, []int{3, 3}, second, false)
	checkCheck(t, "flow that is not kept", n, []int{2, 1}, first, false)
	checkCheck(t, "Sink too", n, []int{2, 2}, []bool{true, true, true}, false)
	checkCheck(t, "a node too many", n, []int{2, 2}, append(first, false), false)
	checkCheck(t, "an arc too many", n, []int{2, 2, 0}, first, false)
	n.Nodes = 701
	checkCheck(t, "too many nodes", n, []int{2, 2}, alone(701, 0), false)
}

// P12.3: what is no flow and what is no cut does not count as 0.
func TestCheckOfNothing(t *testing.T) {
	n := build(3, 0, 2, [3]int{2, 0, 5}, [3]int{0, 1, 5})
	flow, cut := []int{0, 0}, []bool{true, true, false}
	noFlow, noCut := []int{0, 1}, []bool{false, true, false}
	checkCheck(t, "flow and cut", n, flow, cut, true)
	checkCheck(t, "flow without value", n, []int{1, 0}, cut, false)
	checkCheck(t, "no flow", n, noFlow, cut, false)
	checkCheck(t, "no cut", n, flow, noCut, false)
	checkCheck(t, "neither", n, noFlow, noCut, false)
	for _, list := range [][]int{nil, {}, {0}, {0, 0, 0}, {-1, 0}, {0, -1}, {6, 0}} {
		checkCheck(t, "no flow", n, list, cut, false)
		checkCheck(t, "neither", n, list, nil, false)
	}
	for _, list := range [][]bool{nil, {}, {true}, {true, true}, {true, true, true}, {false, false, false}, {true, false, false, false}} {
		checkCheck(t, "no cut", n, flow, list, false)
	}
}

// P12.3 and P12.4: for all lists of small networks, Check holds for the best flows with the best cuts and for nothing else, and no flow has a greater value than a cut has capacity.
func TestAllFlowsAndCuts(t *testing.T) {
	r := rand.New(rand.NewSource(4))
	held, several := 0, 0
	for range 300 {
		n := randomNetwork(r, 2+r.Intn(4), r.Intn(7), 2)
		greatest, least, before := greatestFlow(n), leastCut(n), held
		if got := checkSolved(t, fmt.Sprint(n), n); got != greatest || got != least {
			t.Errorf("%v: the value is %d, that of all flows %d, the capacity of all cuts %d", n, got, greatest, least)
		}
		for flow := range lists(0, caps(n)) {
			value, isFlow := maxflow.Value(n, flow)
			for cut := range choices(n.Nodes) {
				capacity, isCut := maxflow.Capacity(n, cut)
				if isFlow && isCut && value > capacity {
					t.Errorf("%v: the flow %v has the value %d, the cut %v the capacity %d", n, flow, value, cut, capacity)
				}
				fits := isFlow && isCut && value == greatest && capacity == least
				checkCheck(t, fmt.Sprint(n), n, flow, cut, fits)
				if fits {
					held++
				}
			}
		}
		if held > before+1 {
			several++
		}
	}
	if held < 1000 || several < 100 {
		t.Errorf("Check holds %d times, and for several flows and cuts of %d networks", held, several)
	}
}

// P12.4: a flow and a cut of large networks: the best ones fit, and neither fits after a change of it.
func TestChangedCertificates(t *testing.T) {
	r := rand.New(rand.NewSource(5))
	fits := 0
	for range 100 {
		nodes := 2 + r.Intn(200)
		n := randomNetwork(r, nodes, 1+r.Intn(4*nodes), []int{5, mostCap}[r.Intn(2)])
		flow, value, cut, _ := maxflow.Solve(n)
		checkCheck(t, "what Solve returns", n, flow, cut, true)
		for range 50 {
			i := r.Intn(len(flow))
			kept := flow[i]
			flow[i] = r.Intn(n.Arcs[i].Cap + 1)
			got, ok := valueOf(n, flow)
			checkCheck(t, "a changed flow", n, flow, cut, ok && got == value)
			flow[i] = kept
			i = r.Intn(len(cut))
			cut[i] = !cut[i]
			got, ok = capacityOf(n, cut)
			checkCheck(t, "a changed cut", n, flow, cut, ok && got == value)
			if ok && got < value {
				t.Errorf("a cut has the capacity %d, and a flow the value %d", got, value)
			}
			if ok && got == value {
				fits++
			}
			cut[i] = !cut[i]
		}
	}
	if fits < 100 {
		t.Errorf("%d changed cuts fit", fits)
	}
}
