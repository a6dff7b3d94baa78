package testfleet

import "drydock/api"

// Limits says how large a random fleet may be. It may have at least five domains, and a volume at least one fragment.
type Limits struct{ Domains, Drives, Volumes, Fragments int }

// Random returns a fleet within some limits, whose domains and drives stand in any order. pick(n) is a random number below n.
func Random(pick func(n int) int, most Limits) api.Fleet {
	parents, machines := tree(pick, 5+pick(most.Domains-4))
	extents := make([]int, 1+pick(3))
	for i := range extents {
		extents[i] = 1 + pick(4)
	}
	drives := make([]api.Drive, max(pick(most.Drives+1), pick(most.Drives+1)))
	for i := range drives {
		drives[i] = api.Drive{Model: pick(len(extents)), Machine: machines[pick(len(machines))]}
	}
	policies := make([]api.Policy, 1+pick(api.MaxPolicies))
	for i := range policies {
		policies[i] = randomPolicy(pick, most.Fragments, len(extents))
	}
	volumes := make([]int, pick(most.Volumes+1))
	for i := range volumes {
		volumes[i] = pick(len(policies))
	}
	return Build(parents, extents, drives, policies, volumes...)
}

// tree returns the parents of some domains, and those that are machines, of which there is at least one.
func tree(pick func(n int) int, domains int) (parents, machines []int) {
	levels, parents, machines := []int{0, 1, 2, 3, 4}, []int{0, 1, 2, 3}, []int{4}
	for len(levels) < domains {
		parent := pick(len(levels))
		if levels[parent] == api.LevelMachine {
			parent = parents[parent-1]
		}
		if levels[parent] == api.LevelRack {
			machines = append(machines, len(levels))
		}
		levels, parents = append(levels, levels[parent]+1), append(parents, parent)
	}
	return parents, machines
}

// randomPolicy returns a policy of a code of at most so many fragments, with some bounds, for some of the models.
func randomPolicy(pick func(n int) int, fragments, models int) api.Policy {
	k := 1 + pick(min(api.MaxK, fragments))
	m := pick(min(api.MaxM, fragments-k) + 1)
	var spread [4]int
	for i := range spread {
		if pick(3) == 0 {
			spread[i] = 1 + pick(fragments)
		}
	}
	return Policy(k, m, spread, shuffled(pick, models)[:1+pick(models)]...)
}

// shuffled returns the numbers below n in any order.
func shuffled(pick func(n int) int, n int) []int {
	out := make([]int, n)
	for i := range out {
		j := pick(i + 1)
		out[i], out[j] = out[j], i
	}
	return out
}
