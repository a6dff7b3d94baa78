package testfleet

import "drydock/api"

// Sample returns a fleet whose domains and drives do not stand in depth-first order: two sites, 1 and 2, with the machines 8 and 9 and the machine 7. Volume 0 has two fragments, and volume 1 three, which may not lie on drive 1.
func Sample() api.Fleet {
	return Build(
		[]int{0, 0, 2, 1, 3, 4, 5, 6, 6},
		[]int{3, 1},
		[]api.Drive{{Model: 0, Machine: 9}, {Model: 1, Machine: 7}, {Model: 0, Machine: 8}, {Model: 0, Machine: 7}},
		[]api.Policy{Policy(2, 1, [4]int{2, 0, 0, 1}, 0), Policy(1, 1, [4]int{0, 1, 2, 0}, 1, 0)},
		1, 0)
}

// Greatest returns a fleet of as many domains, drives, volumes and fragments as there may be, in which every room of a drive is needed.
func Greatest() api.Fleet {
	parents := []int{0, 1, 2, 3, 0, 5, 6, 7}
	machines := []int{4, 8}
	for i := len(parents); i < api.MaxDomains-1; i++ {
		machines = append(machines, i+1)
		parents = append(parents, 3+4*(i%2))
	}
	drives := make([]api.Drive, api.MaxDrives)
	for i := range drives {
		drives[i].Machine = machines[i]
	}
	return Build(parents, []int{4}, drives, []api.Policy{Policy(6, 2, [4]int{4, 0, 0, 1}, 0)}, make([]int, api.MaxVolumes)...)
}

// Nothing returns a fleet of domain 0 and a law, with nil for the lists that are empty, and the same with lists of no elements.
func Nothing() (none, empty api.Fleet) {
	none, empty = Build(nil, nil, nil, nil), Build(nil, nil, nil, nil)
	empty.Models, empty.Drives, empty.Policies, empty.Volumes = []api.Model{}, []api.Drive{}, []api.Policy{}, []api.Volume{}
	return none, empty
}
