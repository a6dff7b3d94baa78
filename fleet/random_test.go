package fleet_test

import (
	"fmt"
	"math/rand"
	"reflect"

	"drydock/api"
)

// randomFleet returns a valid fleet, whose domains and drives stand in any order, with fractions in any form.
func randomFleet(r *rand.Rand) api.Fleet {
	f := api.Fleet{Extent: 1 + r.Intn(4), Domains: []api.Domain{{Parent: -1, Shock: ratio(0, 1)}}}
	for i := range 1 + r.Intn(4) {
		l := randomLaw(r)
		l.Name = fmt.Sprint("x", i)
		f.Laws = append(f.Laws, l)
	}
	for i := range 1 + r.Intn(4) {
		f.Models = append(f.Models, api.Model{Name: fmt.Sprint("x", i), Extents: 1 + r.Intn(16), Port: 1 + r.Intn(64), Law: r.Intn(len(f.Laws))})
	}
	var machines []int
	for i := range r.Intn(40) {
		d := api.Domain{Name: fmt.Sprint("x", i), Parent: r.Intn(len(f.Domains)), Uplink: 1 + r.Intn(64), Shock: loose(int64(r.Intn(2)), 1+r.Int63n(9), 1+r.Int63n(9))}
		for f.Domains[d.Parent].Level == 4 {
			d.Parent = f.Domains[d.Parent].Parent
		}
		d.Level = f.Domains[d.Parent].Level + 1
		if d.Level == 4 {
			machines = append(machines, len(f.Domains))
		}
		f.Domains = append(f.Domains, d)
	}
	for i := range r.Intn(25) {
		if len(machines) > 0 {
			f.Drives = append(f.Drives, api.Drive{Name: fmt.Sprint("y", i), Model: r.Intn(len(f.Models)), Machine: machines[r.Intn(len(machines))]})
		}
	}
	for i := range 1 + r.Intn(4) {
		p := randomPolicy(r, len(f.Models))
		p.Name = fmt.Sprint("x", i)
		f.Policies = append(f.Policies, p)
	}
	for i := range r.Intn(13) {
		f.Volumes = append(f.Volumes, api.Volume{Name: fmt.Sprint("x", i), Policy: r.Intn(len(f.Policies))})
	}
	return f
}

// randomPolicy returns a valid policy of a fleet with some models.
func randomPolicy(r *rand.Rand, models int) api.Policy {
	p := api.Policy{K: 1 + r.Intn(6), Target: loose(r.Int63n(5), 5, 1+r.Int63n(9)), Horizon: loose(r.Int63n(9), 1+r.Int63n(9), 1+r.Int63n(9))}
	p.M = r.Intn(min(4, 8-p.K) + 1)
	p.Quorum = p.K + r.Intn(p.M+1)
	for level := 1; level <= 4; level++ {
		p.Spread[level] = r.Intn(9)
	}
	p.Models = r.Perm(models)[:1+r.Intn(models)]
	for range max(p.M, 1) {
		p.Repair = append(p.Repair, amount(r))
	}
	return p
}

// change puts another value into one part of what v points to.
func change(r *rand.Rand, v any) {
	list := places(reflect.ValueOf(v).Elem(), "")
	p := list[r.Intn(len(list))]
	others := p.others()
	p.value.Set(reflect.ValueOf(others[r.Intn(len(others))]))
}
