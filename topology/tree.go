package topology

import "drydock/api"

// The exported functions refuse a fleet that is not valid, so that all others may trust its indices.

func isDrive(f api.Fleet, drive int) bool {
	return drive >= 0 && drive < len(f.Drives)
}

func isDomain(f api.Fleet, domain int) bool {
	return domain >= 0 && domain < len(f.Domains)
}

// domainAt returns the domain of a level that contains a drive, or -1 if there is no such level.
func domainAt(f api.Fleet, drive, level int) int {
	domain := f.Drives[drive].Machine
	for isDomain(f, domain) && f.Domains[domain].Level != level {
		domain = f.Domains[domain].Parent
	}
	return domain
}

// isIn reports whether a domain contains a drive.
func isIn(f api.Fleet, drive, domain int) bool {
	return domainAt(f, drive, f.Domains[domain].Level) == domain
}

// rooms returns the room of each drive.
func rooms(f api.Fleet, room []int) []int {
	out := make([]int, len(f.Drives))
	for i, d := range f.Drives {
		out[i] = f.Models[d.Model].Extents
		if len(room) == len(out) {
			out[i] = max(0, min(room[i], out[i]))
		}
	}
	return out
}

// occurrences returns for each drive how many elements of the rows it is.
func occurrences(f api.Fleet, rows ...[]int) []int {
	out := make([]int, len(f.Drives))
	for _, row := range rows {
		for _, drive := range row {
			if isDrive(f, drive) {
				out[drive]++
			}
		}
	}
	return out
}

// where returns the numbers below n for which a condition holds.
func where(n int, holds func(i int) bool) []int {
	var out []int
	for i := range n {
		if holds(i) {
			out = append(out, i)
		}
	}
	return out
}
