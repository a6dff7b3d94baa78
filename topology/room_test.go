package topology_test

import (
	"fmt"
	"math"
	"math/rand"
	"testing"

	"drydock/testfleet"
	"drydock/topology"
)

// P11.2: rooms that are nil or of another length do not count; others are at least 0 and at most the extents.
func TestRoom(t *testing.T) {
	f := sample()
	all := []int{1, 3, 3, 16, 3, 1, 3}
	for _, c := range []struct {
		name       string
		room, want []int
	}{
		{"nil", nil, all},
		{"empty", []int{}, all},
		{"one", []int{0}, all},
		{"one too few", []int{0, 0, 0, 0, 0, 0}, all},
		{"one too many", []int{0, 0, 0, 0, 0, 0, 0, 0}, all},
		{"none", []int{0, 0, 0, 0, 0, 0, 0}, []int{0, 0, 0, 0, 0, 0, 0}},
		{"all", all, all},
		{"one extent less", []int{0, 2, 2, 15, 2, 0, 2}, []int{0, 2, 2, 15, 2, 0, 2}},
		{"one extent more", []int{2, 4, 4, 17, 4, 2, 4}, all},
		{"of every kind", []int{1, -1, 3, 7, 4, math.MaxInt, math.MinInt}, []int{1, 0, 3, 7, 3, 1, 0}},
	} {
		checkNumbers(t, c.name, topology.Room(f, c.room), c.want)
	}
	checkNumbers(t, "no drives", topology.Room(testfleet.Build(nil, []int{1}, nil, nil), nil), nil)
	checkNumbers(t, "a room and no drives", topology.Room(testfleet.Build(nil, []int{1}, nil, nil), []int{1}), nil)
}

// P11.2: each drive by itself, with every room around its bounds.
func TestRoomOfEachDrive(t *testing.T) {
	f := sample()
	for drive := range f.Drives {
		for n := -3; n <= 19; n++ {
			room := []int{9, 9, 9, 9, 9, 9, 9}
			room[drive] = n
			var want []int
			for i := range f.Drives {
				want = append(want, roomOf(f, room, i))
			}
			checkNumbers(t, fmt.Sprintf("drive %d with the room %d", drive, n), topology.Room(f, room), want)
		}
	}
}

// P11.2: random fleets, compared with the model.
func TestRandomRooms(t *testing.T) {
	r := rand.New(rand.NewSource(2))
	for range 1000 {
		f := randomFleet(r)
		room := randomRoom(r, f)
		var want []int
		for i := range f.Drives {
			want = append(want, roomOf(f, room, i))
		}
		checkNumbers(t, fmt.Sprint("the rooms ", room), topology.Room(f, room), want)
	}
}
