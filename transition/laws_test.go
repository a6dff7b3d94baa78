package transition_test

import (
	"fmt"
	"math/rand"
	"testing"

	"drydock/api"
	"drydock/feasible"
	"drydock/testfleet"
	"drydock/topology"
	"drydock/transition"
)

// P15.5: for every layout that holds, at least as many fragments are moved as by a transition that Check accepts; and with the potentials of such a transition a layout is accepted if and only if it is another one with as few moves.
func TestNoLayoutMovesLess(t *testing.T) {
	r := rand.New(rand.NewSource(8))
	equal, more := 0, 0
	for tried := 0; tried < 300; {
		f := tinyFleet(r)
		now, room := testfleet.RandomLayout(r.Intn, f), lessRoom(r, f)
		least, err := transition.Least(f, now, room)
		if err != api.OK {
			continue
		}
		tried++
		for l := range testfleet.Layouts(f) {
			if !topology.Holds(f, l, room) {
				continue
			}
			other := api.Transition{Final: l, Moved: moved(now, l), Potentials: least.Potentials}
			if other.Moved < least.Moved {
				t.Errorf("%v: from %v with the rooms %v: %v moves less than %v", f, now, room, other, least)
			}
			checkAnswer(t, "another layout", f, now, room, other, other.Moved == least.Moved)
			if other.Moved == least.Moved {
				equal++
			} else {
				more++
			}
		}
	}
	if equal < 500 || more < 500 {
		t.Errorf("%d layouts move as little, and %d move more", equal, more)
	}
}

// P15.5: nothing is moved if the layout holds, also in fleets of any size.
func TestNothingToMove(t *testing.T) {
	r := rand.New(rand.NewSource(9))
	for range 150 {
		f, l := largeFleet(r)
		for _, room := range [][]int{nil, topology.Loads(f, l)} {
			got, err := transition.Least(f, l, room)
			if err != api.OK || got.Moved != 0 || fmt.Sprint(got.Final) != fmt.Sprint(l) {
				t.Errorf("from %v, which holds with the rooms %v: %v and the error %d", l, room, got, err)
			}
		}
		first, err := feasible.Place(f, nil)
		again, _ := transition.Least(f, first, nil)
		if err != api.OK || again.Moved != 0 || fmt.Sprint(again.Final) != fmt.Sprint(first) {
			t.Errorf("from %v, which was placed: %v and the error %d", first, again, err)
		}
	}
}

// P15.5: what was moved once holds, and it is not moved again.
func TestMovedOnce(t *testing.T) {
	r := rand.New(rand.NewSource(10))
	tried := 0
	for range 1500 {
		f := possibleFleet(r)
		now, room := testfleet.RandomLayout(r.Intn, f), lessRoom(r, f)
		first, err := transition.Least(f, now, room)
		if err == api.OK && first.Moved > 0 {
			checkLeast(t, "again", f, first.Final, room, 0)
			tried++
		}
	}
	if tried < 200 {
		t.Errorf("%d transitions", tried)
	}
}

// P15.5: with more room Least does not move more.
func TestMoreRoom(t *testing.T) {
	r := rand.New(rand.NewSource(11))
	less, same, possible := 0, 0, 0
	for range 300 {
		f, l := largeFleet(r)
		room, now := topology.Loads(f, l), testfleet.RandomLayout(r.Intn, f)
		last := -1
		for range 12 {
			got, err := transition.Least(f, now, room)
			switch {
			case last >= 0 && (err != api.OK || got.Moved > last):
				t.Errorf("%v: from %v with the rooms %v: %d moved and the error %d, and with less room %d", f, now, room, got.Moved, err, last)
			case err != api.OK:
			case last < 0:
				possible++
			case got.Moved < last:
				less++
			default:
				same++
			}
			if err == api.OK {
				last = got.Moved
			}
			if len(room) > 0 {
				room[r.Intn(len(room))] += 1 + r.Intn(2)
			}
		}
	}
	if less < 100 || same < 100 || possible < 100 {
		t.Errorf("%d times less, %d times as much is moved", less, same)
	}
}

// P15.5: a drive whose room is 0 has no fragment afterwards, and all that it had are moved.
func TestEmptiedDrives(t *testing.T) {
	r := rand.New(rand.NewSource(12))
	emptied, refused := 0, 0
	for range 1500 {
		f := possibleFleet(r)
		now, loads := testfleet.RandomLayout(r.Intn, f), 0
		room := topology.Room(f, nil)
		for drive, load := range topology.Loads(f, now) {
			if r.Intn(4) == 0 {
				room[drive], loads = 0, loads+load
			}
		}
		got, err := transition.Least(f, now, room)
		if err != api.OK {
			refused++
			continue
		}
		for drive, load := range topology.Loads(f, got.Final) {
			if room[drive] == 0 && load > 0 {
				t.Errorf("from %v with the rooms %v: %v", now, room, got)
			}
		}
		if got.Moved < loads {
			t.Errorf("from %v with the rooms %v: %v, though %d have to go", now, room, got, loads)
		}
		if loads > 1 {
			emptied++
		}
	}
	if emptied < 50 || refused < 50 {
		t.Errorf("%d times drives are emptied, %d times this is not possible", emptied, refused)
	}
}
