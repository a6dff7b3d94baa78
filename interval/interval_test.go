package interval_test

import (
	"math/big"
	"math/rand"
	"slices"
	"testing"

	"drydock/api"
	"drydock/interval"
)

func valid(l []api.Interval) answer { return answer{yes: interval.Valid(l[0])} }

func point(l []api.Interval) answer {
	a, err := interval.Point(l[0].Lo)
	return answer{is: a, err: err}
}

func contains(l []api.Interval) answer { return answer{yes: interval.Contains(l[0], l[1].Lo)} }

func inside(l []api.Interval) answer { return answer{yes: interval.Inside(l[0], l[1])} }

func meet(l []api.Interval) answer {
	a, yes := interval.Meet(l[0], l[1])
	return answer{is: a, yes: yes}
}

func hull(l []api.Interval) answer {
	a, err := interval.Hull(l...)
	return answer{is: a, err: err}
}

// fracs returns valid fractions of every sign and size, in other forms in turn.
func fracs() []api.Frac {
	var out []api.Frac
	for turn, a := range slices.Concat(small(), huge()) {
		out = append(out, form(a.Lo, turn), form(a.Hi, turn/2))
	}
	return out
}

// P3.1
func TestValid(t *testing.T) {
	for _, a := range slices.Concat(small(), huge()) {
		for turn := range 30 {
			expect(t, valid, answer{yes: true}, shape(a, turn))
		}
	}
	for _, a := range invalid() {
		for turn := range 9 {
			expect(t, valid, answer{}, shape(a, turn))
		}
	}
	third, zero := frac(ratio(1, 3)), api.Frac{Den: api.Nat{1}}
	for _, c := range []struct {
		a    api.Interval
		want bool
	}{
		{api.Interval{Lo: third, Hi: api.Frac{Num: api.Nat{2, 0}, Den: api.Nat{6}}}, true}, // equal ends in two forms
		{api.Interval{Lo: api.Frac{Num: api.Nat{4}, Den: api.Nat{9}}, Hi: third}, false},
		{api.Interval{Lo: zero, Hi: api.Frac{Neg: true, Den: api.Nat{5}}}, true}, // minus 0 is not less than 0
		{api.Interval{Lo: api.Frac{Neg: true, Num: api.Nat{0}, Den: api.Nat{5}}, Hi: zero}, true},
		{api.Interval{Lo: zero, Hi: api.Frac{Num: api.Nat{1}}}, false},
		{api.Interval{Hi: zero}, false},
		{api.Interval{}, false},
	} {
		if interval.Valid(c.a) != c.want {
			t.Errorf("Valid(%v) is not %v", c.a, c.want)
		}
	}
}

// P3.1
func TestPoint(t *testing.T) {
	for _, x := range fracs() {
		for _, y := range forms(x) {
			expect(t, point, right(value(y), value(y)), lone(y))
		}
	}
	for _, x := range invalidFracs() {
		expect(t, point, refused(api.ErrArg), lone(x))
	}
	want := api.Interval{Lo: api.Frac{Neg: true, Num: api.Nat{2}, Den: api.Nat{3}}, Hi: api.Frac{Neg: true, Num: api.Nat{2}, Den: api.Nat{3}}}
	if got, err := interval.Point(api.Frac{Neg: true, Num: api.Nat{4}, Den: api.Nat{6, 0}}); !same(got, want) || err != api.OK {
		t.Errorf("Point(-4/6) = %v, %d", got, err)
	}
	zero := api.Frac{Den: api.Nat{1}}
	if got, err := interval.Point(api.Frac{Neg: true, Den: api.Nat{7}}); !same(got, api.Interval{Lo: zero, Hi: zero}) || err != api.OK {
		t.Errorf("Point(-0/7) = %v, %d", got, err)
	}
}

// P3.1
func TestContains(t *testing.T) {
	check := func(a api.Interval, x api.Frac) {
		yes := isValid(a) && isFrac(x) && value(a.Lo).Cmp(value(x)) <= 0 && value(x).Cmp(value(a.Hi)) <= 0
		expect(t, contains, answer{yes: yes}, a, lone(x))
	}
	turn := 0
	for _, list := range [][]api.Interval{small(), huge(), invalid()} {
		for _, a := range list {
			for _, x := range slices.Concat(fracs(), invalidFracs()) {
				turn++
				check(shape(a, turn), x)
			}
		}
	}
	unit := span(ratio(0, 1), ratio(1, 1))
	for _, c := range []struct {
		a    api.Interval
		x    api.Frac
		want bool
	}{
		{unit, frac(ratio(1, 2)), true}, {unit, frac(ratio(0, 1)), true}, {unit, frac(ratio(1, 1)), true}, // the ends belong to it
		{unit, api.Frac{Neg: true, Den: api.Nat{3}}, true}, {unit, api.Frac{Num: api.Nat{3}, Den: api.Nat{3}}, true},
		{unit, frac(quotient(big.NewInt(-1), below(edge))), false}, {unit, frac(quotient(power(edge-1), below(edge-1))), false},
		{span(ratio(1, 2), ratio(1, 2)), frac(ratio(1, 2)), true}, {span(ratio(1, 2), ratio(1, 2)), frac(ratio(1, 3)), false},
		{span(ratio(1, 1), ratio(0, 1)), frac(ratio(1, 1)), false}, {span(ratio(1, 1), ratio(0, 1)), frac(ratio(1, 2)), false},
		{unit, api.Frac{}, false}, {unit, api.Frac{Num: api.Nat{1}}, false}, {api.Interval{}, frac(ratio(0, 1)), false}, {api.Interval{}, api.Frac{}, false},
	} {
		if interval.Contains(c.a, c.x) != c.want {
			t.Errorf("Contains(%v, %v) is not %v", c.a, c.x, c.want)
		}
	}
}

// isInside reports whether a is in b, as the document says it.
func isInside(a, b api.Interval) bool {
	return isValid(a, b) && value(b.Lo).Cmp(value(a.Lo)) <= 0 && value(a.Hi).Cmp(value(b.Hi)) <= 0
}

// P3.1
func TestInside(t *testing.T) {
	pairs(func(a, b api.Interval) { expect(t, inside, answer{yes: isInside(a, b)}, a, b) })
	unit := span(ratio(0, 1), ratio(1, 1))
	for _, c := range []struct {
		a, b api.Interval
		want bool
	}{
		{unit, unit, true}, {unit, span(ratio(0, 1), ratio(2, 1)), true}, {unit, span(ratio(-1, 1), ratio(1, 1)), true},
		{unit, span(ratio(1, 9), ratio(2, 1)), false}, {unit, span(ratio(-1, 1), ratio(8, 9)), false}, {unit, span(ratio(2, 1), ratio(3, 1)), false},
		{span(ratio(1, 1), ratio(1, 1)), unit, true}, {unit, span(ratio(1, 1), ratio(1, 1)), false},
		{span(ratio(1, 2), ratio(1, 3)), unit, false}, // both ends are in it, but they are no interval
		{span(ratio(1, 3), ratio(1, 2)), span(ratio(1, 1), ratio(0, 1)), false},
		{api.Interval{}, unit, false}, {unit, api.Interval{}, false}, {api.Interval{}, api.Interval{}, false},
	} {
		if interval.Inside(c.a, c.b) != c.want {
			t.Errorf("Inside(%v, %v) is not %v", c.a, c.b, c.want)
		}
	}
}

// met returns the right answer of Meet.
func met(a, b api.Interval) answer {
	if !isValid(a, b) {
		return answer{}
	}
	lo, hi := greatest(value(a.Lo), value(b.Lo)), least(value(a.Hi), value(b.Hi))
	if lo.Cmp(hi) > 0 {
		return answer{}
	}
	return answer{is: span(lo, hi), yes: true}
}

// P3.4
func TestMeet(t *testing.T) {
	pairs(func(a, b api.Interval) { expect(t, meet, met(a, b), a, b) })
	unit := span(ratio(0, 1), ratio(1, 1))
	for _, c := range []struct {
		a, b, want api.Interval
		yes        bool
	}{
		{unit, span(ratio(1, 1), ratio(2, 1)), span(ratio(1, 1), ratio(1, 1)), true}, // one point
		{unit, span(ratio(-1, 1), ratio(0, 1)), span(ratio(0, 1), ratio(0, 1)), true},
		{unit, api.Interval{Lo: frac(ratio(-1, 1)), Hi: api.Frac{Neg: true, Den: api.Nat{4}}}, span(ratio(0, 1), ratio(0, 1)), true},
		{unit, span(ratio(3, 2), ratio(2, 1)), api.Interval{}, false}, // disjoint
		{unit, span(ratio(-2, 1), ratio(-1, 9)), api.Interval{}, false},
		{unit, span(ratio(1, 3), ratio(1, 2)), span(ratio(1, 3), ratio(1, 2)), true}, // one inside the other
		{unit, span(ratio(-1, 3), ratio(1, 2)), span(ratio(0, 1), ratio(1, 2)), true},
		{unit, api.Interval{Lo: api.Frac{Num: api.Nat{2}, Den: api.Nat{4}}, Hi: frac(ratio(7, 1))}, span(ratio(1, 2), ratio(1, 1)), true},
		{unit, unit, unit, true},
		{unit, span(ratio(1, 2), ratio(1, 3)), api.Interval{}, false}, // not valid
		{unit, span(ratio(1, 1), ratio(0, 1)), api.Interval{}, false},
		{span(ratio(1, 1), ratio(0, 1)), unit, api.Interval{}, false},
		{span(ratio(1, 1), ratio(0, 1)), span(ratio(1, 1), ratio(0, 1)), api.Interval{}, false},
		{unit, api.Interval{}, api.Interval{}, false}, {api.Interval{}, unit, api.Interval{}, false}, {api.Interval{}, api.Interval{}, api.Interval{}, false},
	} {
		for _, got := range []answer{ask(t, meet, c.a, c.b), ask(t, meet, c.b, c.a)} {
			if !got.equal(answer{is: c.want, yes: c.yes}) {
				t.Errorf("Meet of %v and %v: got %v, want %v, %v", c.a, c.b, got, c.want, c.yes)
			}
		}
	}
}

// covered returns the right answer of Hull.
func covered(l ...api.Interval) answer {
	if len(l) == 0 || !isValid(l...) {
		return refused(api.ErrArg)
	}
	lo, hi := values(l[0])
	for _, a := range l {
		lo, hi = least(lo, value(a.Lo)), greatest(hi, value(a.Hi))
	}
	return right(lo, hi)
}

// P3.4: no interval, one, and two.
func TestHull(t *testing.T) {
	if got, err := interval.Hull(); !same(got, api.Interval{}) || err != api.ErrArg {
		t.Errorf("Hull() = %v, %d", got, err)
	}
	expect(t, hull, refused(api.ErrArg))
	for _, a := range slices.Concat(small(), huge(), invalid()) {
		for turn := range 12 {
			expect(t, hull, covered(a), shape(a, turn))
		}
	}
	pairs(func(a, b api.Interval) { expect(t, hull, covered(a, b), a, b) })
	third := api.Interval{Lo: api.Frac{Num: api.Nat{2}, Den: api.Nat{6}}, Hi: api.Frac{Num: api.Nat{3}, Den: api.Nat{9, 0}}}
	if got, err := interval.Hull(third); !same(got, span(ratio(1, 3), ratio(1, 3))) || err != api.OK {
		t.Errorf("Hull(%v) = %v, %d", third, got, err)
	}
	for i, bad := range invalid() {
		if got, err := interval.Hull(bad); !same(got, api.Interval{}) || err != api.ErrArg {
			t.Errorf("Hull of the interval %d that is not valid: %v, %d", i, got, err)
		}
	}
}

// shuffles calls check with several orders of l, among them every one in which another element is the first and the last.
func shuffles(r *rand.Rand, l []api.Interval, check func(l []api.Interval)) {
	for range l {
		l = append(slices.Clone(l[1:]), l[0])
		check(l)
		mixed := slices.Clone(l)
		r.Shuffle(len(mixed), func(i, k int) { mixed[i], mixed[k] = mixed[k], mixed[i] })
		check(mixed)
	}
}

// P3.4: several intervals in any order, and with one that is not valid among them.
func TestHullOfSeveral(t *testing.T) {
	r := rand.New(rand.NewSource(1))
	for turn := range 200 {
		var list []api.Interval
		for range 1 + r.Intn(6) {
			list = append(list, randomInterval(r, 3))
		}
		want := covered(list...)
		shuffles(r, list, func(l []api.Interval) { expect(t, hull, want, l...) })
		bad := invalid()[turn%len(invalid())]
		shuffles(r, append(list, bad), func(l []api.Interval) { expect(t, hull, refused(api.ErrArg), l...) })
	}
	list := []api.Interval{span(ratio(0, 1), ratio(1, 1)), span(ratio(5, 1), ratio(6, 1)), span(ratio(-1, 2), ratio(-1, 3)), span(ratio(2, 1), ratio(2, 1))}
	shuffles(r, list, func(l []api.Interval) { expect(t, hull, right(ratio(-1, 2), ratio(6, 1)), l...) })
}

// P3.5: Meet is inside both of its arguments, which are inside their Hull.
func TestMeetAndHullLaws(t *testing.T) {
	r := rand.New(rand.NewSource(2))
	check := func(a, b api.Interval) {
		all, err := interval.Hull(a, b)
		if err != api.OK || !interval.Inside(a, all) || !interval.Inside(b, all) {
			t.Errorf("Hull(%v, %v) = %v, %d", a, b, all, err)
		}
		both, yes := interval.Meet(a, b)
		if yes && (!interval.Inside(both, a) || !interval.Inside(both, b)) {
			t.Errorf("Meet(%v, %v) = %v", a, b, both)
		}
		if yes != (interval.Contains(a, b.Lo) || interval.Contains(b, a.Lo)) {
			t.Errorf("Meet(%v, %v): %v", a, b, yes)
		}
	}
	for range 2000 {
		check(randomInterval(r, 4), randomInterval(r, 4))
	}
	for _, a := range small() {
		for _, b := range small() {
			check(a, b)
		}
	}
}
