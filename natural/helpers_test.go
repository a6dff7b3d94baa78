package natural_test

import (
	"math/big"
	"math/rand"
	"slices"
	"testing"

	"drydock/api"
)

const top = 1<<32 - 1 // the greatest limb

// repeat returns n limbs of one value.
func repeat(n int, limb uint32) api.Nat {
	return slices.Repeat(api.Nat{limb}, n)
}

// power returns 2^n.
func power(n int) api.Nat {
	return append(repeat(n/32, 0), 1<<(n%32))
}

// value returns the value of a, computed apart from the program.
func value(a api.Nat) *big.Int {
	bytes := make([]byte, 0, 4*len(a))
	for _, limb := range slices.Backward(a) {
		bytes = append(bytes, byte(limb>>24), byte(limb>>16), byte(limb>>8), byte(limb))
	}
	return new(big.Int).SetBytes(bytes)
}

// canonical returns the canonical Nat with the value v.
func canonical(v *big.Int) api.Nat {
	var out api.Nat
	limb := big.NewInt(top)
	for rest := new(big.Int).Set(v); rest.Sign() > 0; rest.Rsh(rest, 32) {
		out = append(out, uint32(new(big.Int).And(rest, limb).Uint64()))
	}
	return out
}

// isLarge reports whether v needs more than MaxLimbs limbs.
func isLarge(v *big.Int) bool {
	return v.BitLen() > 32*api.MaxLimbs
}

// random returns n limbs, of which many are at the ends of their range, where carries and wrong guesses are frequent. The last one is not 0.
func random(r *rand.Rand, n int) api.Nat {
	ends := []uint32{0, 1, 1<<31 - 1, 1 << 31, top - 1, top}
	out := make(api.Nat, n)
	for i := range out {
		out[i] = r.Uint32()
		if r.Intn(2) == 0 {
			out[i] = ends[r.Intn(len(ends))]
		}
	}
	if n > 0 && out[n-1] == 0 {
		out[n-1] = 1
	}
	return out
}

// numbers returns numbers of all sizes up to the limit and beyond it.
func numbers() []api.Nat {
	r := rand.New(rand.NewSource(1))
	return []api.Nat{
		nil, {1}, {2}, {3}, {7}, {1000000000}, {1 << 31}, {top - 1}, {top},
		{0, 1}, {1, 1}, {top, 1}, {0, 1 << 31}, {top, top},
		{0, 0, 1}, {1, 0, 1}, {top, top, top}, {0, 0, 1 << 31}, {5, 0, 0, 0, 9},
		random(r, 3), random(r, 4), random(r, 5), random(r, 17), random(r, 64), random(r, 255),
		repeat(256, top), power(32*256 - 1), power(32 * 256), random(r, 257), random(r, 511), repeat(511, top),
		power(32*511 - 1), power(32 * 511), power(32*512 - 1), random(r, 512), repeat(512, top),
		power(32 * 512), repeat(513, top), random(r, 513), random(r, 700),
	}
}

// forms returns lists of limbs with the value of a, with and without zero limbs at the end.
func forms(a api.Nat) []api.Nat {
	out := []api.Nat{a, append(slices.Clone(a), 0), append(slices.Clone(a), repeat(600, 0)...)}
	if len(a) == 0 {
		out = append(out, api.Nat{})
	}
	return out
}

// loan is an argument that lies within a longer array. What a function may not touch has a copy.
type loan struct {
	limbs     api.Nat
	all, copy api.Nat
}

func lend(a api.Nat) loan {
	if a == nil {
		return loan{}
	}
	all := slices.Concat(api.Nat{11, 12}, a, api.Nat{13, 14, 15})
	return loan{limbs: all[2 : 2+len(a)], all: all, copy: slices.Clone(all)}
}

// unharmed reports whether nothing was written to the argument, before it and behind it.
func (l loan) unharmed() bool {
	return slices.Equal(l.all, l.copy)
}

// spoil changes a result and all spare memory behind it.
func spoil(a api.Nat) {
	a = a[:cap(a)]
	for i := range a {
		a[i] = ^a[i]
	}
}

// answer is what a function returned.
type answer struct {
	nats []api.Nat
	err  api.Errno
}

// ask calls f with arguments a and b and checks the rules: arguments are neither changed nor kept, results are in canonical form, share no memory, are zero with an error and are the same again.
func ask(t *testing.T, name string, f func(a, b api.Nat) answer, a, b api.Nat) answer {
	t.Helper()
	x, y := lend(a), lend(b)
	got := f(x.limbs, y.limbs)
	kept := answer{err: got.err}
	for _, n := range got.nats {
		if len(n) > 0 && (n[len(n)-1] == 0 || got.err != api.OK) {
			t.Errorf("%s: result %v with error %v", name, n, got.err)
		}
		kept.nats = append(kept.nats, slices.Clone(n))
	}
	for i, n := range got.nats {
		spoil(n)
		for j, m := range got.nats[i+1:] {
			if !slices.Equal(m, kept.nats[i+1+j]) {
				t.Errorf("%s: results share memory", name)
			}
		}
	}
	if !x.unharmed() || !y.unharmed() {
		t.Errorf("%s: an argument was changed, or shares memory with a result", name)
	}
	again := f(x.limbs, y.limbs)
	if again.err != kept.err || !slices.EqualFunc(again.nats, kept.nats, slices.Equal[api.Nat]) {
		t.Errorf("%s: another result for the same arguments", name)
	}
	return kept
}

// pairs calls check for all pairs of numbers; each number takes its forms in turn.
func pairs(check func(a, b api.Nat)) {
	turn := 0
	for _, a := range numbers() {
		for _, b := range numbers() {
			turn++
			x, y := forms(a), forms(b)
			check(a, b)
			check(x[turn%len(x)], y[turn/3%len(y)])
		}
	}
}

// expect compares an answer with an error and, if that is OK, with the values of the results.
func expect(t *testing.T, name string, a, b api.Nat, got answer, err api.Errno, want ...*big.Int) {
	t.Helper()
	if got.err != err {
		t.Errorf("%s of %d and %d limbs: error %d, want %d", name, len(a), len(b), got.err, err)
		return
	}
	for i, w := range want {
		if err == api.OK && !slices.Equal(got.nats[i], canonical(w)) {
			t.Errorf("%s(%v, %v): result %d is %v, want %v", name, value(a), value(b), i, got.nats[i], canonical(w))
		}
	}
}
