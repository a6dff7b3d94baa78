package natural_test

import (
	"math"
	"math/big"
	"math/rand"
	"slices"
	"testing"

	"drydock/api"
	"drydock/natural"
)

func add(a, b api.Nat) answer {
	s, err := natural.Add(a, b)
	return answer{[]api.Nat{s}, err}
}

func sub(a, b api.Nat) answer {
	d, err := natural.Sub(a, b)
	return answer{[]api.Nat{d}, err}
}

func mul(a, b api.Nat) answer {
	p, err := natural.Mul(a, b)
	return answer{[]api.Nat{p}, err}
}

// P1.1
func TestMake(t *testing.T) {
	for _, c := range []struct {
		v    uint64
		want api.Nat
	}{
		{0, nil}, {1, api.Nat{1}}, {top, api.Nat{top}}, {1 << 32, api.Nat{0, 1}}, {1<<32 + 5, api.Nat{5, 1}},
		{1 << 63, api.Nat{0, 1 << 31}}, {math.MaxUint64, api.Nat{top, top}}, {0x0123456789abcdef, api.Nat{0x89abcdef, 0x01234567}},
	} {
		got := natural.Make(c.v)
		if !slices.Equal(got, c.want) {
			t.Errorf("Make(%d) = %v", c.v, got)
		}
		spoil(got)
		if !slices.Equal(natural.Make(c.v), c.want) {
			t.Errorf("Make(%d): results of two calls share memory", c.v)
		}
	}
}

// P1.1
func TestTrim(t *testing.T) {
	trim := func(a, _ api.Nat) answer { return answer{nats: []api.Nat{natural.Trim(a)}} }
	for _, a := range numbers() {
		for _, form := range forms(a) {
			expect(t, "Trim", form, nil, ask(t, "Trim", trim, form, nil), api.OK, value(a))
		}
	}
	for _, zero := range []api.Nat{nil, {}, {0}, {0, 0, 0}, repeat(1000, 0)} {
		if got := natural.Trim(zero); len(got) != 0 {
			t.Errorf("Trim of %d zero limbs: %v", len(zero), got)
		}
	}
	if got := natural.Trim(api.Nat{0, 3, 0, 4, 0, 0}); !slices.Equal(got, api.Nat{0, 3, 0, 4}) {
		t.Errorf("Trim keeps the zero limbs that count: %v", got)
	}
}

// P1.1
func TestCmp(t *testing.T) {
	cmp := func(a, b api.Nat) answer { return answer{err: api.Errno(natural.Cmp(a, b))} }
	pairs(func(a, b api.Nat) {
		want := api.Errno(value(a).Cmp(value(b)))
		expect(t, "Cmp", a, b, ask(t, "Cmp", cmp, a, b), want)
	})
	for _, c := range []struct {
		a, b api.Nat
		want int
	}{
		{nil, repeat(2000, 0), 0}, {api.Nat{1, 0, 0}, api.Nat{1}, 0}, {api.Nat{9, 1}, api.Nat{1, 2}, -1},
		{api.Nat{1, 2, 3}, api.Nat{2, 2, 3}, -1}, {api.Nat{0, 1}, api.Nat{top, 0, 0}, 1}, {api.Nat{1 << 31}, api.Nat{1}, 1},
		{repeat(2000, 1), repeat(2001, 1), -1}, {repeat(2000, 1), append(repeat(2000, 1), 0), 0},
	} {
		if natural.Cmp(c.a, c.b) != c.want || natural.Cmp(c.b, c.a) != -c.want {
			t.Errorf("Cmp of %d and %d limbs is not %d", len(c.a), len(c.b), c.want)
		}
	}
}

// P1.1
func TestBits(t *testing.T) {
	count := func(a, _ api.Nat) answer { return answer{err: api.Errno(natural.Bits(a))} }
	for _, a := range numbers() {
		for _, form := range forms(a) {
			expect(t, "Bits", form, nil, ask(t, "Bits", count, form, nil), api.Errno(value(a).BitLen()))
		}
	}
	for n := range 200 {
		if got := natural.Bits(power(n)); got != n+1 {
			t.Errorf("Bits of 2^%d: %d", n, got)
		}
	}
	if got := natural.Bits(repeat(3000, 1)); got != 32*2999+1 {
		t.Errorf("Bits of 3000 limbs: %d", got)
	}
}

// P1.2
func TestAdd(t *testing.T) {
	pairs(func(a, b api.Nat) {
		sum, err := new(big.Int).Add(value(a), value(b)), api.OK
		if isLarge(value(a)) || isLarge(value(b)) || isLarge(sum) {
			err = api.ErrSize
		}
		expect(t, "Add", a, b, ask(t, "Add", add, a, b), err, sum)
	})
	expect(t, "Add", nil, nil, add(repeat(512, top), api.Nat{1}), api.ErrSize)
	expect(t, "Add", nil, nil, add(api.Nat{1, 0}, repeat(512, top)), api.ErrSize)
	almost := repeat(512, top)
	almost[0]--
	expect(t, "Add", nil, nil, add(almost, api.Nat{1}), api.OK, value(repeat(512, top)))
	expect(t, "Add", nil, nil, add(power(32*512-1), power(32*512-1)), api.ErrSize)
	expect(t, "Add", nil, nil, add(repeat(5, 0), repeat(900, 0)), api.OK, new(big.Int))
}

// P1.2
func TestSub(t *testing.T) {
	pairs(func(a, b api.Nat) {
		difference, err := new(big.Int).Sub(value(a), value(b)), api.OK
		if isLarge(value(a)) || isLarge(value(b)) {
			err = api.ErrSize
		} else if difference.Sign() < 0 {
			err = api.ErrNegative
		}
		expect(t, "Sub", a, b, ask(t, "Sub", sub, a, b), err, difference)
	})
	expect(t, "Sub", nil, nil, sub(repeat(600, 1), repeat(600, 1)), api.ErrSize)
	expect(t, "Sub", nil, nil, sub(nil, repeat(513, 1)), api.ErrSize)
	expect(t, "Sub", nil, nil, sub(nil, api.Nat{1}), api.ErrNegative)
	expect(t, "Sub", nil, nil, sub(api.Nat{0, 0}, api.Nat{0, 0, 0}), api.OK, new(big.Int))
	expect(t, "Sub", nil, nil, sub(power(32*511), api.Nat{1}), api.OK, value(repeat(511, top)))
	expect(t, "Sub", nil, nil, sub(api.Nat{5, 7, 9}, api.Nat{4, 7, 9}), api.OK, big.NewInt(1))
}

// P1.2
func TestMul(t *testing.T) {
	pairs(func(a, b api.Nat) {
		product, err := new(big.Int).Mul(value(a), value(b)), api.OK
		if isLarge(value(a)) || isLarge(value(b)) || isLarge(product) {
			err = api.ErrSize
		}
		expect(t, "Mul", a, b, ask(t, "Mul", mul, a, b), err, product)
	})
	expect(t, "Mul", nil, nil, mul(repeat(513, 1), nil), api.ErrSize)
	expect(t, "Mul", nil, nil, mul(api.Nat{0}, repeat(513, 1)), api.ErrSize)
	expect(t, "Mul", nil, nil, mul(api.Nat{0}, repeat(512, 1)), api.OK, new(big.Int))
	expect(t, "Mul", nil, nil, mul(repeat(512, top), api.Nat{1}), api.OK, value(repeat(512, top)))
	expect(t, "Mul", nil, nil, mul(repeat(512, top), api.Nat{2}), api.ErrSize)
	expect(t, "Mul", nil, nil, mul(power(32*256-1), power(32*256)), api.OK, value(power(32*512-1)))
	expect(t, "Mul", nil, nil, mul(power(32*256), power(32*256)), api.ErrSize)
	expect(t, "Mul", nil, nil, mul(repeat(257, top), repeat(256, top)), api.ErrSize)
}

// shiftBy returns Shift by n in the form of the other calls.
func shiftBy(n int) func(a, _ api.Nat) answer {
	return func(a, _ api.Nat) answer {
		s, err := natural.Shift(a, n)
		return answer{[]api.Nat{s}, err}
	}
}

// shifted returns what Shift(a, n) must return.
func shifted(a api.Nat, n int) (*big.Int, api.Errno) {
	v := value(a)
	switch {
	case isLarge(v):
		return v, api.ErrSize
	case v.Sign() == 0:
		return v, api.OK
	case n < -20000:
		return new(big.Int), api.OK
	case n < 0:
		return v.Rsh(v, uint(-n)), api.OK
	case n > 20000 || isLarge(v.Lsh(v, uint(n))):
		return v, api.ErrSize
	}
	return v, api.OK
}

// P1.4
func TestShift(t *testing.T) {
	amounts := []int{0, 1, 2, 15, 31, 32, 33, 63, 64, 65, 95, 96, 97, 8191, 8192, 8193, 16319, 16320, 16351, 16352, 16353, 16382, 16383, 16384, 16385, 20000, 1 << 31, 1 << 32, 1<<62 + 1, math.MaxInt - 16384, math.MaxInt - 1, math.MaxInt}
	for _, n := range slices.Clone(amounts) {
		amounts = append(amounts, -n)
	}
	amounts = append(amounts, math.MinInt, math.MinInt+1)
	for i, a := range numbers() {
		for j, n := range amounts {
			all := forms(a)
			form := all[(i+j)%len(all)]
			want, err := shifted(a, n)
			expect(t, "Shift", form, canonical(new(big.Int).SetUint64(uint64(n))), ask(t, "Shift", shiftBy(n), form, nil), err, want)
		}
	}
}

// P1.4: the result has exactly MaxLimbs limbs, or one binary digit more.
func TestShiftToLimit(t *testing.T) {
	for _, a := range []api.Nat{{1}, {5}, {top}, {0, 1}, {7, 0, 1 << 31}, repeat(100, top), repeat(511, 1), power(32*512 - 1)} {
		n := 32*api.MaxLimbs - value(a).BitLen()
		want, err := shifted(a, n)
		if err != api.OK || want.BitLen() != 32*api.MaxLimbs {
			t.Fatal("the test is wrong")
		}
		expect(t, "Shift", a, nil, ask(t, "Shift", shiftBy(n), a, nil), api.OK, want)
		expect(t, "Shift", a, nil, ask(t, "Shift", shiftBy(n+1), a, nil), api.ErrSize)
	}
}

// P1.4: the last digits that remain.
func TestShiftDown(t *testing.T) {
	a := api.Nat{6, 0, 5}
	for n, want := range map[int]api.Nat{-1: {3, 1 << 31, 2}, -2: {1, 1 << 30, 1}, -64: {5}, -65: {2}, -66: {1}, -67: nil, -68: nil} {
		got, err := natural.Shift(a, n)
		if err != api.OK || !slices.Equal(got, want) {
			t.Errorf("Shift by %d: %v", n, got)
		}
	}
}

// The chapter's section Ways: who appends to a result does not write into spare limbs of it.
func TestAppendToResults(t *testing.T) {
	q, r, _ := natural.Div(api.Nat{0, 0, 1 << 31, 5}, api.Nat{0, 0, 1 << 31, 1})
	for i, n := range []api.Nat{
		must(t, sub(api.Nat{5, 6, 7, 8}, api.Nat{4, 6, 7, 8})), must(t, mul(api.Nat{2, 2}, api.Nat{3})), must(t, shiftBy(-40)(api.Nat{1, 2, 3}, nil)), q, r,
	} {
		one, two := append(n, 1), append(n, 2)
		if one[len(n)] != 1 || two[len(n)] != 2 {
			t.Errorf("result %d: two lists made from it share memory", i)
		}
	}
}

// must returns the only result of a call without an error.
func must(t *testing.T, got answer) api.Nat {
	t.Helper()
	if got.err != api.OK {
		t.Fatalf("error %d", got.err)
	}
	return got.nats[0]
}

// P1.6
func TestLaws(t *testing.T) {
	r := rand.New(rand.NewSource(6))
	for range 400 {
		a, b, c := random(r, r.Intn(160)), random(r, r.Intn(160)), random(r, r.Intn(160))
		equal := func(law string, x, y answer) {
			t.Helper()
			if !slices.Equal(must(t, x), must(t, y)) {
				t.Errorf("%s: %v, %v, %v", law, a, b, c)
			}
		}
		ab, bc := must(t, add(a, b)), must(t, add(b, c))
		equal("a + b = b + a", add(a, b), add(b, a))
		equal("(a + b) + c = a + (b + c)", add(ab, c), add(a, bc))
		equal("a b = b a", mul(a, b), mul(b, a))
		equal("(a b) c = a (b c)", mul(must(t, mul(a, b)), c), mul(a, must(t, mul(b, c))))
		equal("a (b + c) = a b + a c", mul(a, bc), add(must(t, mul(a, b)), must(t, mul(a, c))))
		equal("(a + b) - b = a", sub(ab, b), add(a, nil))
	}
}
