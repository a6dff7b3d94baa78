package natural_test

import (
	"math/big"
	"math/rand"
	"slices"
	"strings"
	"testing"

	"drydock/api"
	"drydock/natural"
)

// format returns Format in the form of the other calls; the text itself is left in *text.
func format(text *string) func(a, _ api.Nat) answer {
	return func(a, _ api.Nat) answer {
		var err api.Errno
		*text, err = natural.Format(a)
		return answer{err: err}
	}
}

// checkFormat compares Format with the text that was computed apart from the program, and reads that text again.
func checkFormat(t *testing.T, a api.Nat) {
	t.Helper()
	text, want, err := "", value(a).String(), api.OK
	if isLarge(value(a)) {
		want, err = "", api.ErrSize
	}
	expect(t, "Format", a, nil, ask(t, "Format", format(&text), a, nil), err)
	if text != want {
		t.Errorf("Format(%v) = %q", a, text)
	}
	if err == api.OK {
		checkParse(t, want, api.OK, value(a))
	}
}

// checkParse compares Parse with an error or a value.
func checkParse(t *testing.T, s string, err api.Errno, want *big.Int) {
	t.Helper()
	parse := func(_, _ api.Nat) answer {
		n, err := natural.Parse(s)
		return answer{[]api.Nat{n}, err}
	}
	got := ask(t, "Parse", parse, nil, nil)
	if got.err != err {
		t.Errorf("Parse of %d bytes, %.20q: error %d, want %d", len(s), s, got.err, err)
	} else if err == api.OK && !slices.Equal(got.nats[0], canonical(want)) {
		t.Errorf("Parse of %d bytes, %.20q: %v", len(s), s, got.nats[0])
	}
}

// P1.5, and P1.6: Parse undoes Format.
func TestFormat(t *testing.T) {
	for _, a := range numbers() {
		for _, form := range forms(a) {
			checkFormat(t, form)
		}
	}
	ten := big.NewInt(10)
	for n := range int64(60) {
		p := new(big.Int).Exp(ten, big.NewInt(n), nil)
		for d := int64(-1); d <= 1; d++ {
			checkFormat(t, canonical(new(big.Int).Add(p, big.NewInt(d))))
		}
	}
	r := rand.New(rand.NewSource(9))
	for range 100 {
		checkFormat(t, random(r, r.Intn(513)))
	}
	for _, c := range []struct {
		a    api.Nat
		want string
	}{{nil, "0"}, {repeat(600, 0), "0"}, {api.Nat{1000000000}, "1000000000"}, {api.Nat{0, 1}, "4294967296"}, {api.Nat{10, 0, 0}, "10"}} {
		if got, err := natural.Format(c.a); got != c.want || err != api.OK {
			t.Errorf("Format: %q, want %q", got, c.want)
		}
	}
	if got, err := natural.Format(repeat(513, 1)); got != "" || err != api.ErrSize {
		t.Errorf("Format of a large number: %q, %d", got, err)
	}
}

// P1.5
func TestParse(t *testing.T) {
	for s, want := range map[string]int64{
		"0": 0, "7": 7, "007": 7, "000000000000": 0, "10": 10, "999999999": 999999999, "1000000000": 1000000000, "4294967295": top, "4294967296": top + 1,
		"1234567890123456789": 1234567890123456789, "000000001000000000": 1000000000, "9000000000000000009": 9000000000000000009,
	} {
		checkParse(t, s, api.OK, big.NewInt(want))
	}
	for b := range 256 {
		for _, s := range []string{string([]byte{byte(b)}), string([]byte{'1', byte(b)}), string([]byte{byte(b), '2'}), string([]byte{'3', byte(b), '4'})} {
			if want, ok := new(big.Int).SetString(s, 10); ok && '0' <= b && b <= '9' {
				checkParse(t, s, api.OK, want)
			} else {
				checkParse(t, s, api.ErrSyntax, nil)
			}
		}
	}
	for _, s := range []string{"", " ", "-", "-1", "+1", "1 ", " 1", "1_000", "0x10", "1.0", "1e3", "1\n", "\x00", "\u0663", "\uff11", "12345678901234567890x", "x12345678901234567890"} {
		checkParse(t, s, api.ErrSyntax, nil)
	}
}

// P1.5: texts and numbers at the limits, and the order of the errors.
func TestParseLimits(t *testing.T) {
	limit := new(big.Int).Lsh(big.NewInt(1), 32*api.MaxLimbs)
	least := limit.String()
	greatest := new(big.Int).Sub(limit, big.NewInt(1)).String()
	zeros := strings.Repeat("0", api.MaxDigits)
	checkParse(t, greatest, api.OK, value(repeat(512, top)))
	checkParse(t, least, api.ErrSize, nil)
	checkParse(t, zeros[len(greatest):]+greatest, api.OK, value(repeat(512, top)))
	checkParse(t, zeros[len(least):]+least, api.ErrSize, nil)
	checkParse(t, "0"+zeros[len(greatest):]+greatest, api.ErrSize, nil)
	checkParse(t, zeros, api.OK, new(big.Int))
	checkParse(t, zeros[1:]+"1", api.OK, big.NewInt(1))
	checkParse(t, zeros+"1", api.ErrSize, nil)
	checkParse(t, strings.Repeat("9", api.MaxDigits), api.ErrSize, nil)
	checkParse(t, strings.Repeat("9", 20*api.MaxDigits), api.ErrSize, nil)
	for _, at := range []int{0, 1, 2500, 4998, 4999} {
		text := []byte(strings.Repeat("9", api.MaxDigits))
		text[at] = 'x'
		checkParse(t, string(text), api.ErrSyntax, nil)       // comes before the ErrSize of a large number
		checkParse(t, string(text)+"1", api.ErrSize, nil)     // comes before ErrSyntax
		checkParse(t, zeros[:at]+"-"+zeros, api.ErrSize, nil) // the same
	}
	r := rand.New(rand.NewSource(10))
	for range 200 {
		text := make([]byte, 1+r.Intn(4900))
		for i := range text {
			text[i] = byte('0' + r.Intn(10))
		}
		want, _ := new(big.Int).SetString(string(text), 10)
		checkParse(t, string(text), api.OK, want)
	}
}
