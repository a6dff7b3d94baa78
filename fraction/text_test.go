package fraction_test

import (
	"math/big"
	"math/rand"
	"strings"
	"testing"

	"drydock/api"
	"drydock/fraction"
)

func format(l []api.Frac) answer {
	text, err := fraction.Format(l[0])
	return answer{text: text, err: err}
}

// read returns the number with the text s, or false if it is not of the form that Parse reads or has a denominator of 0. (SetString of big.Rat knows other forms, and octal denominators.)
func read(s string) (*big.Rat, bool) {
	above, below, divided := strings.Cut(s, "/")
	if !divided {
		below = "1"
	}
	if strings.HasPrefix(above, "+") || strings.HasPrefix(below, "+") || strings.HasPrefix(below, "-") {
		return nil, false
	}
	num, ok := new(big.Int).SetString(above, 10)
	den, also := new(big.Int).SetString(below, 10)
	if !ok || !also || den.Sign() == 0 {
		return nil, false
	}
	return new(big.Rat).SetFrac(num, den), true
}

// checkParse compares Parse with an error, or with the number v.
func checkParse(t *testing.T, s string, err api.Errno, v *big.Rat) {
	t.Helper()
	parse := func([]api.Frac) answer {
		x, err := fraction.Parse(s)
		return answer{frac: x, err: err}
	}
	want := answer{err: err}
	if err == api.OK {
		want.frac = frac(v)
	}
	if got := ask(t, parse); !got.equal(want) {
		t.Errorf("Parse of %d bytes, %.30q: got %v, want %v", len(s), s, got, want)
	}
}

// checkFormat compares Format with the text of the value, and reads that text again.
func checkFormat(t *testing.T, x api.Frac) {
	t.Helper()
	if !isValid(x) {
		expect(t, ask(t, format, x), answer{err: api.ErrArg}, x)
		return
	}
	text := value(x).RatString() // without "/1"
	expect(t, ask(t, format, x), answer{text: text}, x)
	checkParse(t, text, api.OK, value(x))
}

// P2.5, and P2.6: Parse undoes Format.
func TestFormat(t *testing.T) {
	for _, x := range samples() {
		for _, form := range forms(x) {
			checkFormat(t, form)
		}
	}
	for _, x := range invalid() {
		checkFormat(t, x)
		checkFormat(t, negated(x))
	}
	r := rand.New(rand.NewSource(8))
	for range 500 {
		checkFormat(t, randomFrac(r, 1+r.Intn(6)))
	}
	for range 10 {
		checkFormat(t, randomFrac(r, full))
	}
	for _, c := range []struct {
		x    api.Frac
		want string
	}{
		{api.Frac{Den: api.Nat{1}}, "0"}, {api.Frac{Neg: true, Num: api.Nat{0}, Den: api.Nat{9}}, "0"},
		{api.Frac{Num: api.Nat{6}, Den: api.Nat{4}}, "3/2"}, {api.Frac{Neg: true, Num: api.Nat{6, 0}, Den: api.Nat{4, 0}}, "-3/2"},
		{api.Frac{Neg: true, Num: api.Nat{8}, Den: api.Nat{4}}, "-2"}, {api.Frac{Num: api.Nat{1}, Den: api.Nat{1000000000}}, "1/1000000000"},
		{api.Frac{Num: api.Nat{0, 1}, Den: api.Nat{1}}, "4294967296"}, {api.Frac{Num: api.Nat{0, 1}, Den: api.Nat{0, 1}}, "1"},
	} {
		expect(t, ask(t, format, c.x), answer{text: c.want}, c.x)
	}
}

// P2.5
func TestParse(t *testing.T) {
	for s, want := range map[string]*big.Rat{
		"0": ratio(0, 1), "-0": ratio(0, 1), "0/7": ratio(0, 1), "-0/7": ratio(0, 1), "000": ratio(0, 1), "-00/0010": ratio(0, 1),
		"1": ratio(1, 1), "-1": ratio(-1, 1), "-06/4": ratio(-3, 2), "6/4": ratio(3, 2), "007/0014": ratio(1, 2), "10/5": ratio(2, 1), "5/1": ratio(5, 1), "-1/1": ratio(-1, 1),
		"1234567890123456789/1000000000": ratio(1234567890123456789, 1000000000), "0000000000000000000000001/0000000000000000000000002": ratio(1, 2),
		"4294967296/4294967295": ratio(1<<32, top), "-18446744073709551615/5": new(big.Rat).SetFrac(new(big.Int).Neg(below(64)), big.NewInt(5)),
	} {
		checkParse(t, s, api.OK, want)
	}
	for _, s := range []string{
		"", "-", "--1", "-+1", "+1", "+", "/", "-/", "/1", "-/1", "1/", "-1/", "1//2", "1/2/3", "1/2/", "/1/2", "1/-2", "1/+2", "-1/-2", "1-", "1-2", "- 1", " 1", "1 ", "1 /2", "1/ 2",
		"1.5", "1e3", "0x10", "1_0", "1\n", "\x00", "1\x00", "\u0663", "1/\u0663", "\uff11/2", "\u22121", "1\u20442", "x", "1/x", "x/1", "nan", "0/0x", "--", "-0-", "1/0/1",
	} {
		checkParse(t, s, api.ErrSyntax, nil)
	}
	for _, s := range []string{"0/0", "1/0", "-1/0", "-0/0", "1/000", "12345678901234567890/00000000000000000000", "1/" + strings.Repeat("0", api.MaxDigits)} {
		checkParse(t, s, api.ErrZero, nil)
	}
}

// P2.5: every byte in every place of a short text.
func TestParseBytes(t *testing.T) {
	for b := range 256 {
		c := byte(b)
		for _, s := range [][]byte{{c}, {c, '5'}, {'5', c}, {'5', c, '8'}, {'5', '/', c}, {'-', c}, {c, '/', '8'}, {'5', '/', '8', c}, {'5', '/', c, '8'}} {
			text := string(s)
			if want, ok := read(text); ok {
				checkParse(t, text, api.OK, want)
			} else if text == "5/0" {
				checkParse(t, text, api.ErrZero, nil)
			} else {
				checkParse(t, text, api.ErrSyntax, nil)
			}
		}
	}
}

// P2.5: texts and numbers at the limits, and the order of the errors.
func TestParseLimits(t *testing.T) {
	greatest, tooGreat := below(edge).String(), power(edge).String()
	zeros, nines := strings.Repeat("0", api.MaxDigits), strings.Repeat("9", api.MaxDigits)
	natural, unnatural := below(32*api.MaxLimbs).String(), power(32*api.MaxLimbs).String()
	tiny := new(big.Rat).SetFrac(big.NewInt(1), below(edge))
	for s, want := range map[string]*big.Rat{
		greatest: whole(below(edge)), "-" + greatest: new(big.Rat).Neg(whole(below(edge))), "1/" + greatest: tiny, greatest + "/" + greatest: ratio(1, 1),
		zeros: ratio(0, 1), "-" + zeros: ratio(0, 1), zeros[1:] + "7": ratio(7, 1), "-" + zeros[1:] + "7/" + zeros[1:] + "2": ratio(-7, 2), "3/" + zeros[1:] + "9": ratio(1, 3),
		zeros + "/" + natural: ratio(0, 1), natural + "/" + natural: ratio(1, 1), "0/" + tooGreat: ratio(0, 1),
		tooGreat + "/2": whole(power(edge - 1)), "-2/" + tooGreat: new(big.Rat).Neg(new(big.Rat).SetFrac(big.NewInt(1), power(edge-1))), // large only before it is reduced
		new(big.Int).Mul(below(32*100), below(32*400)).String() + "/" + below(32*400).String(): whole(below(32 * 100)),
	} {
		checkParse(t, s, api.OK, want)
	}
	for _, s := range []string{
		tooGreat, "-" + tooGreat, "1/" + tooGreat, "3/" + tooGreat, tooGreat + "/3", natural, "1/" + natural, unnatural, "1/" + unnatural, unnatural + "/" + unnatural, // large
		zeros + "0", "-" + zeros + "0", zeros + "0/1", "1/" + zeros + "0", zeros + "1", "1/" + zeros + "1", "0/" + zeros + "1", // too many digits
		nines, "1/" + nines, nines + "/" + nines, "0/" + nines, nines + "9", strings.Repeat("9", 30*long), // both
		zeros + "0/0", nines + "/0", unnatural + "/000", "0/" + zeros + "0", "5/" + zeros + "0", unnatural + "/" + zeros, // ErrSize comes before ErrZero
	} {
		checkParse(t, s, api.ErrSize, nil)
	}
	for _, s := range []string{tooGreat + "/0", natural + "/0", "-" + natural + "/" + zeros, greatest + "/0", zeros + "/" + zeros} { // ErrZero comes before the ErrSize of the number
		checkParse(t, s, api.ErrZero, nil)
	}
	for _, s := range []string{ // ErrSyntax comes before everything
		"x" + zeros + "0", zeros + "0x", "--" + zeros + "0", zeros + "0/", "/" + zeros + "0", zeros + "0/0x", nines + "9/" + nines + "9/", "0/0/" + zeros + "0", nines + "/x", "x/" + nines, unnatural + "/-1", zeros + "0 ", "x/0", "/0", "-/0", "--0/0",
	} {
		checkParse(t, s, api.ErrSyntax, nil)
	}
}

// P2.5: random texts of valid form.
func TestParseRandom(t *testing.T) {
	r := rand.New(rand.NewSource(9))
	row := func(n int) string {
		text := make([]byte, 1+r.Intn(n))
		for i := range text {
			text[i] = byte('0' + r.Intn(10))
		}
		return string(text)
	}
	for range 1000 {
		n := 1 + r.Intn(60)
		text, below := row(n), "1"
		if r.Intn(2) == 0 {
			below = row(n)
			text += "/" + below
		}
		if r.Intn(2) == 0 {
			text = "-" + text
		}
		if want, ok := read(text); ok {
			checkParse(t, text, api.OK, want)
		} else if strings.Trim(below, "0") == "" {
			checkParse(t, text, api.ErrZero, nil)
		} else {
			t.Fatalf("the test cannot read %q", text)
		}
	}
}
