package testfrac_test

import (
	"fmt"
	"math/rand"
	"testing"

	"drydock/api"
	"drydock/fraction"
	"drydock/testfrac"
)

// samples returns numbers in lowest terms, the last of them as long as a number may be.
func samples() []api.Frac {
	longest := append(make(api.Nat, api.MaxFracLimbs-1), 1)
	return []api.Frac{{Den: api.Nat{1}}, {Num: api.Nat{1}, Den: api.Nat{1}}, {Neg: true, Num: api.Nat{2}, Den: api.Nat{3, 1}}, {Num: longest, Den: api.Nat{7}}}
}

// All forms are valid and have the value of the number, and there are several unlike ones.
func TestForms(t *testing.T) {
	for _, x := range samples() {
		forms, unlike := testfrac.Forms(x), map[string]bool{}
		for _, form := range forms {
			if order, err := fraction.Cmp(x, form); order != 0 || err != api.OK {
				t.Errorf("%v is a form of %v", form, x)
			}
			unlike[fmt.Sprint(form)] = true
		}
		if fmt.Sprint(forms[0]) != fmt.Sprint(x) || len(unlike) < 2 || len(x.Num) < 10 && len(unlike) < 8 {
			t.Errorf("the forms of %v are %v", x, forms)
		}
	}
}

// Disguised takes all forms of all the numbers.
func TestDisguised(t *testing.T) {
	r := rand.New(rand.NewSource(1))
	list := samples()
	unlike := make([]map[string]bool, len(list))
	for range 1000 {
		for i, form := range testfrac.Disguised(r.Intn, list) {
			if unlike[i] == nil {
				unlike[i] = map[string]bool{}
			}
			unlike[i][fmt.Sprint(form)] = true
		}
	}
	for i, x := range list {
		for _, form := range testfrac.Forms(x) {
			if !unlike[i][fmt.Sprint(form)] {
				t.Errorf("%v does not occur", form)
			}
		}
	}
}

// No invalid fraction is valid, and they share no elements.
func TestInvalid(t *testing.T) {
	for _, x := range testfrac.Invalid() {
		if fraction.Valid(x) {
			t.Errorf("%v is valid", x)
		}
	}
}
