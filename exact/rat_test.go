package exact

import "testing"

func TestOne(t *testing.T) {
	one := One()
	if one.String() != "1" || !one.IsInt() || one.Sign() != 1 || one.Cmp(Small(1)) != 0 {
		t.Errorf("One() = %s", one)
	}
	if !one.Num().IsOne() || !one.Den().IsOne() {
		t.Errorf("One() = %s / %s", one.Num(), one.Den())
	}
	if !one.Sub(one).IsZero() || one.Neg().String() != "-1" || One().String() != "1" {
		t.Error("One() differs after it was used")
	}
}

func TestDen(t *testing.T) {
	big, _ := ParseInt("100000000000000000000000000000000")
	tests := []struct {
		name string
		rat  Rat
		want string
	}{
		{"zero value", Rat{}, "1"},
		{"one", One(), "1"},
		{"negative integer", Small(-7), "1"},
		{"big integer", FromInt(big), "1"},
		{"quotient that is an integer", Quotient(FromInt64(6), FromInt64(-3)), "1"},
		{"zero as a quotient", Quotient(Int{}, FromInt64(5)), "1"},
		{"fraction", Quotient(FromInt64(6), FromInt64(4)), "2"},
		{"negative denominator", Quotient(FromInt64(3), FromInt64(-4)), "4"},
		{"big denominator", Quotient(FromInt64(3), big), big.String()},
		{"sum that is an integer", Must("1/3").Add(Must("2/3")), "1"},
	}
	for _, test := range tests {
		for range 2 {
			if got := test.rat.Den(); got.String() != test.want {
				t.Errorf("%s: Den() = %s, want %s", test.name, got, test.want)
			}
		}
	}
}
