package number

import (
	"math/big"
	"math/rand"
	"strings"
	"testing"
)

func TestP11Forms(t *testing.T) {
	for s, want := range map[string]bool{"0": true, "-1": true, "1/2": true, "2/4": false, "-0": false, "+1": false, "0/3": false, "1/1": false, "": false, "1/-2": false, "3/02": false} {
		if Valid(s) != want {
			t.Error(s)
		}
	}
	if IsInt("1/2") || !IsInt("-7") || FromInt(-5) != "-5" {
		t.Error("IsInt, FromInt")
	}
	if n, is := Int("-9223372036854775808"); n != -1<<63 || !is {
		t.Error(n, is)
	}
	if n, is := Int("-9223372036854775809"); n != 0 || is {
		t.Error(n, is)
	}
}

func TestP12Parse(t *testing.T) {
	for s, want := range map[string]string{"007.50": "15/2", "-0.0": "0", "12": "12"} {
		if x, is := Parse(s); x != want || !is {
			t.Error(s, x)
		}
	}
	for _, s := range []string{"", ".5", "5.", "1/2", "-", "1.-5", "1e2", "--3"} {
		if x, is := Parse(s); x != "" || is {
			t.Error(s, x)
		}
	}
}

func TestP13Parts(t *testing.T) {
	if Num("-3/4") != "-3" || Den("-3/4") != "4" || Den("5") != "1" || Num("2/4") != "" || Den("x") != "" {
		t.Error("Num, Den")
	}
	if Sign("-3/4") != -1 || Sign("0") != 0 || Sign("00") != 0 || Cmp("1/3", "1/2") != -1 || Cmp("1", "x") != 0 {
		t.Error("Sign, Cmp")
	}
}

func TestP14Floor(t *testing.T) {
	if Floor("-7/2") != "-4" || Ceil("-7/2") != "-3" || Floor("x") != "" || Div("1", "0") != "" || Abs("-1/2") != "1/2" || Neg("0") != "0" {
		t.Error("Floor, Ceil, Div, Abs, Neg")
	}
}

func randomInt(r *rand.Rand) *big.Int {
	n := new(big.Int).Rand(r, new(big.Int).Lsh(big.NewInt(1), uint(r.Intn(300)+1)))
	if r.Intn(4) == 0 {
		n.Lsh(big.NewInt(1), uint(r.Intn(130)))
		n.Sub(n, big.NewInt(int64(r.Intn(3))))
	}
	if r.Intn(2) == 0 {
		n.Neg(n)
	}
	return n
}

func TestP14P15AgainstLibrary(t *testing.T) {
	r := rand.New(rand.NewSource(1))
	for range 20000 {
		a, b := randomInt(r), randomInt(r)
		x, y := a.String(), b.String()
		if Add(x, y) != new(big.Int).Add(a, b).String() || Sub(x, y) != new(big.Int).Sub(a, b).String() || Mul(x, y) != new(big.Int).Mul(a, b).String() || Cmp(x, y) != a.Cmp(b) {
			t.Fatal(x, y)
		}
		if b.Sign() == 0 {
			continue
		}
		q, m := new(big.Int).DivMod(a, b, new(big.Int))
		if Quo(x, y) != q.String() || Rem(x, y) != m.String() || Gcd(x, y) != new(big.Int).GCD(nil, nil, new(big.Int).Abs(a), new(big.Int).Abs(b)).String() {
			t.Fatal("division", x, y, Quo(x, y), Rem(x, y))
		}
		if want := strings.TrimSuffix(new(big.Rat).SetFrac(a, b).String(), "/1"); Div(x, y) != want || !Valid(want) {
			t.Fatal("quotient", x, y)
		}
		p, s := new(big.Rat).SetFrac(a, b), new(big.Rat).SetFrac(b, big.NewInt(7))
		if Add(Div(x, y), Div(y, "7")) != strings.TrimSuffix(new(big.Rat).Add(p, s).String(), "/1") || Mul(Div(x, y), Div(y, "7")) != strings.TrimSuffix(new(big.Rat).Mul(p, s).String(), "/1") {
			t.Fatal("fractions", x, y)
		}
	}
}

func TestP15Division(t *testing.T) {
	if Quo("-7", "2") != "-4" || Rem("-7", "2") != "1" || Quo("-7", "-2") != "4" || Quo("1", "0") != "" || Rem("1/2", "1") != "" {
		t.Error("Quo, Rem")
	}
	if Gcd("0", "0") != "0" || Lcm("4", "-6") != "12" || Lcm("0", "5") != "0" || Gcd("1/2", "1") != "" || Lcm("1", "") != "" {
		t.Error("Gcd, Lcm")
	}
}

func TestP16Lists(t *testing.T) {
	if Sum() != "0" || Sum("1/2", "1/2") != "1" || Sum("1", "") != "" || Min() != "" || Max("1", "3", "2") != "3" || Min("1", "1/2") != "1/2" || Min("1", "x") != "" {
		t.Error("Sum, Min, Max")
	}
}
