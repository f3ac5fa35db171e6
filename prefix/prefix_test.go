package prefix_test

import (
	"math"
	"slices"
	"testing"

	"fibshift/api"
	"fibshift/prefix"
)

func all() []api.Prefix {
	var l []api.Prefix
	for length := 0; length <= api.Bits; length++ {
		for addr := 0; addr < 256; addr += 256 >> length {
			l = append(l, api.Prefix{Addr: addr, Len: length})
		}
	}
	return l
}

func TestValidIsEveryPrefixAndNoOther(t *testing.T) {
	are := map[api.Prefix]int{}
	for _, p := range all() {
		are[p] = 1
	}
	for length := -300; length <= 300; length++ {
		for addr := -600; addr <= 600; addr++ {
			p := api.Prefix{Addr: addr, Len: length}
			if got, want := prefix.Valid(p), are[p] == 1; got != want {
				t.Fatalf("Valid(%+v) = %v", p, got)
			}
		}
	}
}

func TestValidAtTheEndsOfInt(t *testing.T) {
	ends := []int{math.MinInt, math.MinInt + 1, -256, 256, math.MaxInt - 255, math.MaxInt}
	for _, n := range ends {
		for _, p := range []api.Prefix{{Addr: n}, {Addr: n, Len: 8}, {Len: n}, {Addr: n, Len: n}} {
			if prefix.Valid(p) {
				t.Errorf("Valid(%+v)", p)
			}
		}
	}
}

func TestIsAddress(t *testing.T) {
	for n := -300; n <= 300; n++ {
		if got, want := prefix.IsAddress(n), n >= 0 && n <= 255; got != want {
			t.Errorf("IsAddress(%d) = %v", n, got)
		}
	}
	if prefix.IsAddress(math.MinInt) || prefix.IsAddress(math.MaxInt) {
		t.Error("an end of int is no address")
	}
}

func TestCompareOrdersByAddrThenLen(t *testing.T) {
	l := all()
	slices.SortFunc(l, prefix.Compare)
	if l[0] != prefix.First() {
		t.Errorf("the first is %+v", l[0])
	}
	for i, b := range l[1:] {
		a := l[i]
		if a.Addr > b.Addr || a.Addr == b.Addr && a.Len >= b.Len {
			t.Fatalf("%+v stands ahead of %+v", a, b)
		}
		if prefix.Compare(a, b) >= 0 || prefix.Compare(b, a) <= 0 || prefix.Compare(a, a) != 0 {
			t.Fatalf("Compare of %+v and %+v", a, b)
		}
	}
}

func TestCovering(t *testing.T) {
	for addr := range 256 {
		for length := 0; length <= api.Bits; length++ {
			p := prefix.Covering(addr, length)
			if !prefix.Valid(p) || p.Len != length || addr < p.Addr || addr >= p.Addr+256>>length {
				t.Fatalf("Covering(%d, %d) = %+v", addr, length, p)
			}
		}
	}
}

func TestBehind(t *testing.T) {
	for _, p := range all() {
		last := prefix.Behind(p) - 1
		if prefix.Covering(last, p.Len) != p || prefix.IsAddress(last+1) && prefix.Covering(last+1, p.Len) == p {
			t.Fatalf("Behind(%+v) = %d", p, last+1)
		}
	}
}

func TestSideAndHalf(t *testing.T) {
	for _, p := range all() {
		if p.Len == api.Bits {
			continue
		}
		for addr := p.Addr; addr < prefix.Behind(p); addr++ {
			if half := prefix.Half(p, prefix.Side(addr, p.Len)); half != prefix.Covering(addr, p.Len+1) {
				t.Fatalf("%d is in half %+v of %+v", addr, half, p)
			}
		}
		if prefix.Half(p, 0) == prefix.Half(p, 1) {
			t.Fatalf("the halves of %+v are one", p)
		}
	}
}

func TestOf(t *testing.T) {
	if p := prefix.Of(api.Route{Addr: 128, Len: 3, Next: 9}); p != (api.Prefix{Addr: 128, Len: 3}) {
		t.Errorf("Of = %+v", p)
	}
}
