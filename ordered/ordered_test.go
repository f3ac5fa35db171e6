package ordered_test

import (
	"cmp"
	"slices"
	"strings"
	"testing"

	"fibshift/ordered"
)

func filled(keys ...int) *ordered.Store[int, string] {
	s := ordered.New[int, string](cmp.Compare[int])
	for _, k := range keys {
		s.Put(k, strings.Repeat("x", k))
	}
	return s
}

func keysFrom[K, V any](s *ordered.Store[K, V], from K) []K {
	var l []K
	for k := range s.From(from) {
		l = append(l, k)
	}
	return l
}

func TestEmpty(t *testing.T) {
	s := filled()
	if v, found := s.Get(1); v != "" || found {
		t.Errorf("Get = %q, %v", v, found)
	}
	if v, had := s.Remove(1); v != "" || had {
		t.Errorf("Remove = %q, %v", v, had)
	}
	if s.Len() != 0 || len(keysFrom(s, 0)) != 0 {
		t.Error("there is something in it")
	}
}

func TestPutGetRemove(t *testing.T) {
	s := filled(3, 1, 2)
	if v, had := s.Put(2, "new"); v != "xx" || !had {
		t.Errorf("Put in place of another = %q, %v", v, had)
	}
	if v, had := s.Put(4, "four"); v != "" || had {
		t.Errorf("Put of a new key = %q, %v", v, had)
	}
	if v, found := s.Get(2); v != "new" || !found {
		t.Errorf("Get = %q, %v", v, found)
	}
	if v, had := s.Remove(2); v != "new" || !had {
		t.Errorf("Remove = %q, %v", v, had)
	}
	if v, found := s.Get(2); v != "" || found {
		t.Errorf("Get of a removed key = %q, %v", v, found)
	}
	if got := keysFrom(s, 0); !slices.Equal(got, []int{1, 3, 4}) || s.Len() != 3 {
		t.Errorf("keys %v, Len %d", got, s.Len())
	}
}

func TestLastIsTheKeysOrTheOneAheadOfIt(t *testing.T) {
	s := filled(7, 5, 3)
	for _, c := range []struct {
		key  int
		want string
	}{{2, ""}, {3, "xxx"}, {4, "xxx"}, {5, "xxxxx"}, {6, "xxxxx"}, {7, "xxxxxxx"}, {99, "xxxxxxx"}} {
		if v, found := s.Last(c.key); v != c.want || found != (c.want != "") {
			t.Errorf("Last(%d) = %q, %v, want %q", c.key, v, found, c.want)
		}
	}
	if v, found := filled().Last(1); v != "" || found {
		t.Errorf("Last of an empty store = %q, %v", v, found)
	}
}

func TestFromBeginsAtTheKeyOrBehindIt(t *testing.T) {
	s := filled(7, 5, 3)
	for _, c := range []struct {
		from int
		want []int
	}{{2, []int{3, 5, 7}}, {3, []int{3, 5, 7}}, {4, []int{5, 7}}, {7, []int{7}}, {8, nil}} {
		if got := keysFrom(s, c.from); !slices.Equal(got, c.want) {
			t.Errorf("From(%d) = %v, want %v", c.from, got, c.want)
		}
	}
}

func TestFromMayBeStoppedAndBegunAnew(t *testing.T) {
	s := filled(1, 2, 3)
	walk := s.From(1)
	for range 2 {
		calls := 0
		walk(func(int, string) bool { calls++; return calls < 2 })
		if calls != 2 {
			t.Errorf("yield was called %d times", calls)
		}
	}
}

func TestTheOrderIsTheOneHandedIn(t *testing.T) {
	s := ordered.New[string, int](func(a, b string) int {
		return cmp.Or(cmp.Compare(len(b), len(a)), strings.Compare(strings.ToLower(a), strings.ToLower(b)))
	})
	for i, k := range []string{"b", "ccc", "A", "aaa", "dd"} {
		s.Put(k, i)
	}
	if v, had := s.Put("B", 9); v != 0 || !had {
		t.Errorf("Put of the same key = %d, %v", v, had)
	}
	if got := keysFrom(s, "zzz"); !slices.Equal(got, []string{"dd", "A", "b"}) {
		t.Errorf("keys %v", got)
	}
}
