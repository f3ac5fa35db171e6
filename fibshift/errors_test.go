package fibshift_test

import (
	"testing"

	"fibshift/api"
	"fibshift/fibshift"
)

func TestP1NoNumberMakesACallPanic(t *testing.T) {
	inEach(t, func(t *testing.T, kind int) { callWithOddNumbers(table(t, kind, 30, rt(0, 0, 1), rt(255, 8, 2))) })
}

func TestP1NoNumberMakesACallPanicWhileTheTableMoves(t *testing.T) {
	betweenAny(t, func(t *testing.T, from, to int) {
		for steps := range 5 {
			x := moving(t, from, to, 2, 2, six()...)
			for range steps {
				x.Step()
			}
			callWithOddNumbers(x)
		}
	})
}

func callWithOddNumbers(x *fibshift.Table) {
	for _, a := range odd() {
		x.Move(a)
		x.Step()
		x.Lookup(a)
		x.SetBudget(a)
		for _, b := range odd() {
			p := px(a, b)
			x.Get(p)
			x.Delete(p)
			for _, c := range odd() {
				x.Add(p, c)
				x.Page(p, c)
				x.Apply([]api.Change{lay(a, b, c), lay(c, a, b)})
				fibshift.New(api.Config{Engine: a, Budget: b, Chunk: c, Log: a})
			}
		}
	}
	x.Cells()
	x.Advise()
	x.State()
	x.Abort()
}

func TestP1NoListMakesACallPanic(t *testing.T) {
	inEach(t, func(t *testing.T, kind int) {
		x := table(t, kind, 3)
		wantApply(t, x, 0, api.OK)
		for _, n := range []int{0, 1, 16} {
			x.Apply(make([]api.Change, n))
		}
		for _, n := range []int{17, 100000} {
			wantApply(t, x, 0, api.ErrMany, make([]api.Change, n)...)
		}
	})
}

func TestP1TheFirstErrorThatAppliesIsTold(t *testing.T) {
	// The budget is full, so that each new route is ErrRoom too.
	inEach(t, func(t *testing.T, kind int) { makeSeveralErrorsAtOnce(t, full(t, kind, rt(0, 0, 1))) })
}

func makeSeveralErrorsAtOnce(t *testing.T, x *fibshift.Table) {
	was := lookOf(t, x)
	for _, next := range []int{-1, 0, 256, 5} {
		wantErr(t, "Add of no prefix", x.Add(px(1, 7), next), api.ErrPrefix)
	}
	for _, next := range []int{-1, 0, 256} {
		wantErr(t, "Add of no Next", x.Add(px(1, 8), next), api.ErrNext)
	}
	wantErr(t, "Add", x.Add(px(1, 8), 5), api.ErrRoom)
	wantErr(t, "Delete of no prefix", x.Delete(px(1, 7)), api.ErrPrefix)
	wantErr(t, "Delete", x.Delete(px(1, 8)), api.ErrNone)

	wantApply(t, x, 0, api.ErrPrefix, lay(1, 7, -1))
	wantApply(t, x, 0, api.ErrPrefix, take(1, 7))
	wantApply(t, x, 0, api.ErrNext, lay(1, 8, -1))
	wantApply(t, x, 2, api.ErrNone, lay(1, 8, 1), lay(2, 8, 1), take(3, 8), lay(1, 7, 1))
	wantApply(t, x, 2, api.ErrNext, lay(1, 8, 1), lay(2, 8, 1), lay(3, 8, 256), lay(1, 7, 1))
	wantApply(t, x, 3, api.ErrRoom, lay(1, 8, 1), lay(2, 8, 1), lay(3, 8, 1))
	many := make([]api.Change, api.MaxBatch+1)
	many[0] = lay(1, 7, -1)
	wantApply(t, x, 0, api.ErrMany, many...)

	if l, e := x.Page(px(1, 7), -1); e != api.ErrPrefix || len(l) != 0 {
		t.Errorf("Page of no prefix and no number = %v, %d", l, e)
	}
	wantLook(t, x, was)
}

func TestP1WithAnErrorTheResultsAreZeroAndNothingIsChanged(t *testing.T) {
	inEach(t, func(t *testing.T, kind int) {
		makeEachError(t, full(t, kind, rt(0, 0, 1), rt(128, 1, 2)))
		if r, e := table(t, kind, 2).Lookup(0); r != (api.Route{}) || e != api.ErrNone {
			t.Errorf("Lookup without routes = %+v, %d", r, e)
		}
	})
}

func makeEachError(t *testing.T, x *fibshift.Table) {
	was := lookOf(t, x)
	for _, p := range []api.Prefix{px(1, 7), px(64, 2)} {
		if n, e := x.Get(p); n != 0 || e == api.OK {
			t.Errorf("Get(%+v) = %d, %d", p, n, e)
		}
	}
	for _, n := range []int{-1, 33} {
		if l, e := x.Page(px(0, 0), n); l != nil || e != api.ErrArg {
			t.Errorf("Page of %d = %v, %d", n, l, e)
		}
	}
	if l, e := x.Page(px(1, 7), 2); l != nil || e != api.ErrPrefix {
		t.Errorf("Page of no prefix = %v, %d", l, e)
	}
	if r, e := x.Lookup(256); r != (api.Route{}) || e != api.ErrAddr {
		t.Errorf("Lookup(256) = %+v, %d", r, e)
	}
	wantErr(t, "Add", x.Add(px(64, 2), 3), api.ErrRoom)
	wantErr(t, "Add", x.Add(px(0, 0), 256), api.ErrNext)
	wantErr(t, "Delete", x.Delete(px(0, 1)), api.ErrNone)
	wantErr(t, "SetBudget", x.SetBudget(0), api.ErrArg)
	wantLook(t, x, was)
	wantRoutes(t, x, rt(0, 0, 1), rt(128, 1, 2))
}
