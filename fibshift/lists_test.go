package fibshift_test

import (
	"slices"
	"testing"

	"fibshift/api"
	"fibshift/fibshift"
)

func TestP2ATableHangsOnWhatWasDoneWithItAlone(t *testing.T) {
	inEach(t, func(t *testing.T, kind int) {
		x, y := table(t, kind, 3, rt(0, 0, 1)), table(t, kind, 15)
		was := lookOf(t, x)
		wantErr(t, "Add", y.Add(px(0, 0), 2), api.OK)
		wantErr(t, "Add", y.Add(px(1, 8), 3), api.OK)
		wantErr(t, "SetBudget", y.SetBudget(7), api.OK)
		wantRoutes(t, x, rt(0, 0, 1))
		wantLook(t, x, was)
		wantRoutes(t, y, rt(0, 0, 2), rt(1, 8, 3))
		wantCells(t, y, need(kind, rt(0, 0, 2), rt(1, 8, 3)), 7)
	})
}

func TestP2AskingChangesNothing(t *testing.T) {
	inEach(t, func(t *testing.T, kind int) {
		x := table(t, kind, 5, rt(0, 0, 1), rt(128, 1, 2))
		for range 3 {
			if n, e := x.Get(px(128, 1)); n != 2 || e != api.OK {
				t.Errorf("Get = %d, %d", n, e)
			}
			if r, e := x.Lookup(200); r != rt(128, 1, 2) || e != api.OK {
				t.Errorf("Lookup = %+v, %d", r, e)
			}
			wantPage(t, x, px(0, 0), 1, rt(0, 0, 1))
			wantCells(t, x, [...]int{0, 2, 2, 4}[kind], 5)
			if n := x.Advise(); n != api.List {
				t.Errorf("Advise = %d", n)
			}
		}
	})
}

func TestP2AListHandedInIsNeitherWrittenIntoNorKept(t *testing.T) {
	for _, c := range []struct {
		name string
		list []api.Change
		e    api.Errno
		want []api.Route
	}{
		{"made", []api.Change{lay(128, 1, 5), lay(128, 1, 6), lay(0, 0, 7), take(0, 0)}, api.OK, []api.Route{rt(128, 1, 6)}},
		{"taken back", []api.Change{lay(128, 1, 5), lay(0, 0, 7), take(0, 1)}, api.ErrNone, nil},
		{"no room", []api.Change{lay(1, 8, 5), lay(2, 8, 6), lay(3, 8, 7), lay(0, 0, 7)}, api.ErrRoom, nil},
		{"many", make([]api.Change, api.MaxBatch+1), api.ErrMany, nil},
	} {
		inEach(t, func(t *testing.T, kind int) {
			x := table(t, kind, 3)
			room := append(slices.Clone(c.list), lay(-7, -8, -9), lay(-4, -5, -6))
			was := slices.Clone(room)
			_, e := x.Apply(room[:len(c.list)])
			wantErr(t, "Apply, "+c.name, e, c.e)
			if !slices.Equal(room, was) {
				t.Errorf("the list and what stands behind it: %+v, was %+v", room, was)
			}
			for i := range room {
				room[i] = lay(3, 8, 3)
			}
			wantRoutes(t, x, c.want...)
		})
	}
}

func TestP2AListHandedInWhileTheTableMovesIsNeitherWrittenIntoNorKept(t *testing.T) {
	betweenAny(t, func(t *testing.T, from, to int) {
		x := catching(t, from, to, 2, 4, rt(0, 0, 1), rt(128, 1, 2))
		list := []api.Change{lay(0, 0, 5), lay(64, 2, 6), take(128, 1), lay(-7, -8, -9)}
		was := slices.Clone(list)
		wantApply(t, x, 3, api.OK, list[:3]...)
		if !slices.Equal(list, was) {
			t.Errorf("the list and what stands behind it: %+v, was %+v", list, was)
		}
		for i := range list {
			list[i] = lay(3, 8, 3)
		}
		wantSteps(t, x, api.Caught, api.Cut)
		wantRoutes(t, x, rt(0, 0, 5), rt(64, 2, 6))
		wantUse(t, x, need(to, rt(0, 0, 5), rt(64, 2, 6)), 0, 0)
	})
}

func TestP2TablesThatMoveHaveNothingInCommon(t *testing.T) {
	betweenAny(t, func(t *testing.T, from, to int) {
		x := moving(t, from, to, 2, 4, six()...)
		y := moving(t, from, to, 2, 4, six()...)
		wantSteps(t, x, api.Copied)
		was := lookOf(t, x)
		wantSteps(t, y, api.Copied, api.Copied)
		wantErr(t, "Add", y.Add(px(0, 0), 9), api.OK)
		wantLook(t, x, was)
		wantSteps(t, y, api.Copied, api.Copied, api.Cut)
		wantLook(t, x, was)
		wantErr(t, "Move", y.Move(from), api.OK)
		wantErr(t, "Abort", y.Abort(), api.OK)
		wantLook(t, x, was)
		wantSteps(t, x, api.Copied, api.Copied, api.Copied, api.Cut)
		wantRoutes(t, x, six()...)
	})
}

func TestP2AskingChangesNothingWhileTheTableMoves(t *testing.T) {
	betweenAny(t, func(t *testing.T, from, to int) {
		for _, steps := range []int{0, 1, 4} {
			x := moving(t, from, to, 2, 4, six()...)
			for range steps {
				wantSteps(t, x, api.Copied)
			}
			wantErr(t, "Add", x.Add(px(0, 0), 9), api.OK)
			was := lookOf(t, x)
			wantLook(t, x, was)
			wantLook(t, x, was)
		}
	})
}

func TestP2AListThatComesOutIsTheCallers(t *testing.T) {
	in := []api.Route{rt(0, 0, 1), rt(0, 8, 2), rt(128, 1, 3)}
	inEach(t, func(t *testing.T, kind int) { scrawlIntoPages(t, table(t, kind, 20, in...), in) })
}

func scrawlIntoPages(t *testing.T, x *fibshift.Table, in []api.Route) {
	scrawl := func(l []api.Route, mark int) {
		l = l[:cap(l)]
		for i := range l {
			l[i] = rt(mark, mark, mark)
		}
	}
	var pages [][]api.Route
	for _, n := range []int{3, 3, 2, 1, 32} {
		page, e := x.Page(px(0, 0), n)
		if want := in[:min(n, 3)]; e != api.OK || !slices.Equal(page, want) {
			t.Fatalf("Page of %d = %+v, %d", n, page, e)
		}
		scrawl(page, -1)
		pages = append(pages, page)
	}
	for i := range pages {
		scrawl(pages[i], i)
	}
	for i, page := range pages {
		for _, r := range page[:cap(page)] {
			if r != rt(i, i, i) {
				t.Fatalf("page %d shares room with another: %+v", i, page[:cap(page)])
			}
		}
	}
	wantRoutes(t, x, in...)
	if r, e := x.Lookup(0); r != rt(0, 8, 2) || e != api.OK {
		t.Errorf("Lookup = %+v, %d", r, e)
	}
}

func TestP2APageIsNotChangedByLaterCalls(t *testing.T) {
	inEach(t, func(t *testing.T, kind int) {
		x := table(t, kind, 9, rt(0, 0, 1), rt(128, 1, 3))
		page, _ := x.Page(px(0, 0), 2)
		wantErr(t, "Add", x.Add(px(0, 0), 9), api.OK)
		wantErr(t, "Delete", x.Delete(px(128, 1)), api.OK)
		wantErr(t, "Add", x.Add(px(64, 2), 4), api.OK)
		if !slices.Equal(page, []api.Route{rt(0, 0, 1), rt(128, 1, 3)}) {
			t.Errorf("the page is now %+v", page)
		}
	})
}
