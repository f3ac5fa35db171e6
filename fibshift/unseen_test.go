package fibshift_test

import (
	"slices"
	"testing"

	"fibshift/api"
	"fibshift/fibshift"
)

func TestP15WhatIsAnsweredDoesNotShowAMove(t *testing.T) {
	betweenAny(t, func(t *testing.T, from, to int) {
		moves, backs := 0, 0
		for seed := range 12 {
			d := dice(seed)
			c := api.Config{Engine: from, Budget: api.MaxBudget, Chunk: 1 + d.below(4), Log: 1 + d.below(16)}
			x, still := tableOf(t, c, six()...), tableOf(t, c, six()...)
			for range 120 {
				if d.below(3) == 0 {
					x.Move(from + to - x.State().Engine)
				}
				if d.below(40) == 0 {
					x.Abort()
				}
				for range d.below(4) {
					x.Step()
					wantSameAnswers(t, x, still)
				}
				changeBoth(t, x, still, &d)
				wantSameAnswers(t, x, still)
			}
			moves += x.State().Moves
			backs += x.State().Backs
		}
		if moves < 50 || backs < 20 {
			t.Errorf("there were but %d cutovers, and %d were rolled back", moves, backs)
		}
	})
}

// changeBoth makes the same calls, wrong ones among them; there are so few routes that there is room in each engine.
func changeBoth(t *testing.T, x, still *fibshift.Table, d *dice) {
	t.Helper()
	var l []api.Change
	for range d.below(3) {
		l = append(l, d.change())
	}
	if in := routesOf(t, still); len(in) > 18 {
		l = nil
		for _, r := range in[d.below(8):][:8] {
			l = append(l, take(r.Addr, r.Len))
		}
	}
	n, e := still.Apply(l)
	wantApply(t, x, n, e, l...)
	c := d.change()
	p := px(c.Addr, c.Len)
	if d.below(2) == 0 {
		wantErr(t, "Delete", x.Delete(p), still.Delete(p))
	} else {
		wantErr(t, "Add", x.Add(p, c.Next), still.Add(p, c.Next))
	}
}

func wantSameAnswers(t *testing.T, x, still *fibshift.Table) {
	t.Helper()
	got, want := lookOf(t, x), lookOf(t, still)
	if !slices.Equal(got.routes, want.routes) || got.best != want.best || got.advice != want.advice {
		t.Fatalf("of one that moves: %+v\nof one that does not: %+v", got, want)
	}
	for _, p := range []api.Prefix{px(0, 0), px(0, 1), px(128, 1), px(20, 8), px(1, 7), px(0, 9)} {
		n, e := x.Get(p)
		if wantN, wantE := still.Get(p); n != wantN || e != wantE {
			t.Errorf("Get(%+v) = %d, %d, want %d, %d", p, n, e, wantN, wantE)
		}
		page, e := x.Page(p, 3)
		if wantPage, wantE := still.Page(p, 3); !slices.Equal(page, wantPage) || e != wantE {
			t.Errorf("Page(%+v, 3) = %+v, %d, want %+v, %d", p, page, e, wantPage, wantE)
		}
	}
	for _, addr := range []int{-1, 256} {
		_, e := x.Lookup(addr)
		wantErr(t, "Lookup", e, api.ErrAddr)
	}
}

func TestP15ErrRoomAsksForTheEngineThatItHas(t *testing.T) {
	betweenAny(t, func(t *testing.T, from, to int) {
		in := six()
		more := append(six(), rt(255, 8, 9))
		x := catching(t, from, to, 4, 4, in...)
		wantSteps(t, x, api.Cut)
		wantBudget(t, x, need(to, more...)-1)
		wantErr(t, "Add", x.Add(px(255, 8), 9), api.ErrRoom)
		wantBudget(t, x, need(to, more...))
		wantErr(t, "Add", x.Add(px(255, 8), 9), api.OK)
		wantRoutes(t, x, more...)
	})
}

func TestP15TheOldRoutesAreGoneBehindTheCutover(t *testing.T) {
	betweenAny(t, func(t *testing.T, from, to int) {
		x := catching(t, from, to, 4, 4, six()...)
		wantSteps(t, x, api.Cut)
		wantErr(t, "Delete", x.Delete(px(0, 0)), api.OK)
		wantErr(t, "Add", x.Add(px(64, 2), 9), api.OK)
		in := slices.Insert(six()[1:], 3, rt(64, 2, 9))
		wantRoutes(t, x, in...)
		wantErr(t, "Move back", x.Move(from), api.OK)
		wantSteps(t, x, api.Copied, api.Copied, api.Cut)
		wantRoutes(t, x, in...)
		wantUse(t, x, need(from, in...), 0, 0)
		wantState(t, x, api.State{Engine: from, Moves: 2})
	})
}

// stepsToTheEnd makes Steps, with changes between any two, until one answers Cut or Back; it tells how many, and the last answer.
func stepsToTheEnd(t *testing.T, x *fibshift.Table, bound int, change func()) (int, int) {
	t.Helper()
	for n := 1; n <= bound; n++ {
		answer := x.Step()
		if answer == api.Cut || answer == api.Back {
			return n, answer
		}
		change()
		if x.State().Target == 0 {
			return n, api.Idle
		}
	}
	t.Errorf("no end within %d Steps: %+v, %+v", bound, x.State(), x.Cells())
	return bound, api.Idle
}

func TestP16TheBoundWithRoutesThatComeBehindTheCursor(t *testing.T) {
	betweenAny(t, func(t *testing.T, from, to int) {
		for chunk := 1; chunk <= api.MaxChunk; chunk++ {
			for n := range 5 {
				x := tableOf(t, api.Config{Engine: from, Budget: api.MaxBudget, Chunk: chunk, Log: 1})
				for i := range n {
					wantErr(t, "Add", x.Add(px(i, 8), 1), api.OK)
				}
				wantErr(t, "Move", x.Move(to), api.OK)
				next := n
				_, answer := stepsToTheEnd(t, x, n+1+3, func() {
					for range chunk - 1 {
						if x.State().Phase == api.Copying {
							wantErr(t, "Add", x.Add(px(next, 8), 1), api.OK)
							next++
						}
					}
				})
				if answer != api.Cut {
					t.Errorf("chunk %d, %d routes: %d", chunk, n, answer)
				}
				if got := len(routesOf(t, x)); got != next {
					t.Errorf("%d routes, want %d", got, next)
				}
			}
		}
	})
}

func TestP16TheBoundWithALogThatIsFilledAgain(t *testing.T) {
	betweenAny(t, func(t *testing.T, from, to int) {
		for chunk := 1; chunk <= api.MaxChunk; chunk++ {
			for _, limit := range []int{1, 2, 7, 8, 9, 15, 16} {
				// As many as Len 5 has; each gets another Next in its turn, so that what is changed is not in the log.
				x := tableOf(t, api.Config{Engine: from, Budget: api.MaxBudget, Chunk: chunk, Log: limit})
				for i := range 32 {
					wantErr(t, "Add", x.Add(px(8*i, 5), 1), api.OK)
				}
				wantErr(t, "Move", x.Move(to), api.OK)
				turn := 0
				n, answer := stepsToTheEnd(t, x, 32+limit+3, func() {
					for range chunk - 1 {
						if p := px(8*(turn%32), 5); x.Cells().Logged < limit {
							wantErr(t, "Add", x.Add(p, 2+turn/32), api.OK)
							turn++
						}
					}
				})
				if answer != api.Cut {
					t.Errorf("chunk %d, log %d: %d behind %d Steps, %+v", chunk, limit, answer, n, x.State())
				}
			}
		}
	})
}

func TestP16TheBoundWithDrawnChanges(t *testing.T) {
	betweenAny(t, func(t *testing.T, from, to int) {
		cuts := 0
		for seed := range 150 {
			d := dice(seed)
			c := api.Config{Engine: from, Budget: 40 + d.below(361), Chunk: 1 + d.below(8), Log: 1 + d.below(16)}
			x := tableOf(t, c)
			for range d.below(20) {
				x.Add(d.prefix(), 1)
			}
			if x.Move(to) != api.OK {
				continue
			}
			_, answer := stepsToTheEnd(t, x, len(routesOf(t, x))+c.Log+3, func() {
				for range d.below(c.Chunk) {
					x.Apply([]api.Change{d.change()})
				}
			})
			if answer == api.Cut {
				cuts++
			}
		}
		if cuts < 20 {
			t.Errorf("there were but %d cutovers", cuts)
		}
	})
}
