package tests

import (
	"math"
	"runtime"
	"sync"
	"testing"
	"time"

	"envelope/api"
	"envelope/ivp"
	"envelope/watch"
)

func TestWatchWords(t *testing.T) {
	d := &dice{141}
	seen := map[api.Errno]int{}
	for range 400 {
		p := someProblem(d)
		p.Most = 1 + d.of(60)
		whole := ivp.Solve(p)
		n := len(whole.Outs)
		for _, most := range []int{math.MinInt, -1, 0, 1, n - 1, n, n + 1, math.MaxInt} {
			want, wantE := whole.Outs, whole.E
			if room := max(most, 0); n > room {
				want, wantE = want[:room], api.OK
			}
			outs, e := watch.Watch(p, most)
			if e != wantE || shown(outs, false) != shown(want, false) {
				t.Fatalf("P1401: %v, %d: %v, %v, not %v, %v", p, most, outs, e, want, wantE)
			}
			seen[e]++
		}
	}
	for _, e := range []api.Errno{api.OK, api.MaxSteps, api.OverCap} {
		if seen[e] < 20 {
			t.Errorf("the dice met %v", seen)
		}
	}
}

func TestWatchEnds(t *testing.T) {
	for _, most := range []int{-1, 0, 1, 1000} {
		if outs, e := watch.Watch(api.Problem{}, most); e != api.BadInput || len(outs) != 0 {
			t.Errorf("P1401: nothing, %d: %v, %v", most, outs, e)
		}
	}
	p := asking(problem(turning(), 1, 0), 1000)
	if outs, e := watch.Watch(p, 1000); e != api.OK || len(outs) != 1000 {
		t.Errorf("P1401: %d, %v", len(outs), e)
	}
	p.Cap = 1e-7 // ends by an error: what was told ahead holds, unless there are more
	outs, e := watch.Watch(p, 1000)
	if e != api.OverCap || len(outs) == 0 {
		t.Fatalf("P1401: %d, %v", len(outs), e)
	}
	if part, e := watch.Watch(p, len(outs)-1); e != api.OK || len(part) != len(outs)-1 {
		t.Errorf("P1401: one less: %d, %v", len(part), e)
	}
	if part, e := watch.Watch(p, len(outs)); e != api.OverCap || len(part) != len(outs) {
		t.Errorf("P1401: as many as there are: %d, %v", len(part), e)
	}
	p.Outs = nil
	if outs, e := watch.Watch(p, 0); e != api.OverCap || len(outs) != 0 {
		t.Errorf("P1401: no outputs: %v, %v", outs, e)
	}
}

func TestWatchRules(t *testing.T) {
	d := &dice{142}
	for range 100 {
		p := roomy(someProblem(d))
		pure(t, "Watch", []any{p}, func() []any { outs, e := watch.Watch(p, 3); return []any{outs, e} })
	}
	for range 500 {
		p := problem(wildTape(d))
		quiet(t, "Watch", func() { watch.Watch(p, d.of(5)-1) })
	}
	p := asking(problem(turning(), 1, 0), 50)
	want, _ := watch.Watch(p, 40)
	before := runtime.NumGoroutine()
	var all sync.WaitGroup
	for range 30 {
		all.Go(func() {
			if outs, _ := watch.Watch(p, 40); shown(outs, false) != shown(want, false) {
				t.Error("P3: watched beside others")
			}
		})
	}
	all.Wait()
	for range 100 { // one that has told all may still be on its way out
		if runtime.NumGoroutine() <= before {
			return
		}
		time.Sleep(10 * time.Millisecond)
	}
	t.Errorf("P1: %d are left running, %d were", runtime.NumGoroutine(), before)
}
