package cluster

import (
	"fmt"
	"math/rand"
	"testing"

	"trireme/api"
	"trireme/table"
	"trireme/vote"
)

// script lets things happen to a world, and looks at what must hold behind each of them.
type script struct {
	t       *testing.T
	w       *World
	rnd     *rand.Rand
	nodes   int
	clients int
	event   int
	leaders []leader // each (view, head) by which a node led
	views   []uint64 // behind each event: the greatest View that an up node had, so far
}

type leader struct {
	at, node int
	view     uint64
	head     api.Hash
}

func begin(t *testing.T, seed int64, nodes, clients int) *script {
	t.Helper()
	w, e := New(nodes, clients)
	if w == nil || e != api.OK {
		t.Fatal(e)
	}
	return &script{t: t, w: w, rnd: rand.New(rand.NewSource(seed)), nodes: nodes, clients: clients}
}

func (s *script) do(e api.Event) api.Errno {
	r := s.w.Do(e)
	top := uint64(0)
	if s.event > 0 {
		top = s.views[s.event-1]
	}
	for i := range s.nodes {
		u, ok := s.w.Super(i)
		if !ok {
			continue
		}
		top = max(top, u.View)
		if u.Normal == u.View && vote.Primary(u.View, s.nodes) == i {
			l := leader{s.event, i, u.View, u.Head}
			if n := len(s.leaders); n == 0 || s.leaders[n-1].head != l.head || s.leaders[n-1].view != l.view {
				s.leaders = append(s.leaders, l)
			}
		}
	}
	s.views = append(s.views, top)
	s.event++
	return r
}

var paths = []string{"/", "/a", "/b", "/a/a", "/a/b", "/b/c", "/c", "s", "t", "no/path"}

func (s *script) op() api.Op {
	return api.Op{Kind: 1 + s.rnd.Intn(13), Path: paths[s.rnd.Intn(len(paths))], To: paths[s.rnd.Intn(len(paths))], Off: s.rnd.Intn(100), N: s.rnd.Intn(190), Data: make([]byte, s.rnd.Intn(65))}
}

func (s *script) up(node int) bool {
	_, ok := s.w.Super(node)
	return ok
}

func (s *script) fates() []int {
	list := make([]int, s.rnd.Intn(60))
	for i := range list {
		list[i] = s.rnd.Intn(1<<20) - 1000
	}
	return list
}

// wild lets anything happen, but keeps the list of messages short.
func (s *script) wild(events int, crashes bool) {
	for range events {
		k := s.rnd.Intn(max(s.w.Len(), 1))
		switch n := s.rnd.Intn(100); {
		case n < 8:
			s.do(api.Event{Kind: api.EvCall, Who: s.rnd.Intn(s.clients), Op: s.op()})
		case n < 10:
			s.do(api.Event{Kind: api.EvAsk, Who: s.rnd.Intn(s.clients)})
		case n < 20:
			s.do(api.Event{Kind: api.EvTick, Who: s.rnd.Intn(s.nodes)})
		case n < 25 || s.w.Len() > 200:
			s.do(api.Event{Kind: api.EvDrop, K: k})
		case n < 28:
			s.do(api.Event{Kind: api.EvCopy, K: k})
		case crashes && n < 30:
			s.do(api.Event{Kind: api.EvPower, Who: s.rnd.Intn(s.nodes), K: s.rnd.Intn(30)})
		case crashes && n < 31:
			s.do(api.Event{Kind: api.EvCrash, Who: s.rnd.Intn(s.nodes), Fates: s.fates()})
		case crashes && n < 35:
			node := s.rnd.Intn(s.nodes)
			if !s.up(node) {
				s.do(api.Event{Kind: api.EvCrash, Who: node, Fates: s.fates()})
				if e := s.do(api.Event{Kind: api.EvOpen, Who: node}); e != api.OK {
					s.t.Fatalf("Open: %v", e)
				}
			}
		case n < 60:
			s.do(api.Event{Kind: api.EvDeliver, K: 0})
		default:
			s.do(api.Event{Kind: api.EvDeliver, K: k})
		}
	}
}

// parted lets only some of the nodes hear of each other; the others tick alone. Clients ask whom they can.
func (s *script) parted(events int) {
	side := map[int]int{}
	for i := range s.nodes {
		side[i] = s.rnd.Intn(2)
	}
	for c := range s.clients {
		side[api.FirstClient+c] = s.rnd.Intn(2)
	}
	for range events {
		switch n := s.rnd.Intn(100); {
		case n < 6:
			s.do(api.Event{Kind: api.EvCall, Who: s.rnd.Intn(s.clients), Op: s.op()})
		case n < 8:
			s.do(api.Event{Kind: api.EvAsk, Who: s.rnd.Intn(s.clients)})
		case n < 25:
			s.do(api.Event{Kind: api.EvTick, Who: s.rnd.Intn(s.nodes)})
		default:
			m, ok := s.w.Peek(0)
			if ok && side[m.From] == side[m.To] {
				s.do(api.Event{Kind: api.EvDeliver})
			} else if ok && s.rnd.Intn(4) == 0 && s.w.Len() < 300 {
				s.do(api.Event{Kind: api.EvCopy}) // it may come much later
				s.do(api.Event{Kind: api.EvDrop})
			} else {
				s.do(api.Event{Kind: api.EvDrop})
			}
		}
	}
}

// calm opens so many nodes that more than half are up, without an end of power, and then lets all of them go on for some rounds; it gives how many were needed.
func (s *script) calm() int {
	want := vote.Majority(s.nodes) + s.rnd.Intn(s.nodes-vote.Majority(s.nodes)+1)
	for _, node := range s.rnd.Perm(s.nodes) {
		if s.up(node) {
			s.do(api.Event{Kind: api.EvPower, Who: node, K: -1})
			want--
		}
	}
	for _, node := range s.rnd.Perm(s.nodes) {
		if want > 0 && !s.up(node) {
			s.do(api.Event{Kind: api.EvCrash, Who: node, Fates: s.fates()})
			if e := s.do(api.Event{Kind: api.EvOpen, Who: node}); e != api.OK {
				s.t.Fatalf("Open: %v", e)
			}
			want--
		}
	}
	for round := range 80 {
		if s.settled() {
			return round
		}
		for node := range s.nodes {
			s.do(api.Event{Kind: api.EvTick, Who: node})
		}
		for c := range s.clients {
			s.do(api.Event{Kind: api.EvAsk, Who: c})
		}
		for n := 0; s.w.Len() > 0; n++ {
			if n > 100000 {
				s.t.Fatal("messages without an end")
			}
			k := 0
			if s.rnd.Intn(2) == 0 {
				k = s.rnd.Intn(s.w.Len())
			}
			s.do(api.Event{Kind: api.EvDeliver, K: k})
		}
	}
	if !s.settled() {
		for i := range s.nodes {
			u, ok := s.w.Super(i)
			s.t.Logf("%d: %v, %t, %d", i, u, ok, s.w.Commit(i))
		}
		s.t.Fatal("not settled after 80 rounds")
	}
	return 80
}

// settled: all calls are answered, and all nodes that are up have one head, View and Normal, and know it to be committed.
func (s *script) settled() bool {
	for _, d := range s.w.Calls() {
		if d.End < 0 {
			return false
		}
	}
	var first *api.Super
	for i := range s.nodes {
		u, ok := s.w.Super(i)
		if !ok {
			continue
		}
		if first == nil {
			first = &u
		}
		if u.Head != first.Head || u.View != first.View || u.Normal != first.Normal || s.w.Commit(i) != u.Gen {
			return false
		}
	}
	return true
}

// history gives a generation's history, the first one first.
func (s *script) history(h api.Hash) []api.Hash {
	var list []api.Hash
	for {
		r, ok := s.w.Record(h)
		if !ok {
			s.t.Fatalf("no record of %x", h)
		}
		list = append(list, h)
		if r.Gen == 0 {
			break
		}
		h = r.Parent
	}
	for i, k := 0, len(list)-1; i < k; i, k = i+1, k-1 {
		list[i], list[k] = list[k], list[i]
	}
	return list
}

// agreed looks at P26.4 to P26.6, and gives how many calls were answered.
func (s *script) agreed() int {
	if s.w.Clash() {
		s.t.Fatal("Clash")
	}
	var best api.Known
	for _, x := range s.w.Sights() {
		if x.Known.Gen >= best.Gen {
			best = x.Known
		}
	}
	if best.Gen == 0 {
		return 0
	}
	line := s.history(best.Head)
	for _, x := range s.w.Sights() {
		if line[x.Known.Gen] != x.Known.Head {
			s.t.Fatal("two Sights don't agree")
		}
	}
	calls := map[string]api.Done{}
	for _, d := range s.w.Calls() {
		calls[fmt.Sprint(d.Call.Client, " ", d.Call.Number)] = d
	}
	w, at, answered := table.New(), map[string]int{}, 0
	lastStart := -1
	for gen, h := range line[1:] {
		r, _ := s.w.Record(h)
		name := fmt.Sprint(r.Call.Client, " ", r.Call.Number)
		d, ok := calls[name]
		if _, twice := at[name]; !ok || twice || fmt.Sprint(d.Call) != fmt.Sprint(r.Call) {
			s.t.Fatalf("generation %d: %v isn't a call, or stands there twice", gen+1, r.Call)
		}
		at[name] = gen + 1
		var a api.Answer
		w, a, _ = table.Do(w, r.Call, uint64(gen+1))
		if d.End >= 0 {
			answered++
			if fmt.Sprint(a) != fmt.Sprint(d.Answer) {
				s.t.Fatalf("generation %d: %v, not %v", gen+1, d.Answer, a)
			}
			if d.End < lastStart {
				s.t.Fatalf("generation %d stands behind a call that began when it was answered", gen+1)
			}
		}
		lastStart = max(lastStart, d.Start)
	}
	for name, d := range calls {
		if _, ok := at[name]; d.End >= 0 && !ok {
			s.t.Fatalf("%v was answered and isn't there", d)
		}
	}
	s.lasting(calls, at, line)
	return answered
}

// lasting looks at P26.5.
func (s *script) lasting(calls map[string]api.Done, at map[string]int, line []api.Hash) {
	for name, d := range calls {
		if d.End < 0 {
			continue
		}
		gen := uint64(at[name])
		for _, l := range s.leaders {
			if l.view <= s.views[d.End] {
				continue
			}
			r, _ := s.w.Record(l.head)
			if r.Gen < gen {
				s.t.Fatalf("%v: the leader of view %d has Gen %d", d, l.view, r.Gen)
			}
			h := l.head
			for ; r.Gen > gen; r, _ = s.w.Record(h) {
				h = r.Parent
			}
			if h != line[gen] {
				s.t.Fatalf("%v: the leader of view %d has another history", d, l.view)
			}
		}
	}
}

// seeds is how many scripts are tried for each number of nodes.
const seeds = int64(60)

// P26.4 to P26.7
func TestWildScripts(t *testing.T) {
	for _, nodes := range []int{1, 3, 5, 7} {
		t.Run(fmt.Sprint(nodes), func(t *testing.T) {
			t.Parallel()
			answered, rounds := 0, 0
			for seed := range seeds {
				s := begin(t, seed, nodes, 1+int(seed)%4)
				for range 3 {
					s.wild(300, seed%5 > 0)
					s.parted(200)
					s.wild(50, seed%5 > 0)
					rounds = max(rounds, s.calm())
					s.agreed()
				}
				answered += s.agreed()
			}
			t.Logf("%d nodes: %d calls answered, at most %d rounds", nodes, answered, rounds)
			if answered < 500 {
				t.Errorf("only %d calls were answered", answered)
			}
		})
	}
}

// P2: two runs of the same script give the same answers.
func TestTwoRuns(t *testing.T) {
	run := func() string {
		s := begin(t, 77, 5, 4)
		s.wild(600, true)
		s.parted(200)
		s.calm()
		text := fmt.Sprint(s.event, s.w.Calls(), s.w.Sights(), s.w.Len())
		for i := range s.nodes {
			u, ok := s.w.Super(i)
			whole, e := s.w.Whole(i)
			text += fmt.Sprint(u, ok, whole, e, s.w.Commit(i))
		}
		return text
	}
	if run() != run() {
		t.Error("two runs differ")
	}
}
