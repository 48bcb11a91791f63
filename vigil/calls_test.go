package vigil

import (
	"math/rand/v2"
	"slices"
	"strings"
	"sync"
	"testing"

	"vigil/api"
)

func TestEveryCallEnds(t *testing.T) {
	r := rand.New(rand.NewPCG(7, 8))
	for range 20000 {
		noise := make([]byte, r.IntN(320))
		for i := range noise {
			noise[i] = byte(r.IntN(256))
		}
		checkText(t, string(noise))
	}
	long := strings.Repeat("(a & ", 1<<20)
	refuses(t, long, api.ErrText)
	many := make([]string, 100000)
	for i := range many {
		many[i] = []string{"a", "!a", "O[0,1]a"}[i%3]
	}
	if n, e := Nodes(many); n != 3 || e != api.OK {
		t.Errorf("P1: Nodes of many: %d, %d", n, e)
	}
}

func TestNodesLeavesItsListAlone(t *testing.T) {
	whole := []string{"(b | a)", "!!a", "spare", "("}
	before := slices.Clone(whole)
	if n, e := Nodes(whole[:2]); n != 6 || e != api.OK {
		t.Errorf("P2: Nodes = %d, %d, want 6", n, e)
	}
	if !slices.Equal(whole, before) {
		t.Errorf("P2: the list is %q now, was %q", whole, before)
	}
	if _, e := Nodes(whole); e != api.ErrText || !slices.Equal(whole, before) {
		t.Errorf("P2: error %d, the list is %q now, was %q", e, whole, before)
	}
}

func TestAnswersHangOnArgumentsAlone(t *testing.T) {
	texts := []string{"(a | b)", "A", strings.Repeat("!", 12) + "a", "(a S[0,5] H[1,2]b)", "O[0,7]!!c"}
	printed := []string{"(a ∨ b)", "", "", "(a S[0,5] H[1,2]b)", "O[0,7]¬¬c"}
	reach := []int{0, 0, 0, 7, 7}
	nodes := []int{6, 0, 0, 6, 2}
	errnos := []api.Errno{api.OK, api.ErrText, api.ErrDeep, api.OK, api.OK}
	var group sync.WaitGroup
	for worker := range 8 {
		group.Go(func() {
			for round := range 200 {
				i := (worker + round) % len(texts)
				s, e := Print(texts[i])
				n, e2 := Reach(texts[i])
				m, e3 := Nodes(texts[i : i+1])
				if s != printed[i] || n != reach[i] || m != nodes[i] || e != errnos[i] || e2 != e || e3 != e {
					t.Errorf("P2: %q: %q, %d, %d; errors %d, %d, %d", texts[i], s, n, m, e, e2, e3)
				}
			}
		})
	}
	group.Wait()
}
