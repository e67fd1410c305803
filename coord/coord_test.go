package coord

import (
	"fmt"
	"math"
	"math/rand"
	"slices"
	"strings"
	"testing"

	"hourglass/api"
	"hourglass/rec"
)

const (
	top   = 36028797018963967 // MaxTime, in digits
	nodes = 8                 // MaxNodes
)

func at(time int64, node uint8) api.Stamp { return api.Stamp{Time: time, Node: node} }

// above compares by hand: by Time, then Node.
func above(a, b api.Stamp) bool {
	return a.Time > b.Time || a.Time == b.Time && a.Node > b.Node
}

func badTime(s api.Stamp) bool { return s.Time < 0 || s.Time > top }

// wrongStamps are some that may not be.
func wrongStamps() []api.Stamp {
	return []api.Stamp{at(-1, 0), at(-1, 255), at(math.MinInt64, 3), at(top+1, 0), at(top+1, 255), at(math.MaxInt64, 0)}
}

// all is as many parts as there may be.
func all() []int { return []int{0, 1, 2, 3, 4, 5, 6, 7} }

// badParts counts each node by hand: a list that may be is the nodes of which
// it has one, in their order.
func badParts(l []int) bool {
	var rising []int
	for node := range nodes {
		if slices.Contains(l, node) {
			rising = append(rising, node)
		}
	}
	return len(l) == 0 || !slices.Equal(l, rising)
}

// orders are all orders of a list.
func orders(l []int) [][]int {
	if len(l) == 0 {
		return [][]int{nil}
	}
	var out [][]int
	for i, x := range l {
		for _, rest := range orders(slices.Concat(l[:i], l[i+1:])) {
			out = append(out, append([]int{x}, rest...))
		}
	}
	return out
}

// decision writes what was decided, and of whom.
func decision(known, yes bool, s api.Stamp, owes []int) string {
	what := "-"
	if known {
		what = "no"
	}
	if yes {
		what = fmt.Sprint("yes ", s.Time, ".", s.Node)
	}
	return what + " owes " + fmt.Sprint(owes)
}

// tell writes what is told of one: what was decided, who owes, and the parts
// that its record has. It fails where two calls tell unlike things.
func tell(t *testing.T, c *Coord, id int64) string {
	t.Helper()
	known, yes, s := c.Decision(id)
	if !known && yes || !yes && s != (api.Stamp{}) {
		t.Errorf("P18.1, R2: Decision(%d): %v, %v, %v", id, known, yes, s)
	}
	out := decision(known, yes, s, c.Owes(id))
	r, ok := c.Record(id)
	if !ok {
		if known || !rec.Same(r, rec.Record{}) {
			t.Errorf("P18.2, R2: Record(%d): %+v beside false; known %v", id, r, known)
		}
		return out
	}
	if !rec.Good(r) || !rec.Same(r, rec.Record{Kind: 4, ID: id, Yes: yes, Stamp: s, Parts: r.Parts}) {
		t.Errorf("P18.2: Record(%d): %+v, where %s", id, r, out)
	}
	return out + " of " + fmt.Sprint(r.Parts)
}

// is fails, unless this is told of one.
func is(t *testing.T, c *Coord, id int64, want string) {
	t.Helper()
	if s := tell(t, c, id); s != want {
		t.Errorf("P18: %d: %s, want %s", id, s, want)
	}
}

// open fails, unless these are told.
func open(t *testing.T, c *Coord, want ...int64) {
	t.Helper()
	if l := c.Open(); !slices.Equal(l, want) {
		t.Errorf("P18.1: Open: %v, want %v", l, want)
	}
}

// gets fails, unless a call answered this.
func gets(t *testing.T, what string, got, want api.Errno) {
	t.Helper()
	if got != want {
		t.Errorf("P18: %s: %d, want %d", what, got, want)
	}
}

// begun has one, of ID 5, that was begun.
func begun(t *testing.T, snap api.Stamp, parts ...int) *Coord {
	t.Helper()
	c := New()
	gets(t, "Begin", c.Begin(5, snap, parts...), api.OK)
	return c
}

// vote fails, unless a vote for 5 is answered OK.
func vote(t *testing.T, c *Coord, part int, yes bool, s api.Stamp) {
	t.Helper()
	gets(t, fmt.Sprint("Vote of part ", part, ", ", yes, " at ", s), c.Vote(5, part, yes, s), api.OK)
}

// gave fails, unless Give of 5 answers this.
func gave(t *testing.T, c *Coord, want bool) {
	t.Helper()
	if yes, err := c.Give(5); yes != want || err != api.OK {
		t.Errorf("P18.1: Give: %v, %d; want %v", yes, err, want)
	}
}

// stages are how far 5, of Snap 9.4, and of parts 1, 4 and 6, may be, and what
// is told of it then. Parts 1 and 4 voted yes, where it was not Played.
func stages(t *testing.T) map[string]*Coord {
	m := map[string]*Coord{}
	add := func(told string, then func(c *Coord)) {
		c := begun(t, at(9, 4), 1, 4, 6)
		vote(t, c, 1, true, at(12, 0))
		vote(t, c, 4, true, at(11, 7))
		then(c)
		m[told] = c
	}
	ack := func(c *Coord, parts ...int) {
		for _, p := range parts {
			gets(t, "Ack", c.Ack(5, p), api.OK)
		}
	}
	add("- owes [1 4 6]", func(c *Coord) {})
	add("yes 12.3 owes [1 4 6] of [1 4 6]", func(c *Coord) { vote(t, c, 6, true, at(12, 3)) })
	add("no owes [1 4 6] of [1 4 6]", func(c *Coord) { vote(t, c, 6, false, at(12, 3)) })
	add("no owes [1 4] of [1 4 6]", func(c *Coord) { gave(t, c, false); ack(c, 6) })
	add("yes 15.0 owes [1 6] of [1 4 6]", func(c *Coord) { vote(t, c, 6, true, at(15, 0)); ack(c, 4) })
	add("yes 16.0 owes [] of [1 4 6]", func(c *Coord) { vote(t, c, 6, true, at(16, 0)); ack(c, 6, 4, 1) })
	add("no owes [] of [1 4 6]", func(c *Coord) { vote(t, c, 6, false, at(0, 0)); ack(c, 1, 4, 6) })
	return m
}

// played are those of stages that were Played instead.
func played(t *testing.T) map[string]*Coord {
	m := map[string]*Coord{}
	for _, r := range []rec.Record{{Kind: 4, ID: 5, Parts: []int{1, 4, 6}}, {Kind: 4, ID: 5, Yes: true, Stamp: at(17, 2), Parts: []int{1, 4, 6}}} {
		c := New()
		gets(t, "Play", c.Play(r), api.OK)
		m[tell(t, c, 5)] = c
	}
	if len(m) != 2 || m["no owes [1 4 6] of [1 4 6]"] == nil || m["yes 17.2 owes [1 4 6] of [1 4 6]"] == nil {
		t.Errorf("P18.2: Play: %v", m)
	}
	return m
}

// The chapter's example.
func TestExample(t *testing.T) {
	c := New()
	gets(t, "Begin", c.Begin(1, at(0, 0), 0, 1), api.OK)
	gets(t, "Vote", c.Vote(1, 0, true, at(5, 0)), api.OK)
	is(t, c, 1, "- owes [0 1]")
	gets(t, "Vote", c.Vote(1, 1, true, at(7, 1)), api.OK)
	is(t, c, 1, "yes 7.1 owes [0 1] of [0 1]")
}

// P18.1: of a new one nothing is told; two know nothing of each other.
func TestNew(t *testing.T) {
	c, other := New(), New()
	gets(t, "Begin", c.Begin(1, at(0, 0), 0), api.OK)
	open(t, other)
	for _, id := range []int64{0, 1, -1, math.MinInt64, math.MaxInt64} {
		is(t, other, id, "- owes []")
	}
	gets(t, "Begin of another's ID", other.Begin(1, at(0, 0), 0), api.OK)
}

// P18.1: IDs from 1 on.
func TestBeginIDs(t *testing.T) {
	c := New()
	for _, id := range []int64{0, -1, -2, math.MinInt64, math.MinInt64 + 1} {
		gets(t, fmt.Sprint("Begin of ID ", id), c.Begin(id, at(0, 0), 0), api.EARG)
		is(t, c, id, "- owes []")
		open(t, c)
	}
	for _, id := range []int64{math.MaxInt64, 1, 2, 1 << 40} {
		gets(t, fmt.Sprint("Begin of ID ", id), c.Begin(id, at(0, 0), 0), api.OK)
		is(t, c, id, "- owes [0]")
	}
	open(t, c, 1, 2, 1<<40, math.MaxInt64)
}

// P18.1: snapshots that may be, and others.
func TestBeginSnaps(t *testing.T) {
	c := New()
	for _, s := range wrongStamps() {
		gets(t, fmt.Sprint("Begin at ", s), c.Begin(5, s, 0), api.EARG)
		is(t, c, 5, "- owes []")
		open(t, c)
	}
	for i, s := range []api.Stamp{{}, at(0, 255), at(1, 0), at(top, 0), at(top, 255)} {
		gets(t, fmt.Sprint("Begin at ", s), c.Begin(int64(i+1), s, 0), api.OK)
		is(t, c, int64(i+1), "- owes [0]")
	}
}

// P18.1, T5: no yes is above the highest snapshot; a no decides it.
func TestHighestSnap(t *testing.T) {
	c := begun(t, at(top, 255), 3)
	for _, s := range []api.Stamp{at(top, 255), at(top+1, 0), at(0, 0), at(top, 254)} {
		gets(t, "Vote", c.Vote(5, 3, true, s), api.EARG)
	}
	is(t, c, 5, "- owes [3]")
	vote(t, c, 3, false, at(top, 255))
	is(t, c, 5, "no owes [3] of [3]")
	c = begun(t, at(top, 254), 3)
	vote(t, c, 3, true, at(top, 255))
	is(t, c, 5, fmt.Sprint("yes ", top, ".255 owes [3] of [3]"))
}

// beginOf fails, unless Begin of a list of parts answers as it should, for one
// that is new, and for one that was begun.
func beginOf(t *testing.T, l []int) {
	t.Helper()
	c := begun(t, at(3, 3), 2, 5)
	if badParts(l) {
		gets(t, fmt.Sprint("Begin of parts ", l), c.Begin(6, at(3, 3), l...), api.EARG)
		is(t, c, 6, "- owes []")
		gets(t, fmt.Sprint("Begin once more, of parts ", l), c.Begin(5, at(3, 3), l...), api.EARG)
		open(t, c, 5)
	} else {
		gets(t, fmt.Sprint("Begin of parts ", l), c.Begin(6, at(3, 3), l...), api.OK)
		is(t, c, 6, "- owes "+fmt.Sprint(l))
		gets(t, fmt.Sprint("Begin once more, of parts ", l), c.Begin(5, at(3, 3), l...), api.EEXIST)
		open(t, c, 5, 6)
	}
	is(t, c, 5, "- owes [2 5]")
}

// P18.1: every list of up to three numbers beside the bounds.
func TestBeginFewParts(t *testing.T) {
	beginOf(t, nil)
	beginOf(t, []int{})
	near := []int{math.MinInt, -2, -1, 0, 1, 2, 6, 7, 8, 9, 255, 256, 257, math.MaxInt}
	for _, a := range near {
		beginOf(t, []int{a})
		for _, b := range near {
			beginOf(t, []int{a, b})
			for _, c := range near {
				beginOf(t, []int{a, b, c})
			}
		}
	}
}

// P18.1: each set of nodes; each one of which one place is wrong, alike or
// fallen; too many.
func TestBeginManyParts(t *testing.T) {
	for set := range 1 << nodes {
		var l []int
		for node := range nodes {
			if set>>node&1 == 1 {
				l = append(l, node)
			}
		}
		beginOf(t, l)
		for i := range l {
			for _, wrong := range []int{-1, 8, math.MinInt, math.MaxInt} {
				spoilt := slices.Clone(l)
				spoilt[i] = wrong
				beginOf(t, spoilt)
				beginOf(t, slices.Insert(slices.Clone(l), i, wrong))
			}
			beginOf(t, slices.Insert(slices.Clone(l), i, l[i]))
			if i > 0 {
				fallen := slices.Clone(l)
				fallen[i-1], fallen[i] = fallen[i], fallen[i-1]
				beginOf(t, fallen)
			}
		}
	}
	beginOf(t, append(all(), 8))
	beginOf(t, append([]int{-1}, all()...))
	beginOf(t, slices.Concat(all(), all()))
	beginOf(t, make([]int, 1000))
}

// P18.1: whatever became of one, it is begun once; what was wrong is told
// first.
func TestBeginExists(t *testing.T) {
	for _, m := range []map[string]*Coord{stages(t), played(t)} {
		for told, c := range m {
			for _, parts := range [][]int{{1, 4, 6}, {0}, all()} {
				gets(t, "Begin once more, where "+told, c.Begin(5, at(9, 4), parts...), api.EEXIST)
				gets(t, "Begin once more, where "+told, c.Begin(5, at(0, 0), parts...), api.EEXIST)
			}
			gets(t, "Begin of no part, where "+told, c.Begin(5, at(9, 4)), api.EARG)
			gets(t, "Begin of wrong parts, where "+told, c.Begin(5, at(9, 4), 1, 4, 8), api.EARG)
			gets(t, "Begin of falling parts, where "+told, c.Begin(5, at(9, 4), 4, 1), api.EARG)
			gets(t, "Begin at a wrong snap, where "+told, c.Begin(5, at(-1, 0), 1), api.EARG)
			is(t, c, 5, told)
		}
	}
	c := stages(t)["- owes [1 4 6]"]
	c.Begin(5, at(99, 0), 6)
	vote(t, c, 6, true, at(9, 5))
	is(t, c, 5, "yes 12.0 owes [1 4 6] of [1 4 6]")
}

// P18.1: a vote for one that was not begun, or of a part that is none of its,
// whatever it says.
func TestVoteOfNone(t *testing.T) {
	for _, m := range []map[string]*Coord{stages(t), played(t)} {
		for told, c := range m {
			for _, s := range append(wrongStamps(), at(0, 0), at(9, 4), at(99, 0)) {
				for _, yes := range []bool{true, false} {
					for _, part := range []int{math.MinInt, -1, 0, 2, 3, 5, 7, 8, 9, 257, math.MaxInt} {
						gets(t, fmt.Sprint("Vote of part ", part, ", where ", told), c.Vote(5, part, yes, s), api.ENONE)
					}
					for _, id := range []int64{math.MinInt64, -5, -1, 0, 1, 4, 6, math.MaxInt64} {
						gets(t, fmt.Sprint("Vote for ", id), c.Vote(id, 4, yes, s), api.ENONE)
						is(t, c, id, "- owes []")
					}
				}
			}
			is(t, c, 5, told)
		}
	}
}

// P18.1: a yes is above the snapshot, also behind the decision, and of a part
// that has voted.
func TestVoteStamps(t *testing.T) {
	low := []api.Stamp{{}, at(0, 255), at(8, 255), at(9, 0), at(9, 3), at(9, 4)}
	for told, c := range stages(t) {
		for _, part := range []int{1, 4, 6} {
			for _, s := range append(wrongStamps(), low...) {
				gets(t, fmt.Sprint("Vote of part ", part, " at ", s, ", where ", told), c.Vote(5, part, true, s), api.EARG)
			}
		}
		is(t, c, 5, told)
		for _, s := range []api.Stamp{at(9, 5), at(10, 0), at(10, 4), at(top, 255)} {
			vote(t, c, 1, true, s)
			vote(t, c, 4, true, s)
		}
		is(t, c, 5, told)
	}
}

// P18.1: which stamps of a yes are just above a snapshot.
func TestVoteJustAbove(t *testing.T) {
	for _, x := range []struct{ snap, like, next api.Stamp }{
		{at(0, 0), at(0, 0), at(0, 1)}, {at(0, 255), at(0, 255), at(1, 0)}, {at(9, 4), at(9, 4), at(9, 5)}, {at(9, 255), at(9, 255), at(10, 0)}, {at(9, 0), at(8, 255), at(9, 1)},
		{at(1<<32, 0), at(1<<32, 0), at(1<<32, 1)}, {at(top-1, 255), at(0, 255), at(top, 0)}, {at(top, 7), at(top, 7), at(top, 8)},
	} {
		c := begun(t, x.snap, 2)
		gets(t, fmt.Sprint("Vote at ", x.like, ", snap ", x.snap), c.Vote(5, 2, true, x.like), api.EARG)
		is(t, c, 5, "- owes [2]")
		vote(t, c, 2, true, x.next)
		is(t, c, 5, fmt.Sprint("yes ", x.next.Time, ".", x.next.Node, " owes [2] of [2]"))
	}
}

// P18.1: a yes that is refused is no vote: its part may vote yet.
func TestRefusedVoteIsNone(t *testing.T) {
	for _, yes := range []bool{true, false} {
		c := begun(t, at(9, 4), 0, 7)
		for _, part := range []int{0, 7, 0} {
			gets(t, "Vote", c.Vote(5, part, true, at(9, 4)), api.EARG)
			gets(t, "Vote", c.Vote(5, part, true, at(top+1, 4)), api.EARG)
		}
		vote(t, c, 7, true, at(10, 0))
		gets(t, "Vote", c.Vote(5, 0, true, at(-1, 4)), api.EARG)
		is(t, c, 5, "- owes [0 7]")
		vote(t, c, 0, yes, at(9, 5))
		if yes {
			is(t, c, 5, "yes 10.0 owes [0 7] of [0 7]")
		} else {
			is(t, c, 5, "no owes [0 7] of [0 7]")
		}
	}
}

// P18.1: nobody asks for the stamp of a no.
func TestNoIsWithoutStamp(t *testing.T) {
	for _, s := range append(wrongStamps(), at(0, 0), at(9, 3), at(9, 4), at(9, 5), at(top, 255)) {
		c := begun(t, at(9, 4), 1, 2)
		vote(t, c, 1, false, s)
		is(t, c, 5, "no owes [1 2] of [1 2]")
		vote(t, c, 1, false, s)
		vote(t, c, 2, false, s)
		is(t, c, 5, "no owes [1 2] of [1 2]")
	}
}

// P18.1: a part votes once, whatever it says later.
func TestSecondVote(t *testing.T) {
	for _, yes := range []bool{true, false} {
		for _, s := range []api.Stamp{at(9, 5), at(10, 1), at(20, 0), at(top, 255)} {
			c := begun(t, at(9, 4), 3, 5, 6)
			for range 4 {
				vote(t, c, 5, true, at(10, 1))
				vote(t, c, 5, yes, s)
				is(t, c, 5, "- owes [3 5 6]")
			}
			vote(t, c, 6, true, at(9, 9))
			vote(t, c, 5, yes, s)
			vote(t, c, 6, yes, s)
			is(t, c, 5, "- owes [3 5 6]")
			vote(t, c, 3, true, at(10, 0))
			is(t, c, 5, "yes 10.1 owes [3 5 6] of [3 5 6]")
		}
	}
}

// P18.1, T2: what was decided stays decided, whatever is voted, given or
// Acked behind it.
func TestBehindTheDecision(t *testing.T) {
	for told, c := range stages(t) {
		if told == "- owes [1 4 6]" {
			continue
		}
		for _, part := range []int{6, 1, 4} {
			for _, s := range []api.Stamp{at(9, 5), at(12, 1), at(30, 0), at(top, 255)} {
				vote(t, c, part, true, s)
				vote(t, c, part, false, s)
			}
			vote(t, c, part, false, at(-1, 0))
			gave(t, c, strings.HasPrefix(told, "yes"))
			is(t, c, 5, told)
		}
	}
}

// P18.1: a no that comes first, and all that is left of the parts behind it.
func TestVotesBehindANo(t *testing.T) {
	c := begun(t, at(0, 0), 0, 1, 2)
	vote(t, c, 1, false, at(9, 0))
	for _, part := range []int{0, 2, 1, 0} {
		vote(t, c, part, true, at(7, 0))
		is(t, c, 5, "no owes [0 1 2] of [0 1 2]")
	}
	gave(t, c, false)
	is(t, c, 5, "no owes [0 1 2] of [0 1 2]")
}

// P18.1, T3: one no among others, at each place, in every order of the parts.
func TestOneNo(t *testing.T) {
	for _, parts := range [][]int{{4}, {0, 7}, {1, 2, 5}, {0, 3, 4, 7}} {
		no := "no owes " + fmt.Sprint(parts) + " of " + fmt.Sprint(parts)
		for _, l := range orders(parts) {
			for place := range l {
				c := begun(t, at(1, 1), parts...)
				for i, part := range l {
					vote(t, c, part, i != place, at(int64(2+i), 0))
					if i < place {
						is(t, c, 5, "- owes "+fmt.Sprint(parts))
					} else {
						is(t, c, 5, no)
					}
				}
			}
		}
	}
}

// P18.1, T3: all vote yes, in every order of the parts: the greatest of their
// stamps, wherever it came from.
func TestAllYes(t *testing.T) {
	stamps := []api.Stamp{at(1, 2), at(8, 2), at(8, 3), at(7, 255)}
	for _, parts := range [][]int{{4}, {0, 7}, {1, 2, 5}, {0, 3, 4, 7}} {
		for _, l := range orders(parts) {
			for _, given := range orders([]int{0, 1, 2, 3}) {
				c := begun(t, at(1, 1), parts...)
				best := api.Stamp{}
				for i, part := range l {
					is(t, c, 5, "- owes "+fmt.Sprint(parts))
					s := stamps[given[i]]
					vote(t, c, part, true, s)
					if above(s, best) {
						best = s
					}
				}
				is(t, c, 5, fmt.Sprint("yes ", best.Time, ".", best.Node, " owes ", parts, " of ", parts))
			}
		}
	}
}

// P18.1: which of two stamps is the greater one.
func TestGreatest(t *testing.T) {
	for _, x := range []struct{ less, more api.Stamp }{
		{at(5, 0), at(7, 1)}, {at(5, 9), at(7, 1)}, {at(7, 0), at(7, 1)}, {at(7, 127), at(7, 128)}, {at(7, 254), at(7, 255)}, {at(7, 255), at(8, 0)}, {at(7, 7), at(7, 7)},
		{at(1<<31-1, 0), at(1<<31, 0)}, {at(1<<32, 0), at(1<<32+1, 0)}, {at(1<<32+1, 0), at(1<<33, 0)}, {at(top-1, 255), at(top, 0)}, {at(0, 1), at(top, 255)},
	} {
		for _, votes := range [][2]api.Stamp{{x.less, x.more}, {x.more, x.less}} {
			c := begun(t, at(0, 0), 3, 4)
			vote(t, c, 3, true, votes[0])
			vote(t, c, 4, true, votes[1])
			is(t, c, 5, fmt.Sprint("yes ", x.more.Time, ".", x.more.Node, " owes [3 4] of [3 4]"))
		}
	}
}

// P18.1: all nodes as parts, in many orders, the greatest stamp at each.
func TestAllNodes(t *testing.T) {
	r := rand.New(rand.NewSource(18))
	parts := all()
	for greatest := range nodes {
		for range 20 {
			c := begun(t, at(3, 3), parts...)
			for _, part := range r.Perm(nodes) {
				is(t, c, 5, "- owes [0 1 2 3 4 5 6 7]")
				s := at(3+int64(r.Intn(5)), uint8(4+part))
				if part == greatest {
					s = at(8, uint8(part))
				}
				vote(t, c, part, true, s)
			}
			is(t, c, 5, fmt.Sprint("yes 8.", greatest, " owes [0 1 2 3 4 5 6 7] of [0 1 2 3 4 5 6 7]"))
		}
	}
}

// P18.1: Give decides what is not decided, and tells what was.
func TestGive(t *testing.T) {
	c := begun(t, at(9, 4), 1, 4, 6)
	for _, id := range []int64{math.MinInt64, -5, 0, 1, 4, 6, math.MaxInt64} {
		if yes, err := c.Give(id); yes || err != api.ENONE {
			t.Errorf("P18.1: Give(%d): %v, %d", id, yes, err)
		}
		is(t, c, id, "- owes []")
	}
	open(t, c, 5)
	is(t, c, 5, "- owes [1 4 6]")
	for range 3 {
		gave(t, c, false)
		is(t, c, 5, "no owes [1 4 6] of [1 4 6]")
	}
	for told, c := range stages(t) {
		yes := strings.HasPrefix(told, "yes")
		if strings.HasPrefix(told, "-") {
			told = "no owes [1 4 6] of [1 4 6]"
		}
		for range 3 {
			gave(t, c, yes)
			is(t, c, 5, told)
		}
	}
}

// P18.1: votes behind a Give, of those that have voted, and of the others.
func TestVotesBehindGive(t *testing.T) {
	for voted := range 3 {
		c := begun(t, at(0, 0), 0, 1, 2)
		for part := range voted {
			vote(t, c, part, true, at(4, 0))
		}
		gave(t, c, false)
		for range 2 {
			for part := range 3 {
				vote(t, c, part, true, at(9, 0))
				is(t, c, 5, "no owes [0 1 2] of [0 1 2]")
			}
			vote(t, c, 1, false, at(9, 0))
			gets(t, "Vote", c.Vote(5, 2, true, at(0, 0)), api.EARG)
		}
		is(t, c, 5, "no owes [0 1 2] of [0 1 2]")
	}
}

// P18.1: Ack of one that was not begun, or of a part that is none of its.
func TestAckOfNone(t *testing.T) {
	for _, m := range []map[string]*Coord{stages(t), played(t)} {
		for told, c := range m {
			for _, part := range []int{math.MinInt, -1, 0, 2, 3, 5, 7, 8, 9, 257, math.MaxInt} {
				gets(t, fmt.Sprint("Ack of part ", part, ", where ", told), c.Ack(5, part), api.ENONE)
			}
			for _, id := range []int64{math.MinInt64, -5, 0, 1, 4, 6, math.MaxInt64} {
				gets(t, fmt.Sprint("Ack of ", id), c.Ack(id, 4), api.ENONE)
			}
			is(t, c, 5, told)
		}
	}
}

// P18.1: Ack ahead of the decision is none.
func TestAckWaits(t *testing.T) {
	c := begun(t, at(0, 0), 0, 1)
	for _, then := range []func(){func() {}, func() { vote(t, c, 1, true, at(3, 0)) }} {
		then()
		for _, part := range []int{0, 1, 1} {
			gets(t, "Ack", c.Ack(5, part), api.EWAIT)
			is(t, c, 5, "- owes [0 1]")
		}
	}
	vote(t, c, 0, true, at(2, 0))
	is(t, c, 5, "yes 3.0 owes [0 1] of [0 1]")
	gets(t, "Ack", c.Ack(5, 1), api.OK)
	is(t, c, 5, "yes 3.0 owes [0] of [0 1]")
}

// P18.1: each part Acks, twice, in every order; it is open till the last one
// has.
func TestAckOrders(t *testing.T) {
	for _, parts := range [][]int{{4}, {0, 7}, {1, 2, 5}, {0, 3, 4, 7}} {
		for _, l := range orders(parts) {
			for _, yes := range []bool{true, false} {
				c := begun(t, at(1, 1), parts...)
				for i, part := range parts {
					vote(t, c, part, yes || i < len(parts)-1, at(2, 2))
				}
				what := "no owes "
				if yes {
					what = "yes 2.2 owes "
				}
				owes := slices.Clone(parts)
				for _, part := range l {
					open(t, c, 5)
					owes = slices.DeleteFunc(owes, func(p int) bool { return p == part })
					for range 2 {
						gets(t, "Ack", c.Ack(5, part), api.OK)
						is(t, c, 5, what+fmt.Sprint(owes)+" of "+fmt.Sprint(parts))
					}
				}
				open(t, c)
				gave(t, c, yes)
				gets(t, "Ack", c.Ack(5, l[0]), api.OK)
				is(t, c, 5, what+"[] of "+fmt.Sprint(parts))
			}
		}
	}
}

// P18.1: Acks of all nodes, in many orders.
func TestAckAllNodes(t *testing.T) {
	r := rand.New(rand.NewSource(81))
	for range 50 {
		c := begun(t, at(1, 1), all()...)
		gave(t, c, false)
		owes := all()
		for _, part := range r.Perm(nodes) {
			gets(t, "Ack", c.Ack(5, part), api.OK)
			owes = slices.DeleteFunc(owes, func(p int) bool { return p == part })
			is(t, c, 5, "no owes "+fmt.Sprint(owes)+" of [0 1 2 3 4 5 6 7]")
		}
		open(t, c)
	}
}

// P18.1: Open rises, however they were begun.
func TestOpenRises(t *testing.T) {
	falling := []int64{math.MaxInt64, 1 << 40, 300, 256, 255, 20, 10, 9, 2, 1}
	rising := slices.Sorted(slices.Values(falling))
	r := rand.New(rand.NewSource(8))
	for round := range 30 {
		l := slices.Clone(falling)
		if round > 0 {
			r.Shuffle(len(l), func(i, j int) { l[i], l[j] = l[j], l[i] })
		}
		c := New()
		open(t, c)
		for i, id := range l {
			if round%2 == 1 && i%3 == 0 {
				gets(t, "Play", c.Play(rec.Record{Kind: 4, ID: id, Parts: []int{2}}), api.OK)
			} else {
				gets(t, "Begin", c.Begin(id, at(0, 0), 2), api.OK)
			}
			open(t, c, slices.Sorted(slices.Values(l[:i+1]))...)
		}
		open(t, c, rising...)
	}
}

// P18.1: who is told by Open: not decided; decided, and somebody owes; but
// not who is decided and owes nothing.
func TestOpenOf(t *testing.T) {
	c := New()
	for id := int64(9); id >= 1; id-- {
		gets(t, "Begin", c.Begin(id, at(0, 0), 1, 3), api.OK)
	}
	for id := int64(1); id <= 9; id += 2 {
		c.Vote(id, 1, true, at(4, 0))
	}
	open(t, c, 1, 2, 3, 4, 5, 6, 7, 8, 9)
	for id := int64(1); id <= 5; id += 2 {
		c.Vote(id, 3, true, at(5, 0))
	}
	c.Give(2)
	c.Vote(4, 3, false, at(0, 0))
	open(t, c, 1, 2, 3, 4, 5, 6, 7, 8, 9)
	for id := int64(1); id <= 4; id++ {
		gets(t, "Ack", c.Ack(id, 3), api.OK)
	}
	open(t, c, 1, 2, 3, 4, 5, 6, 7, 8, 9)
	for id := int64(1); id <= 3; id++ {
		gets(t, "Ack", c.Ack(id, 1), api.OK)
	}
	open(t, c, 4, 5, 6, 7, 8, 9)
	for id, want := range map[int64]string{1: "yes 5.0 owes [] of [1 3]", 2: "no owes [] of [1 3]", 3: "yes 5.0 owes [] of [1 3]", 4: "no owes [1] of [1 3]", 5: "yes 5.0 owes [1 3] of [1 3]", 6: "- owes [1 3]", 7: "- owes [1 3]"} {
		is(t, c, id, want)
	}
}

// over writes into a list, and into the room behind it.
func over[T int | int64](l []T) {
	l = l[:cap(l)]
	for i := range l {
		l[i] = 2
	}
}

// R4: the list handed to Begin is neither changed nor kept, nor is the room
// behind it.
func TestBeginKeepsNoList(t *testing.T) {
	for _, end := range []func(c *Coord){
		func(c *Coord) { c.Give(5) },
		func(c *Coord) { c.Vote(5, 7, false, at(0, 0)); c.Vote(5, 0, true, at(4, 0)) },
		func(c *Coord) {
			c.Vote(5, 4, true, at(4, 0))
			c.Vote(5, 7, true, at(4, 0))
			c.Vote(5, 0, true, at(4, 0))
		},
	} {
		room := []int{9, 0, 4, 7, 11, 12}
		l := room[1:4]
		c := begun(t, at(0, 0), l...)
		end(c)
		c.Ack(5, 0)
		c.Ack(5, 4)
		gets(t, "Begin", c.Begin(5, at(0, 0), l...), api.EEXIST)
		gets(t, "Begin", c.Begin(6, at(0, 0), room[:4]...), api.EARG)
		if !slices.Equal(room, []int{9, 0, 4, 7, 11, 12}) {
			t.Errorf("R4: Begin's list: %v", room)
		}
		was := tell(t, c, 5)
		over(room)
		is(t, c, 5, was)
		if !strings.HasSuffix(was, "owes [7] of [0 4 7]") {
			t.Errorf("P18: %s", was)
		}
	}
	l := []int{1, 3}
	c := begun(t, at(0, 0), l...)
	over(l)
	is(t, c, 5, "- owes [1 3]")
	gets(t, "Vote", c.Vote(5, 2, true, at(4, 0)), api.ENONE)
	vote(t, c, 1, true, at(4, 0))
	vote(t, c, 3, true, at(3, 0))
	is(t, c, 5, "yes 4.0 owes [1 3] of [1 3]")
	gets(t, "Ack", c.Ack(5, 2), api.ENONE)
	gets(t, "Ack", c.Ack(5, 3), api.OK)
	is(t, c, 5, "yes 4.0 owes [1] of [1 3]")
}

// R4: what is written into an answer, or into the room behind it, changes
// neither what is kept nor another answer.
func TestAnswersAreNewMemory(t *testing.T) {
	for _, m := range []map[string]*Coord{stages(t), played(t)} {
		for told, c := range m {
			c.Begin(8, at(0, 0), 1, 4)
			owes, ids := c.Owes(5), c.Open()
			r, _ := c.Record(5)
			first := fmt.Sprint(owes, ids, r)
			for range 3 {
				over(c.Owes(5))
				over(c.Open())
				one, _ := c.Record(5)
				over(one.Parts)
				is(t, c, 5, told)
			}
			c.Give(5)
			for _, part := range []int{1, 4, 6} {
				gets(t, "Ack", c.Ack(5, part), api.OK)
			}
			c.Begin(1, at(0, 0), 1)
			if s := fmt.Sprint(owes, ids, r); s != first {
				t.Errorf("R4: an answer changed: %s, was %s", s, first)
			}
		}
	}
}

// P18.2: a record has all parts, whoever has Acked; it is Good, and there for
// decided ones alone.
func TestRecord(t *testing.T) {
	for told, c := range stages(t) {
		r, ok := c.Record(5)
		want := rec.Record{Kind: 4, ID: 5, Parts: []int{1, 4, 6}}
		switch strings.Fields(told)[0] {
		case "-":
			want = rec.Record{}
		case "yes":
			want.Yes = true
			_, _, want.Stamp = c.Decision(5)
		}
		if ok != rec.Good(want) || !rec.Same(r, want) {
			t.Errorf("P18.2: Record, where %s: %+v, %v", told, r, ok)
		}
		for _, id := range []int64{math.MinInt64, -5, 0, 1, 4, 6, math.MaxInt64} {
			if r, ok := c.Record(id); ok || !rec.Same(r, rec.Record{}) {
				t.Errorf("P18.2: Record(%d): %+v, %v", id, r, ok)
			}
		}
		is(t, c, 5, told)
	}
	c := New()
	c.Begin(math.MaxInt64, at(0, 0), 0)
	c.Vote(math.MaxInt64, 0, true, at(top, 255))
	r, ok := c.Record(math.MaxInt64)
	if !ok || !rec.Same(r, rec.Record{Kind: 4, ID: math.MaxInt64, Yes: true, Stamp: at(top, 255), Parts: []int{0}}) {
		t.Errorf("P18.2: Record: %+v, %v", r, ok)
	}
}

// wrongRecords are none that can be Played, for an ID.
func wrongRecords(id int64) []rec.Record {
	l := []api.Write{{Key: api.Key{'a'}, Value: "x"}}
	parts := []int{1, 2}
	out := []rec.Record{
		{}, {ID: id}, {ID: id, Parts: parts}, {Kind: 1, ID: id, Snap: at(1, 0), Stamp: at(2, 0), Writes: l}, {Kind: 2, ID: id, Stamp: at(2, 0)}, {Kind: 3, ID: id}, {Kind: 5, Stamp: at(2, 0)},
		{Kind: 1, ID: id, Parts: parts}, {Kind: 2, ID: id, Parts: parts}, {Kind: 3, ID: id, Parts: parts}, {Kind: 5, ID: id, Parts: parts}, {Kind: 6, ID: id, Parts: parts}, {Kind: -4, ID: id, Parts: parts}, {Kind: 260, ID: id, Yes: true, Stamp: at(2, 0), Parts: parts},
		{Kind: 4, Parts: parts}, {Kind: 4, ID: -id, Parts: parts}, {Kind: 4, ID: math.MinInt64, Parts: parts},
		{Kind: 4, ID: id}, {Kind: 4, ID: id, Yes: true, Stamp: at(2, 0)}, {Kind: 4, ID: id, Parts: []int{2, 2}}, {Kind: 4, ID: id, Parts: []int{2, 1}}, {Kind: 4, ID: id, Parts: []int{-1}}, {Kind: 4, ID: id, Parts: []int{0, 8}}, {Kind: 4, ID: id, Parts: append(all(), 8)},
		{Kind: 4, ID: id, Stamp: at(2, 0), Parts: parts}, {Kind: 4, ID: id, Stamp: at(0, 1), Parts: parts}, {Kind: 4, ID: id, Snap: at(2, 0), Parts: parts}, {Kind: 4, ID: id, Yes: true, Snap: at(0, 1), Stamp: at(2, 0), Parts: parts},
		{Kind: 4, ID: id, Writes: l, Parts: parts}, {Kind: 4, ID: id, Yes: true, Stamp: at(2, 0), Writes: l, Parts: parts},
	}
	for _, s := range wrongStamps() {
		out = append(out, rec.Record{Kind: 4, ID: id, Yes: true, Stamp: s, Parts: parts})
	}
	return out
}

// P18.2: what is no record of a decision is EFORM, also of one that was begun
// or Played.
func TestPlayOfOthers(t *testing.T) {
	for _, m := range []map[string]*Coord{stages(t), played(t)} {
		for told, c := range m {
			ids := c.Open()
			for i, r := range slices.Concat(wrongRecords(5), wrongRecords(7)) {
				gets(t, fmt.Sprint("Play of number ", i, ", where ", told), c.Play(r), api.EFORM)
			}
			is(t, c, 5, told)
			is(t, c, 7, "- owes []")
			open(t, c, ids...)
			gets(t, "Begin of one whose Play was refused", c.Begin(7, at(0, 0), 1), api.OK)
		}
	}
}

// P18.2: one that was begun, or Played, is not Played.
func TestPlayExists(t *testing.T) {
	for _, m := range []map[string]*Coord{stages(t), played(t)} {
		for told, c := range m {
			ids := c.Open()
			for _, r := range []rec.Record{{Kind: 4, ID: 5, Parts: []int{1, 4, 6}}, {Kind: 4, ID: 5, Parts: []int{0}}, {Kind: 4, ID: 5, Yes: true, Stamp: at(12, 3), Parts: []int{1, 4, 6}}, {Kind: 4, ID: 5, Yes: true, Parts: all()}} {
				gets(t, "Play once more, where "+told, c.Play(r), api.EEXIST)
				is(t, c, 5, told)
			}
			if r, ok := c.Record(5); ok {
				gets(t, "Play of its own record, where "+told, c.Play(r), api.EEXIST)
			}
			open(t, c, ids...)
			is(t, c, 5, told)
		}
	}
	c := stages(t)["- owes [1 4 6]"]
	c.Play(rec.Record{Kind: 4, ID: 5, Yes: true, Stamp: at(50, 0), Parts: []int{6}})
	gets(t, "Vote", c.Vote(5, 6, true, at(9, 4)), api.EARG)
	vote(t, c, 6, true, at(9, 5))
	is(t, c, 5, "yes 12.0 owes [1 4 6] of [1 4 6]")
}

// P18.2: what was Played is decided so.
func TestPlay(t *testing.T) {
	for _, id := range []int64{1, 5, math.MaxInt64} {
		for _, parts := range [][]int{{0}, {7}, {1, 3}, all()} {
			for _, s := range []api.Stamp{{}, at(0, 1), at(7, 1), at(top, 255)} {
				for _, yes := range []bool{true, false} {
					want := fmt.Sprint("yes ", s.Time, ".", s.Node)
					if !yes {
						s, want = api.Stamp{}, "no"
					}
					c := New()
					gets(t, "Play", c.Play(rec.Record{Kind: 4, ID: id, Yes: yes, Stamp: s, Parts: parts}), api.OK)
					is(t, c, id, want+" owes "+fmt.Sprint(parts)+" of "+fmt.Sprint(parts))
					open(t, c, id)
					if told, err := c.Give(id); told != yes || err != api.OK {
						t.Errorf("P18.2: Give of what was Played: %v, %d", told, err)
					}
					for i, part := range parts {
						gets(t, "Ack", c.Ack(id, part), api.OK)
						is(t, c, id, want+" owes "+fmt.Sprint(parts[i+1:])+" of "+fmt.Sprint(parts))
					}
					open(t, c)
				}
			}
		}
	}
}

// P18.2: the snapshot of what was Played is zero, and its votes change
// nothing.
func TestVotesBehindPlay(t *testing.T) {
	for told, c := range played(t) {
		for _, part := range []int{1, 4, 6} {
			for _, s := range append(wrongStamps(), at(0, 0)) {
				gets(t, "Vote", c.Vote(5, part, true, s), api.EARG)
				vote(t, c, part, false, s)
			}
			for _, s := range []api.Stamp{at(0, 1), at(1, 0), at(17, 2), at(17, 3), at(99, 0), at(top, 255)} {
				vote(t, c, part, true, s)
				vote(t, c, part, false, s)
			}
			is(t, c, 5, told)
		}
		open(t, c, 5)
	}
}

// R4: the list of the record that is Played is neither changed nor kept.
func TestPlayKeepsNoList(t *testing.T) {
	for _, yes := range []bool{true, false} {
		room := []int{9, 0, 4, 7, 11, 12}
		r := rec.Record{Kind: 4, ID: 5, Yes: yes, Parts: room[1:4]}
		c := New()
		gets(t, "Play", c.Play(r), api.OK)
		gets(t, "Ack", c.Ack(5, 4), api.OK)
		gets(t, "Play", c.Play(r), api.EEXIST)
		r.Parts = room[:4]
		gets(t, "Play", c.Play(r), api.EFORM)
		if !slices.Equal(room, []int{9, 0, 4, 7, 11, 12}) {
			t.Errorf("R4: Play's list: %v", room)
		}
		was := tell(t, c, 5)
		over(room)
		is(t, c, 5, was)
		gets(t, "Vote", c.Vote(5, 2, false, at(0, 0)), api.ENONE)
		gets(t, "Ack", c.Ack(5, 2), api.ENONE)
		if !strings.HasSuffix(was, "owes [0 7] of [0 4 7]") {
			t.Errorf("P18: %s", was)
		}
	}
}

// P18.2: what one tells, another one Plays, and tells it, too: but that all
// owe again.
func TestRecordAndPlay(t *testing.T) {
	for told, c := range stages(t) {
		r, ok := c.Record(5)
		if !ok {
			continue
		}
		again, err := rec.Get(rec.Put(r))
		gets(t, "rec.Get", err, api.OK)
		other := New()
		gets(t, "Play", other.Play(again), api.OK)
		decided, _, _ := strings.Cut(told, " owes ")
		is(t, other, 5, decided+" owes [1 4 6] of [1 4 6]")
		if x, ok := other.Record(5); !ok || !rec.Same(x, r) {
			t.Errorf("P18.2: Record of what was Played: %+v, was %+v", x, r)
		}
		gets(t, "Ack", other.Ack(5, 1), api.OK)
		is(t, c, 5, told)
	}
}

// heard is a vote that came; a Give is a no of nobody.
type heard struct {
	part int
	yes  bool
	at   api.Stamp
}

// plain is one as it was begun or Played, and all that it was told since, of
// which nothing is worked out till somebody asks.
type plain struct {
	id    int64
	snap  api.Stamp
	parts []int
	votes []heard
	acks  []int
	log   *rec.Record // what was Played
}

// decision goes through all that was heard.
func (p *plain) decision() (known, yes bool, s api.Stamp) {
	if p.log != nil {
		return true, p.log.Yes, p.log.Stamp
	}
	var counted []heard
	for _, v := range p.votes {
		if slices.ContainsFunc(counted, func(x heard) bool { return x.part == v.part }) {
			continue
		}
		if !v.yes {
			return true, false, api.Stamp{}
		}
		counted = append(counted, v)
		if len(counted) == len(p.parts) {
			break
		}
	}
	if len(counted) < len(p.parts) {
		return false, false, api.Stamp{}
	}
	for _, v := range counted {
		if above(v.at, s) {
			s = v.at
		}
	}
	return true, true, s
}

func (p *plain) owes() []int {
	var l []int
	for _, part := range p.parts {
		if !slices.Contains(p.acks, part) {
			l = append(l, part)
		}
	}
	return l
}

// plains are all of them, in the order in which they came.
type plains []*plain

func (l plains) find(id int64) *plain {
	for _, p := range l {
		if p.id == id {
			return p
		}
	}
	return nil
}

func (l *plains) begin(id int64, snap api.Stamp, parts []int) api.Errno {
	if id <= 0 || badTime(snap) || badParts(parts) {
		return api.EARG
	}
	if l.find(id) != nil {
		return api.EEXIST
	}
	*l = append(*l, &plain{id: id, snap: snap, parts: slices.Clone(parts)})
	return api.OK
}

func (l plains) vote(id int64, part int, yes bool, s api.Stamp) api.Errno {
	p := l.find(id)
	if p == nil || !slices.Contains(p.parts, part) {
		return api.ENONE
	}
	if yes && (badTime(s) || !above(s, p.snap)) {
		return api.EARG
	}
	p.votes = append(p.votes, heard{part, yes, s})
	return api.OK
}

func (l plains) give(id int64) (bool, api.Errno) {
	p := l.find(id)
	if p == nil {
		return false, api.ENONE
	}
	p.votes = append(p.votes, heard{part: -1})
	_, yes, _ := p.decision()
	return yes, api.OK
}

func (l plains) ack(id int64, part int) api.Errno {
	p := l.find(id)
	if p == nil || !slices.Contains(p.parts, part) {
		return api.ENONE
	}
	if known, _, _ := p.decision(); !known {
		return api.EWAIT
	}
	p.acks = append(p.acks, part)
	return api.OK
}

func (l *plains) play(r rec.Record) api.Errno {
	if r.ID <= 0 || badTime(r.Stamp) || badParts(r.Parts) || r.Kind != 4 || !r.Yes && r.Stamp != (api.Stamp{}) {
		return api.EFORM
	}
	if l.find(r.ID) != nil {
		return api.EEXIST
	}
	r.Parts = slices.Clone(r.Parts)
	*l = append(*l, &plain{id: r.ID, parts: r.Parts, log: &r})
	return api.OK
}

func (l plains) tell(id int64) string {
	p := l.find(id)
	if p == nil {
		return "- owes []"
	}
	known, yes, s := p.decision()
	if !known {
		return decision(false, false, s, p.owes())
	}
	return decision(true, yes, s, p.owes()) + " of " + fmt.Sprint(p.parts)
}

func (l plains) open() []int64 {
	var ids []int64
	for _, p := range l {
		if known, _, _ := p.decision(); !known || len(p.owes()) > 0 {
			ids = append(ids, p.id)
		}
	}
	slices.Sort(ids)
	return ids
}

// anyStamp draws one of few, seldom one that may not be.
func anyStamp(r *rand.Rand, from int64) api.Stamp {
	if r.Intn(30) == 0 {
		return wrongStamps()[r.Intn(6)]
	}
	return at(from+int64(r.Intn(4)), uint8(r.Intn(3)))
}

// anyParts draws nodes that rise, seldom others.
func anyParts(r *rand.Rand) []int {
	var l []int
	for node := range nodes {
		if r.Intn(3) == 0 {
			l = append(l, node)
		}
	}
	if r.Intn(10) == 0 {
		l = append(l, r.Intn(10)-1)
	}
	return l
}

// anyPart draws one that is of an ID, seldom another.
func anyPart(r *rand.Rand, p *plain) int {
	if p == nil || r.Intn(12) == 0 {
		return r.Intn(10) - 1
	}
	return p.parts[r.Intn(len(p.parts))]
}

// step does any call to both, and tells what they answered.
func step(r *rand.Rand, c *Coord, l *plains, ids int64) (what string, got, want api.Errno) {
	id := r.Int63n(ids)
	p := l.find(id)
	part := anyPart(r, p)
	switch n := r.Intn(100); {
	case n < 12:
		snap, parts := anyStamp(r, 0), anyParts(r)
		return "Begin", c.Begin(id, snap, parts...), l.begin(id, snap, parts)
	case n < 62:
		yes, s := r.Intn(12) > 0, anyStamp(r, 2)
		return "Vote", c.Vote(id, part, yes, s), l.vote(id, part, yes, s)
	case n < 66:
		a, err := c.Give(id)
		b, e := l.give(id)
		if a != b {
			return "Give's answer", -1, 0
		}
		return "Give", err, e
	case n < 94:
		return "Ack", c.Ack(id, part), l.ack(id, part)
	}
	x := rec.Record{Kind: 4, ID: id, Parts: anyParts(r)}
	if r.Intn(2) == 0 {
		x.Yes, x.Stamp = true, anyStamp(r, 0)
	}
	if r.Intn(20) == 0 {
		x.Kind = r.Intn(7)
	}
	return "Play", c.Play(x), l.play(x)
}

// like fails, unless both tell the same of all.
func like(t *testing.T, c *Coord, l plains, ids int64) {
	t.Helper()
	for id := range ids {
		is(t, c, id, l.tell(id))
	}
	open(t, c, l.open()...)
}

// P18.1, P18.2: calls in any order, held against plain lists; what is told at
// the end is told, too, by one that Played its records.
func TestAny(t *testing.T) {
	r := rand.New(rand.NewSource(18))
	seen := map[string]int{}
	for round := range 150 {
		ids := int64(2 + round%9)
		c, l := New(), plains{}
		for i := range 200 {
			what, got, want := step(r, c, &l, ids)
			if got != want {
				t.Fatalf("P18: round %d, step %d: %s: %d, want %d", round, i, what, got, want)
			}
			seen[fmt.Sprint(what, " ", int(got))]++
			like(t, c, l, ids)
			if t.Failed() {
				t.Fatalf("round %d, step %d: behind %s", round, i, what)
			}
		}
		var again plains
		other := New()
		for id := range ids {
			if x, ok := c.Record(id); ok {
				seen[fmt.Sprint("Record ", x.Yes)]++
				gets(t, "Play", other.Play(x), again.play(x))
			}
		}
		like(t, other, again, ids)
	}
	for _, s := range []string{
		"Begin 0", "Begin 1", "Begin 5", "Vote 0", "Vote 1", "Vote 4", "Give 0", "Give 4", "Ack 0", "Ack 4", "Ack 8", "Play 0", "Play 3", "Play 5", "Record true", "Record false",
	} {
		if seen[s] < 20 {
			t.Errorf("few calls were answered %s: %v", s, seen)
		}
	}
}
