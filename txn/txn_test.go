package txn

import (
	"maps"
	"math/rand/v2"
	"slices"
	"strconv"
	"strings"
	"testing"
	"unsafe"

	"muster/api"
	"muster/radix"
	"muster/walk"
	"muster/watch"
)

// step is one call in a transaction: 's'et, 'd'rop or 't'rim.
type step struct {
	what byte
	key  string
}

// trial holds a base against what the chapter says it must be: the current entries and version, and within a transaction its own entries and touched keys.
type trial struct {
	*testing.T
	base    *Base[int]
	entries map[string]int
	version uint64
	own     map[string]int
	touched map[string]int
	next    int
}

// newTrial: a base with those keys, set by one commit, if there are any.
func newTrial(t *testing.T, keys []string) *trial {
	r := &trial{T: t, base: New[int](), entries: map[string]int{}}
	x := r.begin()
	for _, k := range keys {
		r.play(x, step{'s', k})
	}
	r.commit(x)
	return r
}

func (r *trial) begin() *Txn[int] {
	r.Helper()
	x, e := r.base.Begin()
	if e != api.OK || x == nil {
		r.Fatalf("Begin: %d", e)
	}
	r.own, r.touched = maps.Clone(r.entries), map[string]int{}
	return x
}

// play: does the step and checks its answers.
func (r *trial) play(x *Txn[int], s step) {
	r.Helper()
	r.next++
	want, has := r.own[s.key]
	switch s.what {
	case 's':
		old, had, e := x.Set(s.key, r.next)
		if old != want || had != has || e != api.OK {
			r.Fatalf("Set(%q) = %d, %v, %d", s.key, old, had, e)
		}
		r.own[s.key] = r.next
		r.touched[s.key]++
	case 'd':
		old, had, e := x.Drop(s.key)
		if old != want || had != has || e != api.OK {
			r.Fatalf("Drop(%q) = %d, %v, %d", s.key, old, had, e)
		}
		if has {
			delete(r.own, s.key)
			r.touched[s.key]++
		}
	case 't':
		count := 0
		for _, k := range keysOf(r.own) {
			if strings.HasPrefix(k, s.key) {
				delete(r.own, k)
				r.touched[k]++
				count++
			}
		}
		if n, e := x.Trim(s.key); n != count || e != api.OK {
			r.Fatalf("Trim(%q) = %d, %d, not %d", s.key, n, e, count)
		}
	}
}

func keysOf(entries map[string]int) []string {
	return slices.Sorted(maps.Keys(entries))
}

func (r *trial) checkTree(what string, tree *radix.Tree[int], entries map[string]int) {
	r.Helper()
	got := maps.Collect(walk.All(tree))
	if !maps.Equal(got, entries) || tree.Len() != len(entries) {
		r.Fatalf("%s has %v, not %v", what, got, entries)
	}
}

// checkOwn: what the transaction shows of itself.
func (r *trial) checkOwn(x *Txn[int], probes []string) {
	r.Helper()
	r.checkTree("the transaction", x.Tree(), r.own)
	for _, k := range probes {
		want, has := r.own[k]
		if v, ok := x.Get(k); v != want || ok != has {
			r.Fatalf("Get(%q) = %d, %v in the transaction", k, v, ok)
		}
	}
	if got := x.Touched(); !slices.Equal(got, keysOf(r.touched)) {
		r.Fatalf("Touched = %q, not %q", got, keysOf(r.touched))
	}
}

func (r *trial) checkBase() {
	r.Helper()
	r.checkTree("the base", r.base.Tree(), r.entries)
	if r.base.Version() != r.version {
		r.Fatalf("version %d, not %d", r.base.Version(), r.version)
	}
}

// sights: the watches of a tree, the nodes' by path, the values' by key, and which of them are fired.
type sights struct {
	nodes, values map[string]*watch.Watch
	fired         map[*watch.Watch]int
}

func sightsOf(tree *radix.Tree[int]) sights {
	s := sights{nodes: map[string]*watch.Watch{}, values: map[string]*watch.Watch{}, fired: map[*watch.Watch]int{}}
	see := func(place map[string]*watch.Watch, name string, w *watch.Watch) {
		place[name] = w
		if w.Fired() {
			s.fired[w]++
		}
	}
	var look func(n radix.Node[int])
	look = func(n radix.Node[int]) {
		see(s.nodes, n.Path(), tree.WatchUnder(n.Path()))
		if _, ok := n.Value(); ok {
			see(s.values, n.Path(), tree.Watch(n.Path()))
		}
		for _, kid := range n.Kids() {
			look(kid)
		}
	}
	look(tree.Root())
	return s
}

// touchedUnder: does one of the touched keys begin with the path?
func (r *trial) touchedUnder(path string) bool {
	return slices.ContainsFunc(keysOf(r.touched), func(k string) bool { return strings.HasPrefix(k, path) })
}

// expectFired: checks that, of the watches that a tree had, the commit has fired just those that it must; how many of them.
func (r *trial) expectFired(s sights) int {
	r.Helper()
	count := 0
	expect := func(what string, w *watch.Watch, fires bool) {
		before := s.fired[w] > 0
		if w.Fired() != (before || fires) {
			r.Fatalf("the watch of %s: fired %v behind a commit that touches %q", what, w.Fired(), keysOf(r.touched))
		}
		if fires && !before {
			count++
		}
	}
	for p, w := range s.nodes {
		expect("node "+strconv.Quote(p), w, r.touchedUnder(p))
	}
	for k, w := range s.values {
		expect("value "+strconv.Quote(k), w, r.touched[k] > 0)
	}
	return count
}

// expectShared: checks which nodes and values have kept their watches, and that the others' are new, unfired and each for itself.
func (r *trial) expectShared(old, now sights) {
	r.Helper()
	known := map[*watch.Watch]int{}
	for _, w := range old.nodes {
		known[w]++
	}
	for _, w := range old.values {
		known[w]++
	}
	expect := func(what string, was, is *watch.Watch, replaced bool) {
		if was != nil && !replaced {
			if is != was {
				r.Fatalf("%s has lost its watch in a commit that touches %q", what, keysOf(r.touched))
			}
			return
		}
		if known[is]++; known[is] > 1 || is.Fired() {
			r.Fatalf("%s has no new watch behind a commit that touches %q", what, keysOf(r.touched))
		}
	}
	for p, w := range now.nodes {
		expect("node "+strconv.Quote(p), old.nodes[p], w, r.touchedUnder(p))
	}
	for k, w := range now.values {
		expect("value "+strconv.Quote(k), old.values[k], w, r.touched[k] > 0)
	}
}

// commit: commits and checks all that P5.4 says of it.
func (r *trial) commit(x *Txn[int]) {
	r.Helper()
	old, own := r.base.Tree(), x.Tree()
	before, entries := sightsOf(old), r.entries
	n, e := x.Commit()
	if len(r.touched) > 0 {
		r.entries = maps.Clone(r.own)
		r.version++
	} else {
		own = old
	}
	r.checkBase()
	if r.base.Tree() != own {
		r.Fatal("the base has another tree than the transaction's own")
	}
	if want := r.expectFired(before); n != want || e != api.OK {
		r.Fatalf("Commit = %d, %d, not %d, touching %q", n, e, want, keysOf(r.touched))
	}
	r.expectShared(before, sightsOf(r.base.Tree()))
	r.checkTree("the old tree", old, entries)
	r.checkEnded(x)
}

// abort: aborts and checks that nothing has been.
func (r *trial) abort(x *Txn[int]) {
	r.Helper()
	tree := r.base.Tree()
	before := sightsOf(tree)
	if e := x.Abort(); e != api.OK {
		r.Fatalf("Abort = %d", e)
	}
	r.checkUntouched(tree, before)
	r.checkEnded(x)
}

// checkUntouched: the base has still that tree, with those watches.
func (r *trial) checkUntouched(tree *radix.Tree[int], before sights) {
	r.Helper()
	r.checkBase()
	if r.base.Tree() != tree {
		r.Fatal("the base has another tree")
	}
	now := sightsOf(tree)
	if !maps.Equal(before.nodes, now.nodes) || !maps.Equal(before.values, now.values) || !maps.Equal(before.fired, now.fired) {
		r.Fatal("the watches of the base's tree aren't as they were")
	}
}

// checkEnded: what each call answers behind the end, which changes nothing.
func (r *trial) checkEnded(x *Txn[int]) {
	r.Helper()
	for _, k := range []string{"", "a", "ab", "z"} {
		if v, ok := x.Get(k); v != 0 || ok {
			r.Fatalf("Get(%q) behind the end = %d, %v", k, v, ok)
		}
		if v, had, e := x.Set(k, 1); v != 0 || had || e != api.ErrOver {
			r.Fatalf("Set(%q) behind the end = %d, %v, %d", k, v, had, e)
		}
		if v, had, e := x.Drop(k); v != 0 || had || e != api.ErrOver {
			r.Fatalf("Drop(%q) behind the end = %d, %v, %d", k, v, had, e)
		}
		if n, e := x.Trim(k); n != 0 || e != api.ErrOver {
			r.Fatalf("Trim(%q) behind the end = %d, %d", k, n, e)
		}
	}
	if n, e := x.Commit(); n != 0 || e != api.ErrOver {
		r.Fatalf("Commit behind the end = %d, %d", n, e)
	}
	if e := x.Abort(); e != api.ErrOver {
		r.Fatalf("Abort behind the end = %d", e)
	}
	if x.Tree() != nil || len(x.Touched()) != 0 {
		r.Fatalf("Tree and Touched behind the end: %v, %q", x.Tree(), x.Touched())
	}
	r.checkBase()
}

func TestNewIsEmpty(t *testing.T) {
	b, c := New[int](), New[int]()
	if b.Version() != 0 || b.Tree().Len() != 0 || b.Tree().Watch("").Fired() || b.Tree() != b.Tree() {
		t.Error("a new base")
	}
	if b.Tree() == c.Tree() || b.Tree().Watch("") == c.Tree().Watch("") {
		t.Error("two bases share a tree")
	}
	x, e := b.Begin()
	if e != api.OK {
		t.Fatal("a transaction is open at the beginning")
	}
	if _, e := c.Begin(); e != api.OK {
		t.Error("another base's transaction counts")
	}
	x.Set("a", 1)
	x.Commit()
	if c.Version() != 0 || c.Tree().Len() != 0 || c.Tree().Watch("").Fired() {
		t.Error("another base's commit is seen")
	}
}

func TestExamplesOfTheChapter(t *testing.T) {
	b := New[string]()
	x, e := b.Begin()
	if e != api.OK {
		t.Fatal(e)
	}
	x.Set("a", "one")
	if y, e := b.Begin(); y != nil || e != api.ErrOpen {
		t.Errorf("a second Begin: %v, %d", y, e)
	}
	root := b.Tree().WatchUnder("")
	if n, e := x.Commit(); n != 1 || e != api.OK || b.Version() != 1 || !root.Fired() {
		t.Errorf("Commit = %d, %d, version %d", n, e, b.Version())
	}
	x, _ = b.Begin()
	if n, e := x.Commit(); n != 0 || e != api.OK || b.Version() != 1 {
		t.Errorf("a Commit of nothing = %d, %d, version %d", n, e, b.Version())
	}
	x, _ = b.Begin()
	if v, had, e := x.Drop("z"); v != "" || had || e != api.OK {
		t.Errorf("Drop = %q, %v, %d", v, had, e)
	}
	if n, e := x.Commit(); n != 0 || e != api.OK || b.Version() != 1 {
		t.Errorf("a Commit behind an idle Drop = %d, %d, version %d", n, e, b.Version())
	}
}

func TestOneTransactionAtATime(t *testing.T) {
	r := newTrial(t, []string{"a", "ab"})
	for _, end := range []func(*Txn[int]){r.commit, r.abort} {
		for _, steps := range [][]step{nil, {{'s', "b"}}, {{'d', "nowhere"}}, {{'t', "nowhere"}}} {
			x := r.begin()
			tree, before := r.base.Tree(), sightsOf(r.base.Tree())
			refused := func() {
				if y, e := r.base.Begin(); y != nil || e != api.ErrOpen {
					t.Fatalf("Begin beside an open one: %v, %d", y, e)
				}
				r.checkUntouched(tree, before)
			}
			refused()
			for _, s := range steps {
				r.play(x, s)
				refused()
			}
			r.checkOwn(x, []string{"a", "b"})
			end(x)
		}
	}
	r.commit(r.begin())
}

// An ended transaction's calls don't end the next one, and aren't seen in it.
func TestAnEndedTransactionLeavesTheNextOneAlone(t *testing.T) {
	r := newTrial(t, []string{"a"})
	first := r.begin()
	r.abort(first)
	second := r.begin()
	r.play(second, step{'s', "b"})
	r.checkEnded(first)
	r.checkOwn(second, []string{"", "a", "ab", "b"})
	if _, e := r.base.Begin(); e != api.ErrOpen {
		t.Error("the first one has ended the second")
	}
	r.commit(second)
	third := r.begin()
	r.checkEnded(second)
	r.checkOwn(third, []string{"a", "b"})
	r.commit(third)
}

// scripts: calls try with each list of at most so many of the steps.
func scripts(steps []step, most int, try func([]step)) {
	var more func(script []step)
	more = func(script []step) {
		try(script)
		if len(script) == most {
			return
		}
		for _, s := range steps {
			more(append(slices.Clone(script), s))
		}
	}
	more(nil)
}

func stepsOf(keys, beginnings []string) []step {
	var steps []step
	for _, k := range keys {
		steps = append(steps, step{'s', k}, step{'d', k})
	}
	for _, p := range beginnings {
		steps = append(steps, step{'t', p})
	}
	return steps
}

// setsOf: calls try with each set of the keys.
func setsOf(keys []string, try func(set []string)) {
	for bits := range 1 << len(keys) {
		var set []string
		for i, k := range keys {
			if bits>>i&1 == 1 {
				set = append(set, k)
			}
		}
		try(set)
	}
}

func TestAllShortTransactions(t *testing.T) {
	universes := []struct {
		keys, beginnings []string
		most             int
	}{
		{[]string{"a", "ab", "ac", "b"}, []string{"", "a", "ab"}, 3},
		{[]string{"", "a", "abc", "abd", "\x00", "\xff"}, []string{"", "a", "abc", "ab", "x", "\xff"}, 2},
	}
	for _, u := range universes {
		steps := stepsOf(u.keys, u.beginnings)
		setsOf(u.keys, func(set []string) {
			scripts(steps, u.most, func(script []step) {
				r := newTrial(t, set)
				tree, before := r.base.Tree(), sightsOf(r.base.Tree())
				x := r.begin()
				for _, s := range script {
					r.play(x, s)
				}
				r.checkOwn(x, u.keys)
				r.checkUntouched(tree, before)
				r.abort(x)

				x = r.begin()
				r.checkOwn(x, u.keys)
				for _, s := range script {
					r.play(x, s)
				}
				r.commit(x)
			})
		})
	}
}

func TestEachStepIsSeenAtOnceAndByNobodyElse(t *testing.T) {
	keys := []string{"", "a", "ab", "abc", "b", "ba", "bb\x00", "bb\xff"}
	steps := stepsOf(keys, append(keys, "bb", "c", "abcd"))
	random := rand.New(rand.NewPCG(5, 1))
	for range 200 {
		r := newTrial(t, keys[:random.IntN(len(keys))])
		tree, before := r.base.Tree(), sightsOf(r.base.Tree())
		x := r.begin()
		for range 12 {
			r.play(x, steps[random.IntN(len(steps))])
			r.checkOwn(x, keys)
			r.checkUntouched(tree, before)
		}
		r.commit(x)
	}
}

// A key stays touched though the change is taken back, and its watches are fired.
func TestAChangeThatIsTakenBackIsStillTouched(t *testing.T) {
	r := newTrial(t, []string{"ab", "ac", "b"})
	x := r.begin()
	r.play(x, step{'s', "ax"})
	r.play(x, step{'d', "ax"})
	r.checkOwn(x, []string{"ax"})
	a, root, ab, b := r.base.Tree().WatchUnder("a"), r.base.Tree().WatchUnder(""), r.base.Tree().Watch("ab"), r.base.Tree().Watch("b")
	if n, e := x.Commit(); n != 2 || e != api.OK || !a.Fired() || !root.Fired() || ab.Fired() || b.Fired() {
		t.Errorf("Commit = %d, %d", n, e)
	}
	if r.base.Version() != 2 || r.base.Tree().WatchUnder("a") == a || r.base.Tree().Watch("ab") != ab {
		t.Error("the tree behind it")
	}
	x, _ = r.base.Begin()
	v, _, _ := x.Drop("ab")
	x.Set("ab", v)
	if n, e := x.Commit(); n != 4 || e != api.OK || !ab.Fired() || r.base.Tree().Watch("ab").Fired() {
		t.Errorf("Commit of a value that is the same again = %d, %d", n, e)
	}
	x, _ = r.base.Begin()
	x.Set("ab", v)
	if got := x.Touched(); !slices.Equal(got, []string{"ab"}) {
		t.Errorf("Touched by the same value = %q", got)
	}
	if n, e := x.Commit(); n != 4 || e != api.OK || r.base.Version() != 4 {
		t.Errorf("Commit of the same value = %d, %d", n, e)
	}
}

func TestWhatDoesNotTouch(t *testing.T) {
	r := newTrial(t, []string{"ab", "b"})
	x := r.begin()
	for _, s := range []step{{'d', "a"}, {'d', ""}, {'d', "abc"}, {'t', "abc"}, {'t', "x"}, {'d', "ax"}} {
		r.play(x, s)
		r.checkOwn(x, []string{"ab", "b"})
	}
	r.play(x, step{'d', "b"})
	r.play(x, step{'d', "b"})
	r.play(x, step{'t', "b"})
	r.checkOwn(x, []string{"ab", "b"})
	r.commit(x)
	x = r.begin()
	r.play(x, step{'t', "x"})
	r.commit(x)
}

// Commit counts the watches that it fired itself.
func TestCommitCountsNoWatchThatWasFiredBefore(t *testing.T) {
	r := newTrial(t, []string{"ab", "ac", "b"})
	x := r.begin()
	r.play(x, step{'s', "ab"})
	r.base.Tree().WatchUnder("a").Fire()
	r.base.Tree().Watch("b").Fire()
	r.commit(x)
	if !r.base.Tree().Watch("b").Fired() {
		t.Error("b has another watch, though nobody has touched it")
	}
	x = r.begin()
	r.play(x, step{'d', "b"})
	r.commit(x)
}

// held is a tree or a watch that was taken from one version, with what is to become of it.
type held struct {
	tree    *radix.Tree[int]
	entries map[string]int
	seen    sights
	fired   map[*watch.Watch]int
}

func (r *trial) hold() held {
	tree := r.base.Tree()
	return held{tree, r.entries, sightsOf(tree), map[*watch.Watch]int{}}
}

// expect: the tree is as it was, and its watches are fired just where a commit since then has touched what they watch.
func (h held) expect(r *trial) {
	r.Helper()
	r.checkTree("a tree that was taken earlier", h.tree, h.entries)
	check := func(what string, w *watch.Watch, touched bool) {
		if touched {
			h.fired[w]++
		}
		if w.Fired() != (h.fired[w] > 0) {
			r.Fatalf("the watch of %s that was taken earlier: fired %v behind a commit that touches %q", what, w.Fired(), keysOf(r.touched))
		}
	}
	for p, w := range h.seen.nodes {
		check("node "+strconv.Quote(p), w, r.touchedUnder(p))
	}
	for k, w := range h.seen.values {
		check("value "+strconv.Quote(k), w, r.touched[k] > 0)
	}
}

func TestWhatWasTakenEarlierInLongHistories(t *testing.T) {
	keys := []string{"", "a", "ab", "abc", "abd", "b", "ba", "bb", "bbb", "c\x00", "c\xff"}
	steps := stepsOf(keys, []string{"ab", "b", "bb", "c", "d"})
	random := rand.New(rand.NewPCG(5, 2))
	for range 30 {
		r := newTrial(t, nil)
		all := []held{r.hold()}
		for range 30 {
			x := r.begin()
			for range random.IntN(4) {
				r.play(x, steps[random.IntN(len(steps))])
			}
			if random.IntN(4) == 0 {
				r.abort(x)
				r.touched = nil
			} else {
				r.commit(x)
			}
			for _, h := range all {
				h.expect(r)
			}
			all = append(all, r.hold())
		}
	}
}

func TestTouchedIsANewList(t *testing.T) {
	r := newTrial(t, nil)
	x := r.begin()
	r.play(x, step{'s', "b"})
	r.play(x, step{'s', "a"})
	got := x.Touched()
	got[0] = "x"
	if room := got[:cap(got)]; len(room) > 0 {
		room[len(room)-1] = "y"
	}
	r.checkOwn(x, []string{"a", "b"})
	before := x.Touched()
	r.play(x, step{'s', "0"})
	if !slices.Equal(before, []string{"a", "b"}) {
		t.Errorf("a list that was answered has changed: %q", before)
	}
	r.commit(x)
}

func TestKeysHandedInAreNotKept(t *testing.T) {
	b := New[int]()
	x, _ := b.Begin()
	room := []byte("ab")
	key := unsafe.String(&room[0], len(room))
	x.Set(key, 1)
	copy(room, "cd")
	x.Set(key, 2)
	copy(room, "ab")
	x.Drop(key)
	copy(room, "xx")
	if got := x.Touched(); !slices.Equal(got, []string{"ab", "cd"}) {
		t.Errorf("Touched = %q", got)
	}
	if n, e := x.Commit(); n != 1 || e != api.OK {
		t.Errorf("Commit = %d, %d", n, e)
	}
	if v, ok := b.Tree().Get("cd"); v != 2 || !ok || b.Tree().Len() != 1 {
		t.Errorf("Get = %d, %v", v, ok)
	}
}

func TestAnEndedTransactionKeepsNothingAlive(t *testing.T) {
	b := New[int]()
	for _, end := range []func(*Txn[int]){func(x *Txn[int]) { x.Commit() }, func(x *Txn[int]) { x.Abort() }} {
		x, _ := b.Begin()
		x.Set("a", 1)
		end(x)
		if x.base != nil || x.tree != nil || x.touched != nil {
			t.Error("it still holds what it needs no more")
		}
	}
}

// Values may be of any type, their zero value and those that == can't compare among them.
func TestValuesOfAnyType(t *testing.T) {
	b := New[[]int]()
	x, _ := b.Begin()
	if old, had, e := x.Set("a", nil); old != nil || had || e != api.OK {
		t.Error("Set", old, had, e)
	}
	if v, ok := x.Get("a"); v != nil || !ok {
		t.Error("Get", v, ok)
	}
	if old, had, e := x.Set("a", []int{1}); old != nil || !had || e != api.OK {
		t.Error("Set again", old, had, e)
	}
	if old, had, e := x.Drop("a"); len(old) != 1 || !had || e != api.OK {
		t.Error("Drop", old, had, e)
	}
	x.Set("f", []int{2})
	x.Commit()
	if v, ok := b.Tree().Get("f"); len(v) != 1 || !ok {
		t.Error("Get behind the commit", v, ok)
	}
	anything := New[any]()
	y, _ := anything.Begin()
	y.Set("f", func() {})
	y.Set("f", map[string]int{})
	y.Set("f", nil)
	if n, e := y.Commit(); n != 1 || e != api.OK {
		t.Error("Commit", n, e)
	}
}

func TestManyAndLongKeys(t *testing.T) {
	r := newTrial(t, nil)
	x := r.begin()
	for i := range 3000 {
		r.play(x, step{'s', strconv.Itoa(i * 7919 % 3000)})
	}
	for i := range 60 {
		r.play(x, step{'s', strings.Repeat("k", 1000*i)})
	}
	r.checkOwn(x, nil)
	if n, e := x.Commit(); n != 1 || e != api.OK || r.base.Version() != 1 || r.base.Tree().Len() != 3060 {
		t.Fatalf("Commit = %d, %d", n, e)
	}
	r.entries, r.version = r.own, 1
	x = r.begin()
	r.play(x, step{'t', "1"})
	r.play(x, step{'t', "kkk"})
	r.checkOwn(x, []string{"0", "1", "10", "2", "kk", "kkk"})
	r.commit(x)
	x = r.begin()
	r.play(x, step{'t', ""})
	r.commit(x)
	if r.base.Tree().Len() != 0 {
		t.Error("entries are left")
	}
}
