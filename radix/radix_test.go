package radix

import (
	"bytes"
	"maps"
	"math/rand/v2"
	"slices"
	"strconv"
	"strings"
	"testing"
	"unsafe"

	"muster/watch"
)

// model says plainly what a tree must show: the entries, and the watch of each path's node and of each key's value.
type model struct {
	entries map[string]int
	paths   []string
	nodes   map[string]*watch.Watch
	values  map[string]*watch.Watch
}

func newModel(entries map[string]int) model {
	return model{entries: entries, paths: pathsOf(entries), nodes: map[string]*watch.Watch{}, values: map[string]*watch.Watch{}}
}

func (m model) keys() []string {
	return slices.Sorted(maps.Keys(m.entries))
}

// pathsOf: the paths of chapter 3's Words, rising.
func pathsOf(entries map[string]int) []string {
	paths := map[string]bool{"": true}
	for a := range entries {
		paths[a] = true
		for b := range entries {
			if a != b {
				paths[common(a, b)] = true
			}
		}
	}
	return slices.Sorted(maps.Keys(paths))
}

func common(a, b string) string {
	for !strings.HasPrefix(b, a) {
		a = a[:len(a)-1]
	}
	return a
}

// kidsOf: of the paths, those right beneath p.
func kidsOf(paths []string, p string) []string {
	var kids []string
	for _, q := range paths {
		between := func(r string) bool {
			return r != p && r != q && strings.HasPrefix(r, p) && strings.HasPrefix(q, r)
		}
		if q != p && strings.HasPrefix(q, p) && !slices.ContainsFunc(paths, between) {
			kids = append(kids, q)
		}
	}
	return kids
}

// longestIn: the longest of the texts that is a beginning of k.
func longestIn(texts []string, k string) (string, bool) {
	longest, found := "", false
	for _, s := range texts {
		if strings.HasPrefix(k, s) && (!found || len(s) > len(longest)) {
			longest, found = s, true
		}
	}
	return longest, found
}

func treeOf(keys ...string) *Tree[int] {
	x := New[int]()
	for i, k := range keys {
		x, _, _ = x.Insert(k, i+1)
	}
	return x
}

// modelOf: the entries that the tree must have, and its watches as the tree shows them.
func modelOf(x *Tree[int], entries map[string]int) model {
	m := newModel(entries)
	for _, p := range m.paths {
		m.nodes[p] = x.WatchUnder(p)
	}
	for k := range entries {
		m.values[k] = x.Watch(k)
	}
	return m
}

// check: holds all that can be asked of the tree against the model.
func check(t *testing.T, x *Tree[int], m model, probes []string) {
	t.Helper()
	if x.Len() != len(m.entries) {
		t.Fatalf("Len = %d of %q", x.Len(), m.keys())
	}
	checkEnds(t, x, m)
	checkNodes(t, x, m)
	for _, k := range probes {
		checkProbe(t, x, m, k)
	}
}

func checkEnds(t *testing.T, x *Tree[int], m model) {
	t.Helper()
	least, greatest := "", ""
	if keys := m.keys(); len(keys) > 0 {
		least, greatest = keys[0], keys[len(keys)-1]
	}
	some := len(m.entries) > 0
	if k, v, ok := x.Least(); k != least || v != m.entries[least] || ok != some {
		t.Fatalf("Least = %q, %d, %v of %q", k, v, ok, m.keys())
	}
	if k, v, ok := x.Greatest(); k != greatest || v != m.entries[greatest] || ok != some {
		t.Fatalf("Greatest = %q, %d, %v of %q", k, v, ok, m.keys())
	}
}

func checkNodes(t *testing.T, x *Tree[int], m model) {
	t.Helper()
	var seen []string
	var look func(n Node[int])
	look = func(n Node[int]) {
		seen = append(seen, n.Path())
		want, has := m.entries[n.Path()]
		if v, ok := n.Value(); v != want || ok != has {
			t.Fatalf("Value of node %q = %d, %v of %q", n.Path(), v, ok, m.keys())
		}
		var kids []string
		for _, kid := range n.Kids() {
			kids = append(kids, kid.Path())
			look(kid)
		}
		if !slices.Equal(kids, kidsOf(m.paths, n.Path())) {
			t.Fatalf("Kids of node %q = %q of %q", n.Path(), kids, m.keys())
		}
	}
	look(x.Root())
	if !slices.Equal(seen, m.paths) {
		t.Fatalf("paths %q of %q, not %q", seen, m.keys(), m.paths)
	}
}

func checkProbe(t *testing.T, x *Tree[int], m model, k string) {
	t.Helper()
	want, has := m.entries[k]
	if v, ok := x.Get(k); v != want || ok != has {
		t.Fatalf("Get(%q) = %d, %v of %q", k, v, ok, m.keys())
	}
	longest, some := longestIn(m.keys(), k)
	if key, v, ok := x.Longest(k); key != longest || ok != some || some && v != m.entries[longest] || !some && v != 0 {
		t.Fatalf("Longest(%q) = %q, %d, %v of %q", k, key, v, ok, m.keys())
	}
	reach, _ := longestIn(m.paths, k)
	if p := x.Reach(k); p != reach {
		t.Fatalf("Reach(%q) = %q of %q", k, p, m.keys())
	}
	if x.WatchUnder(k) != m.nodes[reach] {
		t.Fatalf("WatchUnder(%q) isn't the watch of node %q of %q", k, reach, m.keys())
	}
	w := m.nodes[reach]
	if has {
		w = m.values[k]
	}
	if x.Watch(k) != w {
		t.Fatalf("Watch(%q) is another one of %q", k, m.keys())
	}
}

// universes: keys near one another, of which all sets are tried.
func universes() [][]string {
	return [][]string{
		{"", "a", "b", "aa", "ab", "ba", "bb"},
		{"", "a", "abc", "abcd", "abd", "ax\x00", "\xff\xff", "\x00"},
		{"abcdef", "abcxyz", "abc", "abd", "a\x00", "a\xff", "a\x80", "a\x7f"},
	}
}

func probesOf(universe []string) []string {
	probes := []string{"", "\x00", "\xff", "c", "a\x00", "a\xff\xff", "zz"}
	for _, k := range universe {
		probes = append(probes, k, k+"\x00", k+"b", k+"\xff", k+"abc")
		if len(k) > 0 {
			probes = append(probes, k[:len(k)-1], k[:len(k)-1]+"q", k[:len(k)/2])
		}
	}
	slices.Sort(probes)
	return slices.Compact(probes)
}

// setsOf: for each set of keys of each universe, calls try with the set and the universe.
func setsOf(try func(set, universe []string)) {
	for _, universe := range universes() {
		for bits := range 1 << len(universe) {
			var set []string
			for i, k := range universe {
				if bits>>i&1 == 1 {
					set = append(set, k)
				}
			}
			try(set, universe)
		}
	}
}

func entriesOf(set []string) map[string]int {
	entries := map[string]int{}
	for i, k := range set {
		entries[k] = i + 1
	}
	return entries
}

func TestNewIsEmpty(t *testing.T) {
	x := New[int]()
	check(t, x, modelOf(x, map[string]int{}), []string{"", "a", "\x00", "\xff"})
	if len(x.Root().Kids()) != 0 {
		t.Error("the root of an empty tree has kids")
	}
	if x.Watch("") == nil || x.Watch("").Fired() {
		t.Error("the root's watch")
	}
}

func TestTwoNewTreesShareNothing(t *testing.T) {
	x, y := New[int](), New[int]()
	if x == y || x.Watch("") == y.Watch("") || Fresh(x, y) != 1 || Fresh(y, x) != 1 {
		t.Error("two trees share a node or a watch")
	}
	x, _, _ = x.Insert("a", 1)
	if y.Len() != 0 {
		t.Error("an entry came into the other tree")
	}
	if x.Fire([]string{"a"}); y.Watch("").Fired() {
		t.Error("a watch of the other tree was fired")
	}
}

func TestExamplesOfTheChapter(t *testing.T) {
	x := treeOf("ab", "abc", "ax")
	if got, want := treePaths(x), []string{"", "a", "ab", "abc", "ax"}; !slices.Equal(got, want) {
		t.Errorf("paths %q", got)
	}
	root := x.Root()
	if len(root.Kids()) != 1 || root.Kids()[0].Path() != "a" {
		t.Fatal("the root's kids")
	}
	a := root.Kids()[0]
	if v, ok := a.Value(); v != 0 || ok || len(a.Kids()) != 2 || a.Kids()[0].Path() != "ab" || a.Kids()[1].Path() != "ax" {
		t.Error("the node a")
	}
	if k, v, ok := x.Longest("abd"); k != "ab" || v != 1 || !ok {
		t.Errorf("Longest = %q, %d, %v", k, v, ok)
	}
	if x.Reach("ay") != "a" {
		t.Errorf("Reach = %q", x.Reach("ay"))
	}
	y, _, _ := x.Delete("ax")
	if got, want := treePaths(y), []string{"", "ab", "abc"}; !slices.Equal(got, want) {
		t.Errorf("paths without ax %q", got)
	}
	if x.Watch("ay") != x.WatchUnder("a") {
		t.Error("Watch(ay) isn't the watch of the node a")
	}
	z, _, _ := x.Insert("ay", 4)
	if z.WatchUnder("a") == x.WatchUnder("a") || z.WatchUnder("ab") != x.WatchUnder("ab") {
		t.Error("which node has a new watch")
	}
}

func treePaths(x *Tree[int]) []string {
	var paths []string
	var look func(n Node[int])
	look = func(n Node[int]) {
		paths = append(paths, n.Path())
		for _, kid := range n.Kids() {
			look(kid)
		}
	}
	look(x.Root())
	return paths
}

func TestAllSmallTrees(t *testing.T) {
	setsOf(func(set, universe []string) {
		x := treeOf(set...)
		check(t, x, modelOf(x, entriesOf(set)), probesOf(universe))
	})
}

func TestNodesDontHangOnTheOrderOfInserts(t *testing.T) {
	setsOf(func(set, _ []string) {
		falling := slices.Clone(set)
		slices.Reverse(falling)
		x, y := treeOf(set...), treeOf(falling...)
		if !slices.Equal(treePaths(x), treePaths(y)) {
			t.Fatalf("paths %q and %q of %q", treePaths(x), treePaths(y), set)
		}
	})
}

// after: the model of what P3.2 and P3.6 say a step makes of m. A path or key that has nil gets a watch that is new.
func after(m model, k string, entries map[string]int) model {
	now := newModel(entries)
	for _, p := range now.paths {
		if !strings.HasPrefix(k, p) {
			now.nodes[p] = m.nodes[p]
		} else {
			now.nodes[p] = nil
		}
	}
	for key := range entries {
		if key != k {
			now.values[key] = m.values[key]
		} else {
			now.values[key] = nil
		}
	}
	return now
}

// takeNew: puts the tree's own watches where the model has nil, and checks that they are new, unfired, and each for itself.
func takeNew(t *testing.T, x *Tree[int], m, before model) {
	t.Helper()
	known := map[*watch.Watch]bool{}
	for _, w := range before.nodes {
		known[w] = true
	}
	for _, w := range before.values {
		known[w] = true
	}
	take := func(what string, w *watch.Watch) *watch.Watch {
		if w == nil || w.Fired() || known[w] {
			t.Fatalf("the watch of %s isn't new", what)
		}
		known[w] = true
		return w
	}
	for p, w := range m.nodes {
		if w == nil {
			m.nodes[p] = take("node "+p, x.WatchUnder(p))
		}
	}
	for k, w := range m.values {
		if w == nil {
			m.values[k] = take("value "+k, x.Watch(k))
		}
	}
}

// checkFresh: P3.9 of a step at k from old to now, whose model is m.
func checkFresh(t *testing.T, old, now *Tree[int], m model, k string) {
	t.Helper()
	on := 0
	for _, p := range m.paths {
		if strings.HasPrefix(k, p) {
			on++
		}
	}
	if f := Fresh(old, now); f < on || f > on+1 {
		t.Fatalf("Fresh = %d after a step at %q to %q with %d nodes on the way", f, k, m.keys(), on)
	}
	if Fresh(now, now) != 0 || Fresh(old, old) != 0 {
		t.Fatal("Fresh of a tree and itself")
	}
}

// insert: does an Insert and checks all that the chapter says of it.
func insert(t *testing.T, x *Tree[int], m model, k string, v int) (*Tree[int], model) {
	t.Helper()
	want, has := m.entries[k]
	y, old, had := x.Insert(k, v)
	if old != want || had != has {
		t.Fatalf("Insert(%q) = %d, %v of %q", k, old, had, m.keys())
	}
	entries := maps.Clone(m.entries)
	entries[k] = v
	now := after(m, k, entries)
	takeNew(t, y, now, m)
	checkFresh(t, x, y, now, k)
	return y, now
}

// remove: does a Delete and checks all that the chapter says of it.
func remove(t *testing.T, x *Tree[int], m model, k string) (*Tree[int], model) {
	t.Helper()
	want, has := m.entries[k]
	y, old, had := x.Delete(k)
	if old != want || had != has {
		t.Fatalf("Delete(%q) = %d, %v of %q", k, old, had, m.keys())
	}
	if !has {
		if Fresh(x, y) != 0 || Fresh(y, x) != 0 {
			t.Fatalf("Delete(%q) that found nothing made nodes, of %q", k, m.keys())
		}
		return y, m
	}
	entries := maps.Clone(m.entries)
	delete(entries, k)
	now := after(m, k, entries)
	takeNew(t, y, now, m)
	checkFresh(t, x, y, now, k)
	return y, now
}

func TestAllStepsFromAllSmallTrees(t *testing.T) {
	setsOf(func(set, universe []string) {
		x := treeOf(set...)
		m := modelOf(x, entriesOf(set))
		probes := probesOf(universe)
		for _, k := range universe {
			y, now := insert(t, x, m, k, 100)
			check(t, y, now, probes)
			y, now = remove(t, x, m, k)
			check(t, y, now, probes)
		}
		check(t, x, m, probes)
	})
}

func TestKeysThatAreNotThereAreNotDeleted(t *testing.T) {
	x := treeOf("ab", "abc", "ax")
	m := modelOf(x, map[string]int{"ab": 1, "abc": 2, "ax": 3})
	for _, k := range []string{"", "a", "abcd", "abx", "b", "\x00", "ac", "A"} {
		y, now := remove(t, x, m, k)
		check(t, y, now, probesOf([]string{"ab", "abc", "ax", k}))
	}
}

func TestInsertOfTheSameValueIsANewObject(t *testing.T) {
	x := treeOf("a", "ab")
	y, old, had := x.Insert("a", 1)
	if old != 1 || !had || y.Len() != 2 {
		t.Errorf("Insert = %d, %v of %d", old, had, y.Len())
	}
	if y.Watch("a") == x.Watch("a") || y.WatchUnder("a") == x.WatchUnder("a") || y.WatchUnder("") == x.WatchUnder("") {
		t.Error("a watch stayed")
	}
	if y.Watch("ab") != x.Watch("ab") || y.WatchUnder("ab") != x.WatchUnder("ab") {
		t.Error("a watch didn't stay")
	}
}

// TestLongPlay: a long row of steps; each tree must be as it was, whatever has been made of it.
func TestLongPlay(t *testing.T) {
	random := rand.New(rand.NewPCG(1, 2))
	key := func() string {
		b := make([]byte, random.IntN(6))
		for i := range b {
			b[i] = "\x00a\xff"[random.IntN(3)]
		}
		return string(b)
	}
	x := New[int]()
	m := modelOf(x, map[string]int{})
	var trees []*Tree[int]
	var models []model
	for i := range 500 {
		if k := key(); random.IntN(5) < 3 {
			x, m = insert(t, x, m, k, i)
		} else {
			x, m = remove(t, x, m, k)
		}
		trees, models = append(trees, x), append(models, m)
	}
	for i := range trees {
		check(t, trees[i], models[i], []string{key(), key(), key(), key()})
	}
}

func TestDeleteOfAllLeavesTheRoot(t *testing.T) {
	for _, universe := range universes() {
		x := treeOf(universe...)
		for _, k := range universe {
			x, _, _ = x.Delete(k)
		}
		check(t, x, modelOf(x, map[string]int{}), probesOf(universe))
	}
}

// firedBy: which of the tree's watches a Fire of the keys fires.
func firedBy(m model, keys []string) map[*watch.Watch]bool {
	fired := map[*watch.Watch]bool{}
	for _, k := range keys {
		for p, w := range m.nodes {
			if strings.HasPrefix(k, p) {
				fired[w] = true
			}
		}
		if w, has := m.values[k]; has {
			fired[w] = true
		}
	}
	return fired
}

func checkFired(t *testing.T, m model, fired map[*watch.Watch]bool) {
	t.Helper()
	for p, w := range m.nodes {
		if w.Fired() != fired[w] {
			t.Fatalf("node %q of %q: fired %v", p, m.keys(), w.Fired())
		}
	}
	for k, w := range m.values {
		if w.Fired() != fired[w] {
			t.Fatalf("value %q of %q: fired %v", k, m.keys(), w.Fired())
		}
	}
}

func TestFireAtAllSmallTrees(t *testing.T) {
	setsOf(func(set, universe []string) {
		probes := probesOf(universe)
		for i, k := range probes {
			keys := []string{k, probes[(i*7+3)%len(probes)], k}
			given := slices.Clone(keys)
			x := treeOf(set...)
			m := modelOf(x, entriesOf(set))
			first := firedBy(m, keys[:1])
			if n := x.Fire(keys[:1]); n != len(first) {
				t.Fatalf("Fire(%q) = %d of %q", keys[:1], n, set)
			}
			checkFired(t, m, first)
			all := firedBy(m, keys)
			if n := x.Fire(keys); n != len(all)-len(first) {
				t.Fatalf("Fire(%q) again = %d of %q", keys, n, set)
			}
			checkFired(t, m, all)
			if x.Fire(keys) != 0 || !slices.Equal(keys, given) {
				t.Fatalf("Fire(%q) for the third time", keys)
			}
		}
	})
}

func TestFireOfNoKeys(t *testing.T) {
	x := treeOf("", "a")
	if x.Fire(nil) != 0 || x.Fire([]string{}) != 0 || x.Watch("").Fired() || x.WatchUnder("").Fired() {
		t.Error("something was fired")
	}
}

// TestNothingUnderComesOrGoesUnseen: P3.7's last sentence.
func TestNothingUnderComesOrGoesUnseen(t *testing.T) {
	setsOf(func(set, universe []string) {
		for _, p := range probesOf(universe) {
			for _, k := range universe {
				x := treeOf(set...)
				w, reach := x.WatchUnder(p), x.Reach(p)
				x.Fire([]string{k})
				if w.Fired() != strings.HasPrefix(k, reach) {
					t.Fatalf("WatchUnder(%q) fired by %q: %v, of %q", p, k, w.Fired(), set)
				}
				if strings.HasPrefix(k, p) && !w.Fired() {
					t.Fatalf("WatchUnder(%q) doesn't tell of %q, of %q", p, k, set)
				}
			}
		}
	})
}

func TestFiringIsSeenInOtherTrees(t *testing.T) {
	x := treeOf("ab", "abc", "ax")
	y, _, _ := x.Insert("ay", 4)
	if n := x.Fire([]string{"abc"}); n != 5 {
		t.Errorf("Fire = %d", n)
	}
	if !y.WatchUnder("ab").Fired() || !y.WatchUnder("abc").Fired() || !y.Watch("abc").Fired() {
		t.Error("what the trees share isn't fired in the other")
	}
	if y.WatchUnder("").Fired() || y.WatchUnder("a").Fired() || y.Watch("ab").Fired() || y.Watch("ay").Fired() {
		t.Error("what is new or off the way is fired in the other")
	}
	if n := y.Fire([]string{"abc"}); n != 2 {
		t.Errorf("Fire in the other = %d", n)
	}
}

func TestAWatchThatIsFiredStaysWithItsNode(t *testing.T) {
	x := treeOf("ab", "ax")
	x.Fire([]string{"ab"})
	y, _, _ := x.Insert("ax", 3)
	if !y.WatchUnder("ab").Fired() || !y.Watch("ab").Fired() {
		t.Error("the fired watches went")
	}
	if y.WatchUnder("").Fired() || y.WatchUnder("a").Fired() || y.WatchUnder("ax").Fired() || y.Watch("ax").Fired() {
		t.Error("a new watch is fired")
	}
	z, _, _ := y.Insert("ab", 3)
	if z.WatchUnder("ab").Fired() || z.Watch("ab").Fired() {
		t.Error("a new watch is fired")
	}
}

func TestFreshOverManySteps(t *testing.T) {
	old := treeOf("a", "b", "c")
	now := old
	for _, k := range []string{"d", "d", "ab", "ac"} {
		now, _, _ = now.Insert(k, 9)
	}
	now, _, _ = now.Delete("d")
	now, _, _ = now.Delete("b")
	if f := Fresh(old, now); f != 4 { // "", "a", "ab", "ac"
		t.Errorf("Fresh = %d", f)
	}
	if f := Fresh(now, old); f != 3 { // "", "a", "b"
		t.Errorf("Fresh of now and old = %d", f)
	}
}

func TestFreshOfStrangers(t *testing.T) {
	setsOf(func(set, universe []string) {
		x, y := treeOf(set...), treeOf(universe...)
		if f := Fresh(x, y); f != len(pathsOf(entriesOf(universe))) {
			t.Fatalf("Fresh of %q and a tree of its own = %d", set, f)
		}
		if f := Fresh(y, x); f != len(pathsOf(entriesOf(set))) {
			t.Fatalf("Fresh of a tree of its own and %q = %d", set, f)
		}
	})
}

// TestFreshFindsWhatIsShared: each two trees of one history, against a count of the nodes themselves.
func TestFreshFindsWhatIsShared(t *testing.T) {
	trees := []*Tree[int]{New[int]()}
	for _, k := range []string{"abc", "ab", "abd", "", "x", "abcde", "abcdf", "xy", "ab"} {
		y, _, _ := trees[len(trees)-1].Insert(k, 1)
		trees = append(trees, y)
	}
	for _, k := range []string{"abc", "x", "", "abd", "abcde"} {
		y, _, _ := trees[len(trees)-1].Delete(k)
		trees = append(trees, y)
	}
	objects := make([]map[*node[int]]bool, len(trees))
	for i, x := range trees {
		objects[i] = map[*node[int]]bool{}
		gather(x.root, objects[i])
	}
	for i, old := range trees {
		for j, now := range trees {
			want := 0
			for n := range objects[j] {
				if !objects[i][n] {
					want++
				}
			}
			if f := Fresh(old, now); f != want {
				t.Errorf("Fresh of trees %d and %d = %d, not %d", i, j, f, want)
			}
		}
	}
}

func gather(n *node[int], into map[*node[int]]bool) {
	into[n] = true
	for _, kid := range n.kids {
		gather(kid, into)
	}
}

func TestKidsAreNewLists(t *testing.T) {
	x := treeOf("a", "b", "c")
	kids := x.Root().Kids()
	kids[0], kids[1] = kids[2], Node[int]{}
	_ = append(kids[:1], kids[2])
	check(t, x, modelOf(x, map[string]int{"a": 1, "b": 2, "c": 3}), []string{"a", "b", "c"})
}

func TestNodesOfAnOldTreeStay(t *testing.T) {
	x := treeOf("ab", "ax")
	a := x.Root().Kids()[0]
	y, _, _ := x.Insert("ay", 3)
	y, _, _ = y.Insert("a", 4)
	if _, ok := a.Value(); ok || len(a.Kids()) != 2 || a.Path() != "a" {
		t.Error("a node that is held has changed")
	}
	if n := y.Root().Kids()[0]; len(n.Kids()) != 3 {
		t.Error("the new tree's node")
	}
}

func TestAllBytesStandInOrder(t *testing.T) {
	x := New[int]()
	for i := range 256 {
		b := byte(i*37 + 11)
		x, _, _ = x.Insert("k"+string([]byte{b}), int(b))
	}
	kids := x.Root().Kids()[0].Kids()
	if len(kids) != 256 {
		t.Fatalf("%d kids", len(kids))
	}
	for i, kid := range kids {
		if v, ok := kid.Value(); kid.Path() != "k"+string([]byte{byte(i)}) || v != i || !ok {
			t.Fatalf("kid %d is %q with %d", i, kid.Path(), v)
		}
	}
	for i := range 256 {
		var had bool
		if x, _, had = x.Delete("k" + string([]byte{byte(i)})); !had || x.Len() != 255-i {
			t.Fatalf("Delete of byte %d", i)
		}
	}
}

// TestKeysAreNotKept: a key's bytes are written over behind the call, as only unsafe can.
func TestKeysAreNotKept(t *testing.T) {
	x := New[int]()
	room := make([]byte, 16)
	key := func(s string) string {
		return unsafe.String(&room[0], copy(room, s))
	}
	spoil := func() { copy(room, bytes.Repeat([]byte{'?'}, len(room))) }
	for i, k := range []string{"abcd", "abxy", "ab", "a", "abcd"} {
		x, _, _ = x.Insert(key(k), i+1)
		spoil()
	}
	check(t, x, modelOf(x, map[string]int{"abcd": 5, "abxy": 2, "ab": 3, "a": 4}), []string{"abcd", "abx"})
	reach := x.Reach(key("abq"))
	longest, _, _ := x.Longest(key("abcq"))
	spoil()
	if reach != "ab" || longest != "ab" {
		t.Errorf("answers that share memory with the key: %q, %q", reach, longest)
	}
	y, _, _ := x.Delete(key("ab"))
	spoil()
	check(t, y, modelOf(y, map[string]int{"abcd": 5, "abxy": 2, "a": 4}), []string{"abcd", "abx"})
}

// TestABranchDoesntKeepTheKeyThatMadeIt: when the key is gone, so are its bytes.
func TestABranchDoesntKeepTheKeyThatMadeIt(t *testing.T) {
	for _, keys := range [][]string{{"ab", "acz"}, {"ad", "acz"}} {
		branch := treeOf(keys...).root.kids[0]
		for _, kid := range branch.kids {
			if unsafe.StringData(kid.path) == unsafe.StringData(branch.path) {
				t.Errorf("the branch's path is a piece of %q", kid.path)
			}
		}
	}
}

func TestValuesOfAnyType(t *testing.T) {
	lists, had := New[[]int](), false
	lists, _, _ = lists.Insert("a", []int{1, 2})
	if v, ok := lists.Get("a"); len(v) != 2 || !ok {
		t.Error("a list as value")
	}
	if v, ok := lists.Get("b"); v != nil || ok {
		t.Error("no list")
	}
	calls := New[func() int]()
	calls, _, _ = calls.Insert("", func() int { return 7 })
	if k, f, ok := calls.Longest("xyz"); k != "" || !ok || f() != 7 {
		t.Error("a function as value")
	}
	if calls, _, had = calls.Delete(""); !had || calls.Len() != 0 {
		t.Error("a function taken out")
	}
	nils := New[any]()
	nils, _, _ = nils.Insert("a", nil)
	if v, ok := nils.Get("a"); v != nil || !ok || nils.Len() != 1 {
		t.Error("nil is a value like others")
	}
	if _, v, had := nils.Insert("a", 1); v != nil || !had {
		t.Error("nil was a value like others")
	}
}

// TestDeepTrees: keys nested in one another, and steps at both of their ends.
func TestDeepTrees(t *testing.T) {
	const deep = 3000
	long := strings.Repeat("\xff", deep)
	x := New[int]()
	for n := deep; n > 0; n-- {
		x, _, _ = x.Insert(long[:n], n)
	}
	if k, v, ok := x.Least(); k != long[:1] || v != 1 || !ok {
		t.Error("Least", v)
	}
	if k, v, ok := x.Greatest(); k != long || v != deep || !ok {
		t.Error("Greatest", v)
	}
	y, v, had := x.Delete(long)
	if v != deep || !had || y.Len() != deep-1 || Fresh(x, y) != deep || Fresh(New[int](), y) != deep {
		t.Error("Delete of the deepest")
	}
	if k, v, _ := y.Longest(long + "a"); k != long[:deep-1] || v != deep-1 || y.Reach(long) != k {
		t.Error("Longest", v)
	}
	if n := x.Fire([]string{long, long}); n != deep+2 {
		t.Error("Fire", n)
	}
}

func TestLongKeys(t *testing.T) {
	long := strings.Repeat("x", 1<<20)
	x := treeOf(long+"a", long+"b", long)
	if got := treePaths(x); !slices.Equal(got, []string{"", long, long + "a", long + "b"}) {
		t.Error("paths of long keys")
	}
	if x.Reach(long[1:]) != "" || x.Reach(long+"c") != long {
		t.Error("Reach of long keys")
	}
}

func TestManyKeys(t *testing.T) {
	const many = 50000
	x := New[int]()
	for i := range many {
		x, _, _ = x.Insert(strconv.Itoa(i*7919%many), i)
	}
	held := x
	for i := 0; i < many; i += 2 {
		x, _, _ = x.Delete(strconv.Itoa(i))
	}
	if held.Len() != many || x.Len() != many/2 {
		t.Fatalf("Len = %d and %d", held.Len(), x.Len())
	}
	for i := range many {
		if _, ok := x.Get(strconv.Itoa(i)); ok != (i%2 == 1) {
			t.Fatalf("Get of %d: %v", i, ok)
		}
		if _, ok := held.Get(strconv.Itoa(i)); !ok {
			t.Fatalf("the old tree lost %d", i)
		}
	}
}
