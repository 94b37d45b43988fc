package walk

import (
	"iter"
	"maps"
	"slices"
	"strconv"
	"strings"
	"sync"
	"testing"

	"muster/radix"
	"muster/watch"
)

func treeOf(keys ...string) *radix.Tree[int] {
	x := radix.New[int]()
	for i, k := range keys {
		x, _, _ = x.Insert(k, i+1)
	}
	return x
}

// universes: keys near one another, of which all sets are tried.
func universes() [][]string {
	return [][]string{
		{"", "a", "b", "aa", "ab", "ba", "bb"},
		{"", "a", "abc", "abcd", "abd", "ax\x00", "\xff\xff", "\x00"},
		{"abcdef", "abcxyz", "abc", "abd", "a\x00", "a\xff", "a\x80", "a\x7f"},
	}
}

func probesOf(universe []string) []string {
	probes := []string{"", "\x00", "\xff", "c", "a\x00", "a\xff\xff", "zz"}
	for _, k := range universe {
		probes = append(probes, k, k+"\x00", k+"b", k+"\xff", k+"abc")
		if len(k) > 0 {
			probes = append(probes, k[:len(k)-1], k[:len(k)-1]+"q", k[:len(k)/2])
		}
	}
	slices.Sort(probes)
	return slices.Compact(probes)
}

// setsOf: for each set of keys of each universe, calls try with the set and the universe.
func setsOf(try func(set, universe []string)) {
	for _, universe := range universes() {
		for bits := range 1 << len(universe) {
			var set []string
			for i, k := range universe {
				if bits>>i&1 == 1 {
					set = append(set, k)
				}
			}
			try(set, universe)
		}
	}
}

// listOf: the entries of treeOf(keys), rising.
func listOf(keys []string) []entry[int] {
	var list []entry[int]
	for i, k := range keys {
		list = append(list, entry[int]{k, i + 1})
	}
	slices.SortFunc(list, func(a, b entry[int]) int { return strings.Compare(a.key, b.key) })
	return list
}

func taken[V any](walked iter.Seq2[string, V]) []entry[V] {
	var list []entry[V]
	for k, v := range walked {
		list = append(list, entry[V]{k, v})
	}
	return list
}

func keysOf[V any](walked iter.Seq2[string, V]) string {
	var keys []string
	for k := range walked {
		keys = append(keys, k)
	}
	return strings.Join(keys, " ")
}

// checkWalk: whether walked gives, of the list, just those whose key is wanted, in the list's order.
func checkWalk(t *testing.T, walked iter.Seq2[string, int], list []entry[int], what string, wanted func(k string) bool) {
	t.Helper()
	i := 0
	skip := func() {
		for i < len(list) && !wanted(list[i].key) {
			i++
		}
	}
	for k, v := range walked {
		if skip(); i == len(list) || list[i] != (entry[int]{k, v}) {
			t.Fatalf("%s gave %q, %d of %v, %v", what, k, v, list, taken(walked))
		}
		i++
	}
	if skip(); i < len(list) {
		t.Fatalf("%s didn't give %q of %v", what, list[i].key, list)
	}
}

// kinds: each kind of walk over x, by a word, with arguments out of p and q.
func kinds(x *radix.Tree[int], p, q string) map[string]iter.Seq2[string, int] {
	return map[string]iter.Seq2[string, int]{
		"All": All(x), "Back": Back(x), "Under": Under(x, p), "From": From(x, p), "Between": Between(x, p, q), "Along": Along(x, q),
	}
}

func TestExamplesOfTheChapter(t *testing.T) {
	x := treeOf("ab", "abc", "ax")
	for _, c := range []struct{ what, got, want string }{
		{"Under", keysOf(Under(x, "ab")), "ab abc"},
		{"From", keysOf(From(x, "abb")), "abc ax"},
		{"Between", keysOf(Between(x, "ab", "abc")), "ab"},
		{"Along", keysOf(Along(x, "abcd")), "ab abc"},
	} {
		if c.got != c.want {
			t.Errorf("%s gives %s, not %s", c.what, c.got, c.want)
		}
	}
	y, n := Trim(x, "ab")
	if keysOf(All(y)) != "ax" || n != 2 {
		t.Errorf("Trim leaves %s and answers %d", keysOf(All(y)), n)
	}
}

func TestAllAndBackOfAllSmallTrees(t *testing.T) {
	setsOf(func(set, _ []string) {
		x, list := treeOf(set...), listOf(set)
		every := func(string) bool { return true }
		checkWalk(t, All(x), list, "All", every)
		slices.Reverse(list)
		checkWalk(t, Back(x), list, "Back", every)
	})
}

func TestUnderFromAlongAndCountOfAllSmallTrees(t *testing.T) {
	setsOf(func(set, universe []string) {
		x, list := treeOf(set...), listOf(set)
		for _, p := range probesOf(universe) {
			under := func(k string) bool { return strings.HasPrefix(k, p) }
			checkWalk(t, Under(x, p), list, "Under "+p, under)
			checkWalk(t, From(x, p), list, "From "+p, func(k string) bool { return k >= p })
			checkWalk(t, Along(x, p), list, "Along "+p, func(k string) bool { return strings.HasPrefix(p, k) })
			want := 0
			for _, e := range list {
				if under(e.key) {
					want++
				}
			}
			if n := Count(x, p); n != want {
				t.Fatalf("Count(%q) = %d of %q", p, n, set)
			}
		}
	})
}

func TestBetweenOfAllSmallTrees(t *testing.T) {
	setsOf(func(set, universe []string) {
		x, list := treeOf(set...), listOf(set)
		probes := probesOf(universe)
		for _, lo := range probes {
			for _, hi := range probes {
				checkWalk(t, Between(x, lo, hi), list, "Between "+lo+" "+hi, func(k string) bool { return lo <= k && k < hi })
			}
		}
	})
}

func TestBetweenIsEmptyUnlessHiIsGreater(t *testing.T) {
	x := treeOf("", "a", "ab", "b")
	for _, c := range [][2]string{{"", ""}, {"a", "a"}, {"ab", "a"}, {"b", "a"}, {"a", ""}, {"\xff", "a"}} {
		if got := taken(Between(x, c[0], c[1])); len(got) != 0 {
			t.Errorf("Between(%q, %q) gives %v", c[0], c[1], got)
		}
	}
}

func TestWalksOverAnEmptyTree(t *testing.T) {
	x := radix.New[int]()
	for _, p := range []string{"", "a", "\x00", "\xff\xff"} {
		for what, walked := range kinds(x, p, p+"z") {
			if got := taken(walked); len(got) != 0 {
				t.Errorf("%s of an empty tree gives %v", what, got)
			}
		}
		if Count(x, p) != 0 {
			t.Error("Count of an empty tree")
		}
	}
}

// TestTheEmptyKeyIsAKeyLikeOthers: at the root, which is there without it, too.
func TestTheEmptyKeyIsAKeyLikeOthers(t *testing.T) {
	x := treeOf("")
	for what, walked := range kinds(x, "", "a") {
		if got := taken(walked); !slices.Equal(got, []entry[int]{{"", 1}}) {
			t.Errorf("%s gives %v", what, got)
		}
	}
	if got := taken(Along(treeOf("a", "ab"), "")); len(got) != 0 {
		t.Errorf("Along of the empty text gives %v", got)
	}
	if got := taken(From(x, "\x00")); len(got) != 0 {
		t.Errorf("From gives %v", got)
	}
}

// TestALoopLeftEarlyIsLeft: nothing is given behind the place at which it was left, and a new loop starts anew.
func TestALoopLeftEarlyIsLeft(t *testing.T) {
	x := treeOf("", "a", "ab", "abc", "abd", "ac", "b", "\xff")
	for what, walked := range kinds(x, "a", "abcd") {
		whole := taken(walked)
		for most := range whole {
			var got []entry[int]
			walked(func(k string, v int) bool {
				got = append(got, entry[int]{k, v})
				return len(got) <= most
			})
			if !slices.Equal(got, whole[:most+1]) {
				t.Errorf("%s, left at its entry %d, gave %v", what, most, got)
			}
			if again := taken(walked); !slices.Equal(again, whole) {
				t.Errorf("%s gives %v the second time, not %v", what, again, whole)
			}
		}
	}
}

func TestALoopMayBeLeftByAPanic(t *testing.T) {
	x := treeOf("a", "ab", "b")
	for what, walked := range kinds(x, "a", "ab") {
		whole := taken(walked)
		func() {
			defer func() {
				if got := recover(); got != "out" {
					t.Errorf("%s: the loop's panic came out as %v", what, got)
				}
			}()
			for range walked {
				panic("out")
			}
		}()
		if again := taken(walked); !slices.Equal(again, whole) {
			t.Errorf("%s gives %v behind a panic", what, again)
		}
	}
}

func TestLoopsWithinOneAnother(t *testing.T) {
	x := treeOf("", "a", "ab", "abc", "b")
	for what, walked := range kinds(x, "a", "abc") {
		whole := taken(walked)
		var outer []entry[int]
		for k, v := range walked {
			outer = append(outer, entry[int]{k, v})
			var inner []entry[int]
			for k, v := range walked {
				inner = append(inner, entry[int]{k, v})
			}
			if !slices.Equal(inner, whole) {
				t.Errorf("%s within itself gives %v", what, inner)
			}
			for range walked {
				break
			}
		}
		if !slices.Equal(outer, whole) || len(whole) == 0 {
			t.Errorf("%s around itself gives %v, not %v", what, outer, whole)
		}
	}
}

func TestLoopsAtOnce(t *testing.T) {
	x := treeOf("", "a", "ab", "abc", "b")
	for what, walked := range kinds(x, "a", "abc") {
		whole := taken(walked)
		got := make([][]entry[int], 8)
		var wait sync.WaitGroup
		for i := range got {
			wait.Go(func() { got[i] = taken(walked) })
		}
		wait.Wait()
		for _, one := range got {
			if !slices.Equal(one, whole) {
				t.Errorf("%s beside others gives %v", what, one)
			}
		}
	}
}

// TestAWalkIsNotDisturbed: by what is made of its tree meanwhile.
func TestAWalkIsNotDisturbed(t *testing.T) {
	x := treeOf("", "a", "ab", "abc", "b")
	for what, walked := range kinds(x, "a", "abc") {
		whole := taken(walked)
		var got []entry[int]
		y := x
		for k, v := range walked {
			got = append(got, entry[int]{k, v})
			y, _, _ = y.Insert(k+"a", 9)
			y, _, _ = y.Insert("b", 9)
			y, _, _ = y.Delete("abc")
			y, _ = Trim(y, "a")
			y.Fire([]string{"abc", "b"})
		}
		if !slices.Equal(got, whole) {
			t.Errorf("%s was disturbed: %v, not %v", what, got, whole)
		}
	}
}

func TestWalksFireNothing(t *testing.T) {
	x := treeOf("", "a", "ab", "abc", "b")
	for _, walked := range kinds(x, "a", "abc") {
		taken(walked)
	}
	Count(x, "a")
	Trim(x, "a")
	Diff(x, treeOf("a"))
	if n := x.Fire([]string{"", "abc", "ab", "a", "b"}); n != 10 {
		t.Errorf("%d watches of 10 were left to fire", n)
	}
}

// look: what can be told of a node and its value, beside another tree.
type look struct {
	value              int
	has                bool
	nodeKept, valKept  bool
	nodeFired, valDone bool
}

// looks: the nodes of now by their paths; kept: with the watch that old has there.
func looks(old, now *radix.Tree[int]) map[string]look {
	all := map[string]look{}
	var see func(n radix.Node[int])
	see = func(n radix.Node[int]) {
		p := n.Path()
		v, ok := n.Value()
		l := look{value: v, has: ok}
		l.nodeKept = old.Reach(p) == p && old.WatchUnder(p) == now.WatchUnder(p)
		l.nodeFired = now.WatchUnder(p).Fired()
		if _, had := old.Get(p); ok {
			l.valKept = had && old.Watch(p) == now.Watch(p)
			l.valDone = now.Watch(p).Fired()
		}
		all[p] = l
		for _, kid := range n.Kids() {
			see(kid)
		}
	}
	see(now.Root())
	return all
}

// watches: those of the tree's nodes and values.
func watches(x *radix.Tree[int]) []*watch.Watch {
	var all []*watch.Watch
	var see func(n radix.Node[int])
	see = func(n radix.Node[int]) {
		all = append(all, x.WatchUnder(n.Path()))
		if _, ok := n.Value(); ok {
			all = append(all, x.Watch(n.Path()))
		}
		for _, kid := range n.Kids() {
			see(kid)
		}
	}
	see(x.Root())
	return all
}

// checkNewWatches: those of now that old hasn't are unfired, and no two are one.
func checkNewWatches(t *testing.T, old, now *radix.Tree[int], what string) {
	t.Helper()
	before, seen := watches(old), map[*watch.Watch]bool{}
	for _, w := range watches(now) {
		if seen[w] {
			t.Fatalf("%s: two watches are one", what)
		}
		seen[w] = true
		if w.Fired() && !slices.Contains(before, w) {
			t.Fatalf("%s: a new watch is fired", what)
		}
	}
}

// deleted: the tree behind Deletes of the keys, one after the other.
func deleted(x *radix.Tree[int], keys []string) *radix.Tree[int] {
	for _, k := range keys {
		x, _, _ = x.Delete(k)
	}
	return x
}

// TestTrimIsARowOfDeletes: all trees, all beginnings, ahead of which some watches have been fired.
func TestTrimIsARowOfDeletes(t *testing.T) {
	setsOf(func(set, universe []string) {
		x := treeOf(set...)
		x.Fire(set[:len(set)/2])
		was := looks(x, x)
		for _, p := range probesOf(universe) {
			what := "Trim " + p + " of " + strings.Join(set, " ")
			var gone []string
			for _, e := range listOf(set) {
				if strings.HasPrefix(e.key, p) {
					gone = append(gone, e.key)
				}
			}
			y, n := Trim(x, p)
			if n != len(gone) || y.Len() != len(set)-n {
				t.Fatalf("%s: %d, %d are left", what, n, y.Len())
			}
			z := deleted(x, gone)
			if !maps.Equal(looks(x, y), looks(x, z)) {
				t.Fatalf("%s: %v, not %v", what, looks(x, y), looks(x, z))
			}
			if radix.Fresh(x, y) != radix.Fresh(x, z) || radix.Fresh(y, x) != radix.Fresh(z, x) {
				t.Fatalf("%s: Fresh is %d and %d, not %d and %d", what, radix.Fresh(x, y), radix.Fresh(y, x), radix.Fresh(x, z), radix.Fresh(z, x))
			}
			checkNewWatches(t, x, y, what)
			checkWhatATrimKeeps(t, x, y, gone)
		}
		if !maps.Equal(looks(x, x), was) {
			t.Fatalf("Trim has changed its tree of %q", set)
		}
	})
}

// checkWhatATrimKeeps: by P3.6, over all the keys that are gone: a node off their ways and every value keep their watches.
func checkWhatATrimKeeps(t *testing.T, x, y *radix.Tree[int], gone []string) {
	t.Helper()
	for p, l := range looks(x, y) {
		on := slices.ContainsFunc(gone, func(k string) bool { return strings.HasPrefix(k, p) })
		if l.nodeKept == on || l.valKept != l.has {
			t.Fatalf("behind a Trim of %q: node %q kept %v, value kept %v", gone, p, l.nodeKept, l.valKept)
		}
	}
}

func TestATrimOfNothing(t *testing.T) {
	x := treeOf("ab", "abc", "ax")
	for _, p := range []string{"abcd", "b", "aa", "\x00", "ax\x00", "A", strings.Repeat("a", 5000)} {
		y, n := Trim(x, p)
		if n != 0 || radix.Fresh(x, y) != 0 || radix.Fresh(y, x) != 0 || !slices.Equal(watches(x), watches(y)) {
			t.Errorf("Trim(%q) took out %d, made %d nodes", p, n, radix.Fresh(x, y))
		}
	}
	empty := radix.New[int]()
	if y, n := Trim(empty, ""); n != 0 || y == nil || radix.Fresh(empty, y) != 0 || y.Len() != 0 {
		t.Error("Trim of an empty tree")
	}
}

func TestATrimOfAll(t *testing.T) {
	for _, universe := range universes() {
		x := treeOf(universe...)
		y, n := Trim(x, "")
		if n != len(universe) || y.Len() != 0 || len(y.Root().Kids()) != 0 || y.WatchUnder("") == x.WatchUnder("") {
			t.Errorf("Trim took out %d of %d, left %d", n, len(universe), y.Len())
		}
		if x.Len() != len(universe) {
			t.Error("the tree that was trimmed has changed")
		}
	}
}

func TestValuesOfAnyType(t *testing.T) {
	x := radix.New[func() int]()
	for i, k := range []string{"a", "ab", "b"} {
		x, _, _ = x.Insert(k, func() int { return i })
	}
	sum := 0
	for _, f := range All(x) {
		sum += f()
	}
	y, n := Trim(x, "a")
	if sum != 3 || n != 2 || y.Len() != 1 || Count(x, "a") != 2 {
		t.Error("functions as values", sum, n)
	}
	zeros := radix.New[*int]()
	zeros, _, _ = zeros.Insert("a", nil)
	for what, walked := range map[string]iter.Seq2[string, *int]{"All": All(zeros), "Back": Back(zeros), "Along": Along(zeros, "ab")} {
		if got := taken(walked); !slices.Equal(got, []entry[*int]{{"a", nil}}) {
			t.Errorf("%s: a zero value isn't a value like others: %v", what, got)
		}
	}
}

func TestAllBytesStandInOrder(t *testing.T) {
	x := radix.New[int]()
	for i := range 256 {
		b := byte(i*37 + 11)
		x, _, _ = x.Insert("k"+string([]byte{b}), int(b))
	}
	at := 0
	for k, v := range All(x) {
		if k != "k"+string([]byte{byte(at)}) || v != at {
			t.Fatalf("entry %d of All is %q, %d", at, k, v)
		}
		at++
	}
	for k, v := range Back(x) {
		at--
		if k != "k"+string([]byte{byte(at)}) || v != at {
			t.Fatalf("entry %d of Back is %q, %d", at, k, v)
		}
	}
	for i := range 256 {
		if n := len(taken(From(x, "k"+string([]byte{byte(i)})))); n != 256-i {
			t.Fatalf("From byte %d gives %d", i, n)
		}
	}
}

// TestDeepTrees: keys nested in one another.
func TestDeepTrees(t *testing.T) {
	const deep = 3000
	long := strings.Repeat("\xff", deep)
	x := radix.New[int]()
	for n := deep; n > 0; n-- {
		x, _, _ = x.Insert(long[:n], n)
	}
	row := func(first, last int) []int {
		list := []int{first}
		for ; first != last; list = append(list, first) {
			if first < last {
				first++
			} else {
				first--
			}
		}
		return list
	}
	for what, c := range map[string]struct {
		walked iter.Seq2[string, int]
		want   []int
	}{
		"All":     {All(x), row(1, deep)},
		"Back":    {Back(x), row(deep, 1)},
		"Under":   {Under(x, long[:2000]), row(2000, deep)},
		"From":    {From(x, long[:1999]+"\x00"), row(2000, deep)},
		"Between": {Between(x, long[:10], long[:20]), row(10, 19)},
		"Along":   {Along(x, long[:1000]+"a"), row(1, 1000)},
	} {
		var got []int
		for _, v := range c.walked {
			got = append(got, v)
		}
		if !slices.Equal(got, c.want) {
			t.Errorf("%s of a deep tree gives %d, not %d", what, len(got), len(c.want))
		}
	}
	if y, n := Trim(x, long[:11]); n != deep-10 || y.Len() != 10 || Count(x, long[:11]) != n || len(Diff(x, y)) != n {
		t.Error("Trim, Count or Diff of a deep tree")
	}
}

func TestLongKeys(t *testing.T) {
	long := strings.Repeat("x", 1<<20)
	x := treeOf(long+"a", long+"b", long)
	if Count(x, long[1:]) != 3 || Count(x, long+"a") != 1 || Count(x, long+"c") != 0 || len(taken(From(x, long+"aa"))) != 1 || len(taken(Along(x, long+"bc"))) != 2 {
		t.Error("walks at long keys")
	}
}

func TestManyKeys(t *testing.T) {
	const many = 50000
	x := radix.New[int]()
	var keys []string
	for i := range many {
		k := strconv.Itoa(i * 7919 % many)
		x, _, _ = x.Insert(k, i)
		keys = append(keys, k)
	}
	slices.Sort(keys)
	i := 0
	for k := range All(x) {
		if k != keys[i] {
			t.Fatalf("entry %d is %s", i, k)
		}
		i++
	}
	y, n := Trim(x, "1")
	if i != many || n != 11111 || y.Len() != many-n || Count(y, "1") != 0 || len(taken(Between(x, "1", "2"))) != n || len(Diff(y, x)) != n {
		t.Errorf("%d entries, Trim = %d", i, n)
	}
}
