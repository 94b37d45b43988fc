package walk

import (
	"maps"
	"math"
	"slices"
	"testing"

	"muster/api"
	"muster/radix"
)

// play: the trees, and their entries, of all ways to give each of the keys one of two values or none.
func play(keys []string) ([]*radix.Tree[int], []map[string]int) {
	trees, models := []*radix.Tree[int]{radix.New[int]()}, []map[string]int{{}}
	for _, k := range keys {
		for i := range len(trees) {
			for v := range 2 {
				y, _, _ := trees[i].Insert(k, v)
				m := maps.Clone(models[i])
				m[k] = v
				trees, models = append(trees, y), append(models, m)
			}
		}
	}
	return trees, models
}

// differences: what Diff must tell, by the entries alone.
func differences(a, b map[string]int) []api.Change {
	kinds := map[string]int{}
	for k := range a {
		kinds[k] = api.ChangeGone
	}
	for k, v := range b {
		old, had := a[k]
		if !had {
			kinds[k] = api.ChangeNew
		} else if old != v {
			kinds[k] = api.ChangeOther
		} else {
			delete(kinds, k)
		}
	}
	var changes []api.Change
	for _, k := range slices.Sorted(maps.Keys(kinds)) {
		changes = append(changes, api.Change{Key: k, Kind: kinds[k]})
	}
	return changes
}

func TestDiffOfEachTwoSmallTrees(t *testing.T) {
	for _, keys := range [][]string{{"", "a", "ab", "abc", "b"}, {"ab", "ac\x00", "ac\xff", "\xff", "\x00"}} {
		trees, models := play(keys)
		for i, a := range trees {
			for j, b := range trees {
				got, want := Diff(a, b), differences(models[i], models[j])
				if !slices.Equal(got, want) {
					t.Fatalf("Diff of %v and %v = %v, not %v", models[i], models[j], got, want)
				}
			}
		}
	}
}

func TestDiffExamplesOfTheChapter(t *testing.T) {
	x := treeOf("ab", "abc", "ax")
	y, _ := Trim(x, "ab")
	gone := []api.Change{{Key: "ab", Kind: api.ChangeGone}, {Key: "abc", Kind: api.ChangeGone}}
	if got := Diff(x, y); !slices.Equal(got, gone) {
		t.Errorf("Diff = %v", got)
	}
	come := []api.Change{{Key: "ab", Kind: api.ChangeNew}, {Key: "abc", Kind: api.ChangeNew}}
	if got := Diff(y, x); !slices.Equal(got, come) {
		t.Errorf("Diff the other way = %v", got)
	}
}

// TestDiffOfStrangers: trees that share no node, with the same entries and others.
func TestDiffOfStrangers(t *testing.T) {
	setsOf(func(set, universe []string) {
		if got := Diff(treeOf(set...), treeOf(set...)); len(got) != 0 {
			t.Fatalf("Diff of like trees of %q = %v", set, got)
		}
		a, b := map[string]int{}, map[string]int{}
		for i, k := range set {
			a[k] = i + 1
		}
		for i, k := range universe {
			b[k] = i + 1
		}
		if got := Diff(treeOf(set...), treeOf(universe...)); !slices.Equal(got, differences(a, b)) {
			t.Fatalf("Diff of %q and %q = %v", set, universe, got)
		}
	})
}

// TestDiffGoesByTheValuesAlone: a value that was set again to what it was isn't another.
func TestDiffGoesByTheValuesAlone(t *testing.T) {
	x := treeOf("a", "ab")
	y, _, _ := x.Insert("a", 1)
	y, _, _ = y.Insert("c", 7)
	y, _, _ = y.Delete("c")
	if got := Diff(x, y); len(got) != 0 || x.Watch("a") == y.Watch("a") {
		t.Errorf("Diff = %v", got)
	}
}

func TestDiffAnswersNewMemory(t *testing.T) {
	x, y := treeOf("a", "b", "c"), treeOf("d")
	one, other := Diff(x, y), Diff(x, y)
	for i := range one[:cap(one)] {
		one[:cap(one)][i] = api.Change{Key: "?", Kind: 9}
	}
	if !slices.Equal(other, Diff(x, y)) || len(other) != 4 || other[0] != (api.Change{Key: "a", Kind: api.ChangeGone}) {
		t.Errorf("answers share memory: %v", other)
	}
}

// diffOf: the kind of the change between trees with one entry each; 0: none.
func diffOf[V comparable](t *testing.T, old, now V) int {
	t.Helper()
	a, _, _ := radix.New[V]().Insert("k", old)
	b, _, _ := radix.New[V]().Insert("k", now)
	changes := Diff(a, b)
	if len(changes) == 0 {
		return 0
	}
	if len(changes) > 1 || changes[0].Key != "k" {
		t.Errorf("Diff = %v", changes)
	}
	return changes[0].Kind
}

type pair struct {
	number int
	held   any
}

// TestDiffHoldsValuesByTheirEquality: == of the language, whatever the values are.
func TestDiffHoldsValuesByTheirEquality(t *testing.T) {
	nan := math.NaN()
	one, like := 1, 1
	list := []int{1}
	for what, c := range map[string]struct{ got, want int }{
		"like texts":               {diffOf(t, "x", "x"), 0},
		"unlike texts":             {diffOf(t, "x", "y"), api.ChangeOther},
		"noughts":                  {diffOf(t, 0.0, math.Copysign(0, -1)), 0},
		"no number":                {diffOf(t, nan, nan), api.ChangeOther},
		"one pointer":              {diffOf(t, &one, &one), 0},
		"two pointers":             {diffOf(t, &one, &like), api.ChangeOther},
		"like arrays":              {diffOf(t, [2]int{1, 2}, [2]int{1, 2}), 0},
		"unlike structs":           {diffOf(t, pair{1, "a"}, pair{1, "b"}), api.ChangeOther},
		"like structs":             {diffOf(t, pair{1, "a"}, pair{1, "a"}), 0},
		"nothing held":             {diffOf[any](t, nil, nil), 0},
		"like types":               {diffOf[any](t, 1, 1), 0},
		"unlike types":             {diffOf[any](t, 1, int64(1)), api.ChangeOther},
		"no equality":              {diffOf[any](t, list, list), api.ChangeOther},
		"no equality on one side":  {diffOf[any](t, list, 1), api.ChangeOther},
		"no equality of a map":     {diffOf[any](t, map[int]int{}, map[int]int{}), api.ChangeOther},
		"no equality in a struct":  {diffOf(t, pair{1, list}, pair{1, list}), api.ChangeOther},
		"no equality of functions": {diffOf[any](t, t.Fail, t.Fail), api.ChangeOther},
	} {
		if c.got != c.want {
			t.Errorf("%s: %d, not %d", what, c.got, c.want)
		}
	}
}

// TestDiffGoesOnBehindValuesWithoutEquality: and a tree differs from itself where its values aren't equal to themselves.
func TestDiffGoesOnBehindValuesWithoutEquality(t *testing.T) {
	x := radix.New[any]()
	for k, v := range map[string]any{"a": 1, "b": []int{1}, "c": "text", "d": math.NaN(), "e": nil, "f": func() {}} {
		x, _, _ = x.Insert(k, v)
	}
	want := []api.Change{{Key: "b", Kind: api.ChangeOther}, {Key: "d", Kind: api.ChangeOther}, {Key: "f", Kind: api.ChangeOther}}
	if got := Diff(x, x); !slices.Equal(got, want) {
		t.Errorf("Diff of a tree and itself = %v", got)
	}
	y, _, _ := x.Delete("b")
	want[0].Kind = api.ChangeGone
	if got := Diff(x, y); !slices.Equal(got, want) {
		t.Errorf("Diff = %v", got)
	}
}

func TestDiffOfEmptyTrees(t *testing.T) {
	empty := radix.New[int]()
	if len(Diff(empty, empty)) != 0 || len(Diff(empty, radix.New[int]())) != 0 {
		t.Error("Diff of empty trees")
	}
	if got := Diff(empty, treeOf("")); !slices.Equal(got, []api.Change{{Key: "", Kind: api.ChangeNew}}) {
		t.Errorf("Diff of an empty tree and one with the empty key = %v", got)
	}
}
