package lrzero

import (
	"math/rand"
	"reflect"
	"slices"
	"testing"

	"pleacher/api"
	"pleacher/gram"
	"pleacher/symbols"
)

// item makes an item.
func item(rule, dot int) api.Item {
	return api.Item{Rule: rule, Dot: dot}
}

// items makes a list of items of pairs of numbers.
func items(numbers ...int) []api.Item {
	var l []api.Item
	for i := 0; i < len(numbers); i += 2 {
		l = append(l, item(numbers[i], numbers[i+1]))
	}
	return l
}

// some is ordinary syntaxes and some at random.
func some(n int) []api.Syntax {
	r := rand.New(rand.NewSource(12))
	l := ordinary()
	for range n {
		l = append(l, randomSyntax(r))
	}
	return l
}

func TestExample(t *testing.T) {
	g, _ := gram.Read("token a a\nstart s\nrule s : a s\nrule s : a")
	x, e := symbols.Resolve(g)
	if e != api.OK {
		t.Fatal(e)
	}
	a, e := Build(x)
	want := api.Automaton{
		Kernels: [][]api.Item{items(2, 0), items(0, 1, 1, 1), items(2, 1), items(0, 2)},
		Next:    [][]int{{1, -1, 2}, {1, -1, 3}, {-1, -1, -1}, {-1, -1, -1}},
	}
	if e != api.OK || !reflect.DeepEqual(a, want) {
		t.Error(show(a), e)
	}
	for k, want := range [][]int{nil, {1}, {2}, {0}} {
		if l := Done(x, a, k); !slices.Equal(l, want) {
			t.Error(k, l)
		}
	}
}

func TestP121Right(t *testing.T) {
	for _, x := range some(100) {
		for n, r := range x.Rules {
			if l, ok := Right(x, n); !ok || !slices.Equal(l, r.Right) {
				t.Error(x, n, l, ok)
			}
		}
		if l, ok := Right(x, len(x.Rules)); !ok || !slices.Equal(l, []int{x.Start}) {
			t.Error(x, "the start's", l, ok)
		}
		for _, n := range []int{-1, len(x.Rules) + 1, -1 << 63, 1<<63 - 1} {
			if l, ok := Right(x, n); ok || l != nil {
				t.Error(x, n, l, ok)
			}
		}
	}
}

func TestP121RightOfWrong(t *testing.T) {
	for name, x := range wrongs(sums) {
		for n := -1; n <= len(x.Rules)+1; n++ {
			if l, ok := Right(x, n); ok || l != nil {
				t.Error(name, n, l, ok)
			}
		}
	}
}

func TestP122CloseOrdinary(t *testing.T) {
	for _, c := range []struct {
		name       string
		x          api.Syntax
		give, want []api.Item
	}{
		{"none", sums(), nil, nil},
		{"the start's", sums(), items(6, 0), items(0, 0, 1, 0, 2, 0, 3, 0, 4, 0, 5, 0, 6, 0)},
		{"the start's at the end", sums(), items(6, 1), items(6, 1)},
		{"ahead of a term", sums(), items(0, 1), items(0, 1)},
		{"ahead of an other", sums(), items(0, 2), items(0, 2, 2, 0, 3, 0, 4, 0, 5, 0)},
		{"ahead of the last other", sums(), items(2, 2), items(2, 2, 4, 0, 5, 0)},
		{"at the end", sums(), items(0, 3), items(0, 3)},
		{"several out of order", sums(), items(4, 3, 2, 2, 0, 3, 0, 1), items(0, 1, 0, 3, 2, 2, 4, 0, 4, 3, 5, 0)},
		{"twice", sums(), items(0, 1, 0, 1, 2, 1, 0, 1), items(0, 1, 2, 1)},
		{"told, and brought too", sums(), items(5, 0, 2, 2, 4, 0), items(2, 2, 4, 0, 5, 0)},
		{"no rule", sums(), items(-1, 0, 7, 0, -1<<63, 0, 1<<63-1, 0), nil},
		{"Dot below 0", sums(), items(0, -1, 6, -1, 5, -1<<63), nil},
		{"Dot too large", sums(), items(0, 4, 6, 2, 5, 2, 5, 1<<63-1), nil},
		{"some that there aren't", sums(), items(7, 0, 0, 4, 2, 2, 5, -1), items(2, 2, 4, 0, 5, 0)},
		{"without a right side", hollow(), items(0, 0), items(0, 0, 1, 0, 2, 0)},
		{"behind what may be empty", hollow(), items(0, 1), items(0, 1, 1, 0, 2, 0, 3, 0, 4, 0)},
		{"a rule without a right side", hollow(), items(1, 0, 3, 0), items(1, 0, 3, 0)},
		{"beyond a rule without a right side", hollow(), items(1, 1), nil},
		{"a ring from the start", ring(), items(5, 0), items(0, 0, 1, 0, 2, 0, 3, 0, 4, 0, 5, 0)},
		{"a ring from within", ring(), items(3, 0), items(0, 0, 1, 0, 2, 0, 3, 0, 4, 0)},
		{"a rule of which much is read, and the same one begun", ring(), items(1, 2, 1, 0, 1, 1), items(0, 0, 1, 0, 1, 1, 1, 2, 2, 0, 3, 0, 4, 0)},
		{"a rule that is there twice", late(), items(6, 0), items(0, 0, 1, 0, 2, 0, 3, 0, 4, 0, 5, 0, 6, 0)},
	} {
		if l := Close(c.x, c.give...); !slices.Equal(l, c.want) {
			t.Error(c.name, l)
		}
	}
}

func TestP122CloseByWords(t *testing.T) {
	r := rand.New(rand.NewSource(1))
	for _, x := range some(200) {
		for range 20 {
			var l []api.Item
			for range r.Intn(6) {
				l = append(l, item(r.Intn(len(x.Rules)+3)-1, r.Intn(6)-1))
			}
			want := plainClose(x, l...)
			if got := Close(x, l...); !slices.Equal(got, want) {
				t.Fatal(x, l, got, want)
			}
			r.Shuffle(len(l), func(i, j int) { l[i], l[j] = l[j], l[i] })
			if got := Close(x, append(l, l...)...); !slices.Equal(got, want) {
				t.Fatal(x, l, got, want)
			}
		}
	}
}

// TestP122CloseByRows: what is closed of a state is all that is under way behind a row that leads there.
func TestP122CloseByRows(t *testing.T) {
	for _, x := range some(60) {
		a, rows := plainBuild(x)
		for k, row := range rows {
			if got, want := Close(x, a.Kernels[k]...), plainItems(x, row); !slices.Equal(got, want) {
				t.Fatal(x, row, got, want)
			}
		}
	}
}

func TestP122CloseOfWrong(t *testing.T) {
	for name, x := range wrongs(sums) {
		if l := Close(x, items(0, 0, 6, 0, 1, 1, 0, 2)...); len(l) != 0 {
			t.Error(name, l)
		}
		if l := Close(x); len(l) != 0 {
			t.Error(name, l)
		}
	}
}

func TestP122CloseOfMany(t *testing.T) {
	x := sums()
	many := make([]api.Item, 1_000_000)
	for i := range many {
		many[i] = item(i%9-1, i%6-1)
	}
	if got, want := Close(x, many...), plainClose(x, many...); !slices.Equal(got, want) || len(got) == 0 {
		t.Error(got, want)
	}
}

func TestP123BuildOrdinary(t *testing.T) {
	a := good(t, sums())
	want := [][]api.Item{
		items(6, 0),
		items(4, 1), items(5, 1), items(0, 1, 6, 1), items(1, 1, 2, 1), items(3, 1), // from 0, by a2, a4, s, t, u
		items(0, 1, 4, 2), // from 1, by s
		items(0, 2),       // from 3, by a0
		items(2, 2),       // from 4, by a1
		items(4, 3),       // from 6, by a3
		items(0, 3, 2, 1), // from 7, by t
		items(2, 3),       // from 8, by u
	}
	if !reflect.DeepEqual(a.Kernels, want) {
		t.Error(show(a))
	}
	next := [][]int{
		{-1, -1, 1, -1, 2, -1, 3, 4, 5},
		{-1, -1, 1, -1, 2, -1, 6, 4, 5},
		{-1, -1, -1, -1, -1, -1, -1, -1, -1},
		{7, -1, -1, -1, -1, -1, -1, -1, -1},
		{-1, 8, -1, -1, -1, -1, -1, -1, -1},
		{-1, -1, -1, -1, -1, -1, -1, -1, -1},
		{7, -1, -1, 9, -1, -1, -1, -1, -1},
		{-1, -1, 1, -1, 2, -1, -1, 10, 5},
		{-1, -1, 1, -1, 2, -1, -1, -1, 11},
		{-1, -1, -1, -1, -1, -1, -1, -1, -1},
		{-1, 8, -1, -1, -1, -1, -1, -1, -1},
		{-1, -1, -1, -1, -1, -1, -1, -1, -1},
	}
	if !reflect.DeepEqual(a.Next, next) {
		t.Error(show(a))
	}
}

// TestP123StateZeroAgain: no other state has the kernel of the state 0, though one closes to nearly the same items.
func TestP123StateZeroAgain(t *testing.T) {
	a := good(t, syntax(1, 1, rule(2, 0, 2, 0), rule(2)))
	want := api.Automaton{
		Kernels: [][]api.Item{items(2, 0), items(0, 1), items(2, 1), items(0, 2), items(0, 3)},
		Next:    [][]int{{1, -1, 2}, {1, -1, 3}, {-1, -1, -1}, {4, -1, -1}, {-1, -1, -1}},
	}
	if !reflect.DeepEqual(a, want) {
		t.Error(show(a))
	}
}

func TestP123BuildByWords(t *testing.T) {
	states := 0
	for _, x := range some(400) {
		want, _ := plainBuild(x)
		if a := good(t, x); !plainSame(a, want) {
			t.Fatalf("%v\n%s\n%s", x, show(a), show(want))
		}
		states = max(states, len(want.Kernels))
	}
	if states < 20 {
		t.Error("too little was tried:", states)
	}
}

// TestP123Form: what holds of each automaton, whatever its states are.
func TestP123Form(t *testing.T) {
	for _, x := range append(some(200), wide(300), long()) {
		a := good(t, x)
		if len(a.Next) != len(a.Kernels) || !slices.Equal(a.Kernels[0], items(len(x.Rules), 0)) {
			t.Fatal(x, show(a))
		}
		told := 1
		for k, row := range a.Next {
			if len(row) != len(x.Names) || row[x.Terms] != -1 {
				t.Fatal(x, k, row)
			}
			for _, to := range row {
				if to == told {
					told++
				}
				if to < -1 || to == 0 || to >= told {
					t.Fatal(x, k, row)
				}
			}
		}
		if told != len(a.Kernels) {
			t.Fatal(x, told)
		}
		checkKernels(t, x, a)
	}
}

// checkKernels asks whether each kernel rises, isn't empty and is there once.
func checkKernels(t *testing.T, x api.Syntax, a api.Automaton) {
	t.Helper()
	for k, kernel := range a.Kernels {
		for i, o := range kernel {
			if i > 0 && order(kernel[i-1], o) >= 0 {
				t.Fatal(x, k, kernel)
			}
		}
		if len(kernel) == 0 || slices.ContainsFunc(a.Kernels[:k], func(l []api.Item) bool { return slices.Equal(l, kernel) }) {
			t.Fatal(x, k, kernel)
		}
	}
}

func TestP123BuildOfWrong(t *testing.T) {
	for name, x := range wrongs(sums) {
		if a, e := Build(x); e != api.ErrArg || a.Kernels != nil || a.Next != nil {
			t.Error(name, show(a), e)
		}
	}
}

// wide is a syntax of just so many states: each is one more symbol of some right side.
func wide(states int) api.Syntax {
	x := syntax(32, 1)
	states -= 2 // the state 0, and that behind the start
	for i := 0; states > 0; i++ {
		// The first 32 right sides share no beginning, each later one the first symbol with one of those.
		right := []int{i % 32, i / 32, 0, 0, 0, 0, 0, 0}
		if i < 32 {
			right[1] = 31
		}
		fresh := 8
		if i >= 32 {
			fresh = 7
		}
		if states < fresh {
			// What is left goes by the last symbols of one that is there.
			for range states {
				x.Rules = append(x.Rules, rule(33, 0, 31, 0, 0, 0, 0, 0, len(x.Rules)%31+1))
			}
			return x
		}
		x.Rules = append(x.Rules, rule(33, right...))
		states -= fresh
	}
	return x
}

// begins is how many unlike beginnings, but the empty one, the right sides have.
func begins(x api.Syntax) int {
	all := map[[8]int]bool{}
	for _, r := range x.Rules {
		key := [8]int{-1, -1, -1, -1, -1, -1, -1, -1}
		for i, sym := range r.Right {
			key[i] = sym
			all[key] = true
		}
	}
	return len(all)
}

// doubling is a syntax whose states are the ways in which some of n places may be marked: twice as many for each one more.
func doubling(n int) api.Syntax {
	x := syntax(2, n+1, rule(3, 0, 3), rule(3, 1, 3), rule(3, 1, 4))
	for i := 1; i < n; i++ {
		x.Rules = append(x.Rules, rule(3+i, 0, 4+i), rule(3+i, 1, 4+i))
	}
	x.Rules = append(x.Rules, rule(3+n, 0))
	return x
}

// long has as many rules as may be, all of one other, as long as may be.
func long() api.Syntax {
	x := syntax(2, 1)
	for i := range api.MaxProds {
		r := rule(3)
		for bit := range api.MaxRight {
			sym := i >> (bit % 6) & 1
			if bit > 5 {
				sym = 3
			}
			r.Right = append(r.Right, sym)
		}
		x.Rules = append(x.Rules, r)
	}
	x.Rules[0].Right = nil
	return x
}

func TestP123BuildBig(t *testing.T) {
	for states := 290; states <= 310; states++ {
		x := wide(states)
		if !symbols.Right(x) || begins(x)+2 != states {
			t.Fatal(states, begins(x), symbols.Right(x))
		}
		a, e := Build(x)
		if states <= api.MaxStates && (e != api.OK || len(a.Kernels) != states || len(a.Next) != states) {
			t.Error(states, len(a.Kernels), e)
		}
		if states > api.MaxStates && (e != api.ErrBig || a.Kernels != nil || a.Next != nil) {
			t.Error(states, len(a.Kernels), e)
		}
	}
}

func TestP123BuildDoubling(t *testing.T) {
	for n := 1; n <= 29; n++ {
		x := doubling(n)
		if !symbols.Right(x) {
			t.Fatal(n)
		}
		a, e := Build(x)
		if n <= 6 {
			want, _ := plainBuild(x)
			if e != api.OK || !plainSame(a, want) {
				t.Error(n, show(a), e)
			}
		}
		if n > 8 && (e != api.ErrBig || a.Kernels != nil || a.Next != nil) {
			t.Error(n, len(a.Kernels), e)
		}
	}
}

func TestP124Behind(t *testing.T) {
	for _, x := range some(100) {
		for n, r := range allRules(x) {
			for dot, sym := range r.Right {
				if got := Behind(x, item(n, dot)); got != sym {
					t.Error(x, n, dot, got)
				}
			}
			for _, dot := range []int{-1, len(r.Right), len(r.Right) + 1, -1 << 63, 1<<63 - 1} {
				if got := Behind(x, item(n, dot)); got != -1 {
					t.Error(x, n, dot, got)
				}
			}
		}
		for _, n := range []int{-1, len(x.Rules) + 1, -1 << 63, 1<<63 - 1} {
			if got := Behind(x, item(n, 0)); got != -1 {
				t.Error(x, n, got)
			}
		}
	}
}

func TestP124BehindOfWrong(t *testing.T) {
	for name, x := range wrongs(sums) {
		for n := -1; n <= 7; n++ {
			for dot := -1; dot <= 4; dot++ {
				if got := Behind(x, item(n, dot)); got != -1 {
					t.Error(name, n, dot, got)
				}
			}
		}
	}
}

func TestP124DoneOrdinary(t *testing.T) {
	for _, c := range []struct {
		name string
		x    api.Syntax
		want [][]int
	}{
		{"sums", sums(), [][]int{nil, nil, {5}, {6}, {1}, {3}, nil, nil, nil, {4}, {0}, {2}}},
		// Behind nothing; s; t; t a1; t t; t u; t t t; t u a0.
		{"hollow", hollow(), [][]int{{1}, {5}, {1, 3}, {2}, {1}, nil, {4}, {0}}},
		{"nothing at all", syntax(1, 1, rule(2)), [][]int{{0}, {1}}},
		{"one and the same", syntax(1, 1, rule(2, 0), rule(2, 0)), [][]int{nil, {0, 1}, {2}}},
		{"itself", syntax(1, 1, rule(2, 2), rule(2, 0)), [][]int{nil, {1}, {0, 2}}},
	} {
		a := good(t, c.x)
		if len(a.Kernels) != len(c.want) {
			t.Error(c.name, show(a))
			continue
		}
		for k, want := range c.want {
			if l := Done(c.x, a, k); !slices.Equal(l, want) {
				t.Error(c.name, k, l, show(a))
			}
		}
	}
}

func TestP124DoneByWords(t *testing.T) {
	for _, x := range some(200) {
		a, rows := plainBuild(x)
		for k, row := range rows {
			if l := Done(x, a, k); !slices.Equal(l, plainDone(x, row)) {
				t.Fatal(x, row, l)
			}
		}
		for _, k := range []int{-1, len(rows), len(rows) + 1, -1 << 63, 1<<63 - 1} {
			if l := Done(x, a, k); l != nil {
				t.Fatal(x, k, l)
			}
		}
	}
}

// copied is an automaton that shares no memory with the one that is given.
func copied(a api.Automaton) api.Automaton {
	var c api.Automaton
	for _, l := range a.Kernels {
		c.Kernels = append(c.Kernels, slices.Clone(l))
	}
	for _, l := range a.Next {
		c.Next = append(c.Next, slices.Clone(l))
	}
	return c
}

// turned is all automata that are unlike the one that is given by one thing.
func turned(a api.Automaton) []api.Automaton {
	var all []api.Automaton
	turn := func(by func(c *api.Automaton)) {
		c := copied(a)
		by(&c)
		all = append(all, c)
	}
	for k := range a.Kernels {
		for i := range a.Kernels[k] {
			turn(func(c *api.Automaton) { c.Kernels[k][i].Rule++ })
			turn(func(c *api.Automaton) { c.Kernels[k][i].Rule-- })
			turn(func(c *api.Automaton) { c.Kernels[k][i].Dot++ })
			turn(func(c *api.Automaton) { c.Kernels[k][i].Dot-- })
			turn(func(c *api.Automaton) { c.Kernels[k] = slices.Delete(c.Kernels[k], i, i+1) })
			turn(func(c *api.Automaton) { c.Kernels[k] = slices.Insert(c.Kernels[k], i, c.Kernels[k][i]) })
		}
		for i := range a.Next[k] {
			turn(func(c *api.Automaton) { c.Next[k][i]++ })
			turn(func(c *api.Automaton) { c.Next[k][i]-- })
			turn(func(c *api.Automaton) { c.Next[k] = slices.Delete(c.Next[k], i, i+1) })
		}
		turn(func(c *api.Automaton) { c.Next[k] = append(c.Next[k], -1) })
		turn(func(c *api.Automaton) { c.Kernels[k] = append(c.Kernels[k], item(99, 0)) })
		turn(func(c *api.Automaton) { c.Kernels[k] = nil })
		turn(func(c *api.Automaton) { c.Next[k] = nil })
		turn(func(c *api.Automaton) { c.Kernels = slices.Delete(c.Kernels, k, k+1) })
		turn(func(c *api.Automaton) { c.Next = slices.Delete(c.Next, k, k+1) })
		turn(func(c *api.Automaton) {
			c.Kernels = slices.Delete(c.Kernels, k, k+1)
			c.Next = slices.Delete(c.Next, k, k+1)
		})
	}
	turn(func(c *api.Automaton) { c.Kernels = append(c.Kernels, items(0, 0)) })
	turn(func(c *api.Automaton) { c.Next = append(c.Next, c.Next[0]) })
	turn(func(c *api.Automaton) {
		c.Kernels = append(c.Kernels, c.Kernels[0])
		c.Next = append(c.Next, c.Next[0])
	})
	turn(func(c *api.Automaton) { c.Next[0][0] += 1 << 8 })
	turn(func(c *api.Automaton) { c.Kernels[0][0].Rule += 1 << 8 })
	turn(func(c *api.Automaton) { c.Kernels[1][0].Dot += 1 << 8 })
	turn(func(c *api.Automaton) { *c = api.Automaton{} })
	return all
}

func TestP124DoneOfWrongAutomata(t *testing.T) {
	for _, x := range []api.Syntax{example(), sums(), hollow()} {
		for _, c := range turned(good(t, x)) {
			for k := -1; k <= len(c.Kernels)+1; k++ {
				if l := Done(x, c, k); l != nil {
					t.Fatal(k, l, show(c))
				}
			}
		}
	}
}

// TestP124DoneOfOthersAutomata: the automaton of another syntax is Build's just if it is the same one.
func TestP124DoneOfOthersAutomata(t *testing.T) {
	all := some(30)
	for i, x := range all {
		own := good(t, x)
		for j, y := range all {
			a := good(t, y)
			for k := range a.Kernels {
				var want []int
				if plainSame(a, own) {
					want = Done(x, own, k)
				}
				if l := Done(x, a, k); !slices.Equal(l, want) {
					t.Fatal(i, j, k, l)
				}
			}
		}
	}
}

// TestP124DoneOfTooMany: without Build's answer no automaton is Build's, neither the empty one nor what would be the states.
func TestP124DoneOfTooMany(t *testing.T) {
	x := wide(301)
	fit := wide(300)
	for _, a := range []api.Automaton{{}, good(t, fit), {Kernels: [][]api.Item{items(len(x.Rules), 0)}, Next: [][]int{make([]int, len(x.Names))}}} {
		for k := -1; k < 3; k++ {
			if l := Done(x, a, k); l != nil {
				t.Error(k, l)
			}
		}
	}
}

func TestP124DoneOfWrongSyntax(t *testing.T) {
	a := good(t, sums())
	for name, x := range wrongs(sums) {
		for k := -1; k <= len(a.Kernels); k++ {
			if l := Done(x, a, k); l != nil {
				t.Error(name, k, l)
			}
			if l := Done(x, api.Automaton{}, k); l != nil {
				t.Error(name, k, l)
			}
		}
	}
}

// putIn puts a rule's right side in for the last other of a row: what stands up to its end, and all.
func putIn(x api.Syntax, row []int, r api.Rule) ([]int, []int) {
	at := last(x, row)
	upTo := append(slices.Clone(row[:at]), r.Right...)
	return upTo, append(slices.Clone(upTo), row[at+1:]...)
}

// last is the place of the last other of a row; -1, if it has none.
func last(x api.Syntax, row []int) int {
	for i := len(row) - 1; i >= 0; i-- {
		if row[i] > x.Terms {
			return i
		}
	}
	return -1
}

// checkRead asks whether a row is read from the state 0 on, and a rule then read whole.
func checkRead(t *testing.T, x api.Syntax, a api.Automaton, done [][]int, row []int, n int) {
	t.Helper()
	k := run(a, row)
	if k < 0 || !slices.Contains(done[k], n) {
		t.Fatal(x, row, n, k)
	}
}

// dones is Done of each state.
func dones(x api.Syntax, a api.Automaton) [][]int {
	var l [][]int
	for k := range a.Kernels {
		l = append(l, Done(x, a, k))
	}
	return l
}

func TestP125PutInAtRandom(t *testing.T) {
	r := rand.New(rand.NewSource(5))
	steps := 0
	for _, x := range append(some(150), doubling(5), long()) {
		a := good(t, x)
		done := dones(x, a)
		checkRead(t, x, a, done, []int{x.Start}, len(x.Rules))
		for range 30 {
			row := []int{x.Start}
			for range 25 {
				at := last(x, row)
				if at < 0 || len(row) > 200 {
					break
				}
				n := r.Intn(len(x.Rules))
				for x.Rules[n].Left != row[at] {
					n = (n + 1) % len(x.Rules)
				}
				var upTo []int
				upTo, row = putIn(x, row, x.Rules[n])
				checkRead(t, x, a, done, upTo, n)
				steps++
			}
		}
	}
	if steps < 10000 {
		t.Error("too little was tried:", steps)
	}
}

// TestP125AllPutIn: all that comes of the start in some steps, and nothing that doesn't.
func TestP125AllPutIn(t *testing.T) {
	for _, x := range ordinary() {
		a := good(t, x)
		done := dones(x, a)
		rows := [][]int{{x.Start}}
		for steps := 0; steps < 12 && len(rows) < 3000; steps++ {
			var more [][]int
			for _, row := range rows {
				at := last(x, row)
				for n, r := range x.Rules {
					if at >= 0 && r.Left == row[at] {
						upTo, all := putIn(x, row, r)
						checkRead(t, x, a, done, upTo, n)
						more = append(more, all)
					}
				}
			}
			rows = more
		}
	}
}

// TestP125NoMore: a row is read just if something is under way behind it, and then the rules are just those.
func TestP125NoMore(t *testing.T) {
	for _, x := range some(40) {
		a := good(t, x)
		done := dones(x, a)
		rows := [][]int{nil}
		for i := 0; i < len(rows); i++ {
			row := rows[i]
			k := run(a, row)
			if want := plainItems(x, row); (k >= 0) != (len(want) > 0) {
				t.Fatal(x, row, k, want)
			}
			if k < 0 {
				continue
			}
			if !slices.Equal(done[k], plainDone(x, row)) {
				t.Fatal(x, row, k)
			}
			for sym := range x.Names {
				if len(row) < 3 {
					rows = append(rows, append(slices.Clone(row), sym))
				}
			}
		}
	}
}

// deep is a syntax that shares no memory with the one that is given.
func deep(x api.Syntax) api.Syntax {
	lists := func(l [][]int) [][]int {
		var c [][]int
		for _, s := range l {
			c = append(c, slices.Clone(s))
		}
		return c
	}
	c := x
	c.Names, c.Of, c.Class = slices.Clone(x.Names), slices.Clone(x.Of), slices.Clone(x.Class)
	c.Lists, c.Delims, c.Holes = lists(x.Lists), lists(x.Delims), lists(x.Holes)
	c.Rules = nil
	for _, r := range x.Rules {
		c.Rules = append(c.Rules, api.Rule{Left: r.Left, Right: slices.Clone(r.Right)})
	}
	return c
}

// roomy is a syntax in which each right side has spare room that holds something.
func roomy() api.Syntax {
	x := sums()
	for i, r := range x.Rules {
		x.Rules[i].Right = append(slices.Clone(r.Right), 77, 78)[:len(r.Right)]
	}
	return x
}

func TestGivenStaysAsItWas(t *testing.T) {
	x := roomy()
	was := deep(x)
	a := good(t, x)
	aWas := copied(a)
	all := items(4, 3, 2, 2, 0, 3, 9, 9, 0, 1, 55, 55, 56, 56)
	give := all[:5]
	giveWas := slices.Clone(all)
	for n := range 8 {
		Right(x, n)
		Behind(x, item(n, 1))
		Done(x, a, n)
	}
	Close(x, give...)
	if !reflect.DeepEqual(x, was) || !plainSame(a, aWas) || !slices.Equal(all, giveWas) {
		t.Error(x, show(a), all)
	}
	for i, r := range x.Rules {
		if spare := r.Right[len(r.Right) : len(r.Right)+2]; !slices.Equal(spare, []int{77, 78}) {
			t.Error(i, spare)
		}
	}
}

// spoil writes over a list and its spare room.
func spoil(lists ...[]int) {
	for _, l := range lists {
		l = l[:cap(l)]
		for i := range l {
			l[i] = -9
		}
	}
}

// spoilItems writes over items and their spare room.
func spoilItems(lists ...[]api.Item) {
	for _, l := range lists {
		l = l[:cap(l)]
		for i := range l {
			l[i] = item(-9, -9)
		}
	}
}

func TestAnswersAreNewMemory(t *testing.T) {
	x := roomy()
	was := deep(x)
	for n := range 7 {
		first, _ := Right(x, n)
		second, _ := Right(x, n)
		spoil(first)
		want := allRules(was)[n].Right
		if !slices.Equal(second, want) || !reflect.DeepEqual(x, was) {
			t.Error(n, second, x)
		}
	}
	give := items(0, 0, 1, 0, 2, 0, 3, 0, 4, 0, 5, 0, 6, 0)
	first, second := Close(x, give...), Close(x, give...)
	spoilItems(first)
	if !slices.Equal(second, give) || give[0] != item(0, 0) {
		t.Error(second, give)
	}
	a, b := good(t, x), good(t, x)
	want, _ := plainBuild(was)
	l, m := Done(x, a, 3), Done(x, a, 3)
	spoil(l)
	if !slices.Equal(m, []int{6}) || !plainSame(a, want) {
		t.Error(m, show(a))
	}
	for k := range a.Kernels {
		spoilItems(a.Kernels[k])
		spoil(a.Next[k])
	}
	if !plainSame(b, want) || !reflect.DeepEqual(x, was) {
		t.Error(show(b), x)
	}
}

// TestListsOfOneAnswer: no two lists of an automaton share memory, their spare room neither.
func TestListsOfOneAnswer(t *testing.T) {
	for _, x := range ordinary() {
		want, _ := plainBuild(x)
		for k := range want.Kernels {
			a := good(t, x)
			spoilItems(a.Kernels[k])
			spoil(a.Next[k])
			a.Kernels[k], a.Next[k] = want.Kernels[k], want.Next[k]
			if !plainSame(a, want) {
				t.Error(x, k, show(a))
			}
		}
	}
}

func TestSameAgain(t *testing.T) {
	for _, x := range some(50) {
		a := good(t, x)
		for range 3 {
			if b := good(t, deep(x)); !plainSame(a, b) {
				t.Fatal(x, show(a), show(b))
			}
		}
	}
}
