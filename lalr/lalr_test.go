package lalr

import (
	"math/rand"
	"reflect"
	"slices"
	"testing"

	"pleacher/api"
	"pleacher/lrzero"
	"pleacher/symbols"
)

// shift, reduce, accept and none are actions.
func shift(k int) api.Action  { return api.Action{Kind: api.Shift, N: k} }
func reduce(n int) api.Action { return api.Action{Kind: api.Reduce, N: n} }
func accept() api.Action      { return api.Action{Kind: api.Accept} }
func none0() api.Action       { return api.Action{} }

// set is a list of terms.
func set(terms ...int) []int { return terms }

func TestFirstExample(t *testing.T) {
	x := example()
	got := good(t, x)
	want := api.Tables{
		Action: [][]api.Action{{shift(1), none0()}, {shift(1), reduce(1)}, {none0(), accept()}, {none0(), reduce(0)}},
		Next:   [][]int{{1, -1, 2}, {1, -1, 3}, {-1, -1, -1}, {-1, -1, -1}},
	}
	if !sameTables(got, want) {
		t.Error(got)
	}
	// In the state behind a: Shift at a, Reduce of the second rule at the end.
	behind := got.Next[0][0]
	if got.Action[behind][0].Kind != api.Shift || got.Action[behind][1] != reduce(1) {
		t.Error(got.Action[behind])
	}
	if l, e := Conflicts(x); e != api.OK || l != nil {
		t.Error(l, e)
	}
	for n := range 5 {
		if Accepts(x, got, make([]int, n)) != (n > 0) {
			t.Error(n)
		}
	}
}

func TestSecondExample(t *testing.T) {
	x := twofold()
	l, e := Conflicts(x)
	want := []api.Conflict{{State: 4, Term: 1, Actions: []api.Action{shift(3), reduce(0)}}}
	if e != api.OK || !sameConflicts(l, want) {
		t.Error(l, e)
	}
	if tables, e := Build(x); e != api.ErrConflict || tables.Action != nil || tables.Next != nil {
		t.Error(tables, e)
	}
}

func TestP131FollowsOrdinary(t *testing.T) {
	for i, c := range []struct {
		x    api.Syntax
		want [][][]int
	}{
		{example(), [][][]int{{}, {set(1)}, {set(1)}, {set(1)}}},
		{twofold(), [][][]int{{}, {set(1, 2)}, {set(2)}, {}, {set(1, 2)}}},
		// t alone is followed by what u or v begins with, or the end; a u that is nothing begins behind t.
		{optional(), [][][]int{{}, {set(1, 2, 3)}, {set(3)}, {set(2, 3)}, {set(2, 3)}, {set(3)}, {set(3)}, {set(3)}}},
		// A t that is nothing begins at once, and again behind t, where u may be nothing, too.
		{hollow(), [][][]int{{set(0, 1)}, {set(2)}, {set(0, 1), set(0)}, {set(0, 1)}, {set(0, 1)}, {}, {set(0)}, {set(2)}}},
		// What may follow s comes to it by t, and what may follow t by s: the end and a1.
		{ring(), [][][]int{{}, {set(0)}, {set(1, 3), set(3)}, {set(1, 3)}, {}, {set(0)}, {set(1, 3)}}},
		{round(), [][][]int{{}, {set(2, 4)}, {set(4)}, {}, {}, {set(1)}, {set(2, 4)}, {set(0)}}},
		// The state behind a4 comes of two sets: behind a0 a2 may follow, behind a1 a3.
		{merged(), [][][]int{{}, {}, {}, {set(5)}, {set(2, 3)}, {}, {}, {set(5)}, {set(5)}}},
		{crossed(), [][][]int{{}, {}, {}, {set(5)}, {set(2, 3), set(2, 3)}, {}, {}, {}, {}, {set(5)}, {set(5)}, {set(5)}, {set(5)}}},
		{cycle(), [][][]int{{}, {set(1)}, {set(1), set(1), set(1)}}},
		{three(), [][][]int{{}, {set(0), set(0)}, {set(2)}, {}, {}, {set(2)}, {set(2)}, {set(2)}}},
	} {
		got, e := Follows(c.x)
		if e != api.OK || !sameFollows(got, c.want) {
			t.Error(i, got, e)
		}
	}
}

// TestP131AsDoneTells: there is a list for each rule that Done tells, none of them empty, all rising; the start's own rule is followed by the end alone.
func TestP131AsDoneTells(t *testing.T) {
	for _, x := range some(150) {
		a := automaton(t, x)
		got, e := Follows(x)
		if e != api.OK || len(got) != len(a.Kernels) {
			t.Fatal(x, got, e)
		}
		for k, lists := range got {
			done := lrzero.Done(x, a, k)
			if len(lists) != len(done) {
				t.Fatal(x, k, lists, done)
			}
			for i, l := range lists {
				if len(l) == 0 || !slices.IsSorted(l) || len(slices.Compact(slices.Clone(l))) != len(l) || l[0] < 0 || l[len(l)-1] > x.Terms {
					t.Fatal(x, k, l)
				}
				if done[i] == len(x.Rules) && !slices.Equal(l, set(x.Terms)) {
					t.Fatal(x, k, l)
				}
			}
		}
	}
}

// byRules is the lists of what follows in each state, by rules.
func byRules(x api.Syntax, follows []map[int][]int) [][][]int {
	l := make([][][]int, len(follows))
	for k, of := range follows {
		for n := 0; n <= len(x.Rules); n++ {
			if of[n] != nil {
				l[k] = append(l[k], of[n])
			}
		}
	}
	return l
}

func TestP131FollowsByWords(t *testing.T) {
	rules := 0
	for _, x := range some(2500) {
		a := automaton(t, x)
		sets := plainSets(x, 2000)
		if sets == nil {
			t.Fatal("too many sets", x)
		}
		want := byRules(x, plainFollows(x, a, sets))
		got, e := Follows(x)
		if e != api.OK || !sameFollows(got, want) {
			t.Fatal(x, got, want, e)
		}
		rules += len(x.Rules)
	}
	if rules < 5000 {
		t.Error("too little was tried:", rules)
	}
}

// TestP131StatesApart: what may follow r: l behind the start isn't what may follow it behind a1 l.
func TestP131StatesApart(t *testing.T) {
	x := sides()
	a := automaton(t, x)
	got, _ := Follows(x)
	first := a.Next[0][5]
	later := a.Next[a.Next[0][1]][5]
	if !slices.Equal(got[first][0], set(3)) || !slices.Equal(got[later][0], set(0, 3)) {
		t.Error(got[first], got[later])
	}
	if whole := symbols.Follow(x)[6]; !slices.Equal(whole, set(0, 3)) {
		t.Error(whole)
	}
}

// TestP131WithinFollow: what may follow in a state is of Follow of the whole, and all states' together are it.
func TestP131WithinFollow(t *testing.T) {
	for _, x := range some(300) {
		a := automaton(t, x)
		got, _ := Follows(x)
		follow := symbols.Follow(x)
		all := make([][]int, len(x.Names))
		for k, lists := range got {
			for i, n := range lrzero.Done(x, a, k) {
				if n < len(x.Rules) {
					left := x.Rules[n].Left
					all[left] = append(all[left], lists[i]...)
				}
			}
		}
		for sym := x.Terms + 1; sym < len(x.Names); sym++ {
			slices.Sort(all[sym])
			if l := slices.Compact(all[sym]); !slices.Equal(l, follow[sym]) {
				t.Fatal(x, sym, l, follow[sym])
			}
		}
	}
}

// TestP131ManyTerms: with as many terms as may be the end is the bit 32.
func TestP131ManyTerms(t *testing.T) {
	x := crowd()
	got, e := Follows(x)
	if e != api.OK || len(got) != 34 {
		t.Fatal(len(got), e)
	}
	a := automaton(t, x)
	for term := range 31 {
		if l := got[a.Next[0][term]]; !reflect.DeepEqual(l, [][]int{set(31, 32)}) {
			t.Error(term, l)
		}
	}
	tables := good(t, x)
	if !Accepts(x, tables, set(30, 31, 31)) || !Accepts(x, tables, set(0)) || Accepts(x, tables, set(31)) || Accepts(x, tables, set(0, 0)) || Accepts(x, tables, set(0, 32)) {
		t.Error("Accepts")
	}
}

// TestP131LongChain: what may follow goes through a row of others, told from the last to the first, and back.
func TestP131LongChain(t *testing.T) {
	const others = 60
	for _, backwards := range []bool{false, true} {
		x := syntax(3, others, rule(others+3, 0))
		for i := range others - 1 {
			x.Rules = append(x.Rules, rule(4+i, 5+i))
		}
		x.Rules = append(x.Rules, rule(4, 4, 1), rule(others+3, 2, 4, 2))
		if backwards {
			slices.Reverse(x.Rules)
		}
		a := automaton(t, x)
		got, e := Follows(x)
		want := byRules(x, plainFollows(x, a, plainSets(x, 2000)))
		if e != api.OK || !sameFollows(got, want) {
			t.Error(backwards, got, want, e)
		}
		// The state is one and the same behind nothing, where the end may follow, and behind a2, where a2 may.
		if l := got[a.Next[0][others+3]]; !reflect.DeepEqual(l, [][]int{set(1, 2, 3)}) {
			t.Error(backwards, l)
		}
	}
}

func TestErrors(t *testing.T) {
	all := map[api.Errno][]api.Syntax{api.ErrBig: {wide(301), wide(310)}}
	for _, x := range wrongs(sums) {
		all[api.ErrArg] = append(all[api.ErrArg], x)
	}
	both := wide(301) // ErrArg is named ahead of ErrBig
	both.Class = nil
	conflict := wrongs(twofold)["a wrong hole"] // and ahead of ErrConflict
	all[api.ErrArg] = append(all[api.ErrArg], both, conflict)
	for want, l := range all {
		for i, x := range l {
			if f, e := Follows(x); e != want || f != nil {
				t.Error("Follows", want, i, f, e)
			}
			if c, e := Conflicts(x); e != want || c != nil {
				t.Error("Conflicts", want, i, c, e)
			}
			if b, e := Build(x); e != want || b.Action != nil || b.Next != nil {
				t.Error("Build", want, i, b, e)
			}
		}
	}
}

// TestP131JustNotTooBig: as many states as may be.
func TestP131JustNotTooBig(t *testing.T) {
	x := wide(api.MaxStates)
	got, e := Follows(x)
	if e != api.OK || len(got) != api.MaxStates {
		t.Fatal(len(got), e)
	}
	if l, e := Conflicts(x); e != api.OK || l != nil {
		t.Error(l, e)
	}
	tables := good(t, x)
	if len(tables.Action) != api.MaxStates || !Right(x, tables) {
		t.Error(len(tables.Action))
	}
	for _, r := range x.Rules {
		if !Accepts(x, tables, r.Right) || Accepts(x, tables, r.Right[1:]) {
			t.Error(r)
		}
	}
}

func TestP132ConflictsOrdinary(t *testing.T) {
	for i, c := range []struct {
		x    api.Syntax
		want []api.Conflict
	}{
		{example(), nil},
		{sums(), nil},
		{sides(), nil},
		{merged(), nil},
		{twofold(), []api.Conflict{{State: 4, Term: 1, Actions: []api.Action{shift(3), reduce(0)}}}},
		{crossed(), []api.Conflict{{State: 4, Term: 2, Actions: []api.Action{reduce(4), reduce(5)}}, {State: 4, Term: 3, Actions: []api.Action{reduce(4), reduce(5)}}}},
		{cycle(), []api.Conflict{{State: 2, Term: 1, Actions: []api.Action{reduce(0), reduce(1), accept()}}}},
		{three(), []api.Conflict{{State: 1, Term: 0, Actions: []api.Action{shift(5), reduce(3), reduce(4)}}}},
		{hollow(), []api.Conflict{
			{State: 2, Term: 0, Actions: []api.Action{reduce(1), reduce(3)}},
			{State: 2, Term: 1, Actions: []api.Action{shift(3), reduce(1)}},
			{State: 4, Term: 1, Actions: []api.Action{shift(3), reduce(1)}},
		}},
		// An Accept and a Reduce: s: s, a0.
		{syntax(1, 1, rule(2, 2), rule(2, 0)), []api.Conflict{{State: 2, Term: 1, Actions: []api.Action{reduce(0), accept()}}}},
	} {
		got, e := Conflicts(c.x)
		if e != api.OK || !sameConflicts(got, c.want) || (len(got) == 0) != (got == nil) {
			t.Error(i, got, e)
		}
	}
}

// TestP132Order: operators without an order among them conflict with each other: by states, then terms.
func TestP132Order(t *testing.T) {
	x := syntax(3, 1, rule(4, 4, 1, 4), rule(4, 4, 0, 4), rule(4, 2))
	got, e := Conflicts(x)
	want := []api.Conflict{
		{State: 5, Term: 0, Actions: []api.Action{shift(3), reduce(1)}},
		{State: 5, Term: 1, Actions: []api.Action{shift(4), reduce(1)}},
		{State: 6, Term: 0, Actions: []api.Action{shift(3), reduce(0)}},
		{State: 6, Term: 1, Actions: []api.Action{shift(4), reduce(0)}},
	}
	if e != api.OK || !sameConflicts(got, want) {
		t.Error(got, e)
	}
}

func TestP132AndP133ByWords(t *testing.T) {
	kinds := map[[3]bool]int{} // which kinds of actions the conflicts have
	clean := 0
	for _, x := range some(1500) {
		a := automaton(t, x)
		conflicts, tables := plainTables(x, a, plainFollows(x, a, plainSets(x, 2000)))
		got, e := Conflicts(x)
		if e != api.OK || !sameConflicts(got, conflicts) {
			t.Fatal(x, got, conflicts, e)
		}
		for _, c := range got {
			var has [3]bool
			for _, act := range c.Actions {
				has[act.Kind-1] = true
			}
			kinds[has]++
		}
		made, e := Build(x)
		if len(conflicts) > 0 {
			if e != api.ErrConflict || made.Action != nil || made.Next != nil {
				t.Fatal(x, made, e)
			}
			continue
		}
		clean++
		if e != api.OK || !sameTables(made, tables) || !Right(x, made) {
			t.Fatal(x, made, tables, e)
		}
	}
	if clean < 150 || len(kinds) < 3 {
		t.Error("too little was tried:", clean, kinds)
	}
}

// TestP133NextIsTheAutomatons: the tables' Next is that of lrzero.
func TestP133NextIsTheAutomatons(t *testing.T) {
	for _, x := range clear() {
		got := good(t, x)
		if want := automaton(t, x).Next; !slices.EqualFunc(got.Next, want, slices.Equal) || len(got.Action) != len(want) {
			t.Error(x, got.Next, want)
		}
		for k, row := range got.Action {
			for term, act := range row {
				if (act.Kind == api.Shift) != (got.Next[k][term] >= 0) || act.Kind == api.Shift && act.N != got.Next[k][term] {
					t.Error(x, k, term, act)
				}
			}
			if len(row) != x.Terms+1 {
				t.Error(x, k, row)
			}
		}
	}
}

// TestP133NoConflictByStates: what Follow of the whole would make a conflict is none by what may follow in each state.
func TestP133NoConflictByStates(t *testing.T) {
	x := sides()
	a := automaton(t, x)
	follow := symbols.Follow(x)
	would := 0
	for k := range a.Next {
		for _, n := range lrzero.Done(x, a, k) {
			for term := range x.Terms {
				if n < len(x.Rules) && a.Next[k][term] >= 0 && slices.Contains(follow[x.Rules[n].Left], term) {
					would++
				}
			}
		}
	}
	if _, e := Build(x); would == 0 || e != api.OK {
		t.Error(would, e)
	}
}

// turnedTables is tables of a syntax with one thing turned so that they don't fit any more.
func turnedTables(x api.Syntax, t api.Tables) map[string]api.Tables {
	all := map[string]api.Tables{"zero": {}, "no action rows": {Next: t.Next}, "no next rows": {Action: t.Action}}
	turn := func(name string, by func(t *api.Tables)) {
		c := copied(t)
		by(&c)
		all[name] = c
	}
	states := len(t.Next)
	end := states - 1
	turn("an action row too few", func(t *api.Tables) { t.Action = t.Action[:end] })
	turn("a next row too few", func(t *api.Tables) { t.Next = t.Next[:end] })
	turn("an action row too many", func(t *api.Tables) { t.Action = append(t.Action, make([]api.Action, x.Terms+1)) })
	turn("a next row too many", func(t *api.Tables) { t.Next = append(t.Next, slices.Clone(t.Next[end])) })
	for name, k := range map[string]int{"first": 0, "last": end} {
		turn(name+" action row too short", func(t *api.Tables) { t.Action[k] = t.Action[k][:x.Terms] })
		turn(name+" action row too long", func(t *api.Tables) { t.Action[k] = append(t.Action[k], none0()) })
		turn(name+" action row empty", func(t *api.Tables) { t.Action[k] = nil })
		turn(name+" next row too short", func(t *api.Tables) { t.Next[k] = t.Next[k][:len(x.Names)-1] })
		turn(name+" next row too long", func(t *api.Tables) { t.Next[k] = append(t.Next[k], -1) })
		turn(name+" next row empty", func(t *api.Tables) { t.Next[k] = nil })
		for place, at := range map[string]int{"first": 0, "last": x.Terms} {
			for what, act := range wrongActions(x, states) {
				turn(name+" row, "+place+" "+what, func(t *api.Tables) { t.Action[k][at] = act })
			}
		}
		for place, at := range map[string]int{"first": 0, "end": x.Terms, "last": len(x.Names) - 1} {
			turn(name+" row, "+place+" Next below -1", func(t *api.Tables) { t.Next[k][at] = -2 })
			turn(name+" row, "+place+" Next least", func(t *api.Tables) { t.Next[k][at] = -1 << 63 })
			turn(name+" row, "+place+" Next too large", func(t *api.Tables) { t.Next[k][at] = states })
			turn(name+" row, "+place+" Next greatest", func(t *api.Tables) { t.Next[k][at] = 1<<63 - 1 })
		}
	}
	return all
}

// wrongActions is actions that no tables of so many states have.
func wrongActions(x api.Syntax, states int) map[string]api.Action {
	return map[string]api.Action{
		"Shift below 0":           shift(-1),
		"Shift too large":         shift(states),
		"Shift greatest":          shift(1<<63 - 1),
		"Reduce below 0":          reduce(-1),
		"Reduce of the start's":   reduce(len(x.Rules)),
		"Reduce too large":        reduce(len(x.Rules) + 1),
		"Accept with an N":        {Kind: api.Accept, N: 1},
		"Accept with an N below":  {Kind: api.Accept, N: -1},
		"none with an N":          {N: 1},
		"none with an N below":    {N: -1},
		"a kind too large":        {Kind: 4},
		"a kind far too large":    {Kind: 255},
		"a kind too large, one N": {Kind: 4, N: 1},
	}
}

// fitting is tables of a syntax with one thing turned that fit none the less.
func fitting(x api.Syntax, t api.Tables) map[string]api.Tables {
	all := map[string]api.Tables{"themselves": t}
	turn := func(name string, by func(t *api.Tables)) {
		c := copied(t)
		by(&c)
		all[name] = c
	}
	end := len(t.Next) - 1
	for name, act := range map[string]api.Action{"Shift of the first": shift(0), "Shift of the last": shift(end), "Reduce of the first": reduce(0), "Reduce of the last": reduce(len(x.Rules) - 1), "Accept": accept(), "none": none0()} {
		turn(name, func(t *api.Tables) { t.Action[end][0] = act })
		turn(name+" at the end", func(t *api.Tables) { t.Action[0][x.Terms] = act })
	}
	for name, k := range map[string]int{"Next the first": 0, "Next the last": end, "Next none": -1} {
		turn(name, func(t *api.Tables) { t.Next[end][0] = k })
		turn(name+" by the end", func(t *api.Tables) { t.Next[0][x.Terms] = k })
		turn(name+" by the last", func(t *api.Tables) { t.Next[0][len(x.Names)-1] = k })
	}
	turn("a state more", func(t *api.Tables) {
		t.Action = append(t.Action, make([]api.Action, x.Terms+1))
		t.Next = append(t.Next, make([]int, len(x.Names)))
	})
	all["one state"] = api.Tables{Action: [][]api.Action{make([]api.Action, x.Terms+1)}, Next: [][]int{make([]int, len(x.Names))}}
	return all
}

func TestP134Right(t *testing.T) {
	for _, x := range clear() {
		tables := good(t, x)
		for name, c := range turnedTables(x, tables) {
			if Right(x, c) {
				t.Error(name, x, c)
			}
		}
		for name, c := range fitting(x, tables) {
			if !Right(x, c) {
				t.Error(name, x, c)
			}
		}
	}
}

// TestP134RightWithAnotherSyntax: tables fit just the syntaxes that have as many terms and others, and no fewer rules than they take back.
func TestP134RightWithAnotherSyntax(t *testing.T) {
	for i, x := range clear() {
		for k, y := range clear() {
			if Right(y, good(t, x)) != (i == k) {
				t.Error(i, k)
			}
		}
	}
	tables := good(t, example())
	same := syntax(1, 1, rule(2), rule(2, 0, 0))
	more := syntax(1, 1, rule(2), rule(2, 0, 0), rule(2, 0))
	fewer := syntax(1, 1, rule(2, 0))
	if !Right(same, tables) || !Right(more, tables) || Right(fewer, tables) {
		t.Error("rules")
	}
	term := syntax(2, 1, rule(3, 0), rule(3, 1))
	other := syntax(1, 2, rule(2, 3), rule(3, 0))
	if Right(term, tables) || Right(other, tables) {
		t.Error("symbols")
	}
}

func TestP134RightOfWrongSyntax(t *testing.T) {
	tables := good(t, sums())
	for name, x := range wrongs(sums) {
		if Right(x, tables) || Accepts(x, tables, set(4)) {
			t.Error(name)
		}
	}
	small := api.Tables{Action: [][]api.Action{{none0()}}, Next: [][]int{nil}}
	if Right(api.Syntax{}, small) || Right(api.Syntax{}, api.Tables{}) || Accepts(api.Syntax{}, small, nil) {
		t.Error("of no syntax")
	}
}

func TestP134AcceptsOrdinary(t *testing.T) {
	x := sums()
	tables := good(t, x)
	for _, c := range []struct {
		l    []int
		want bool
	}{
		{nil, false},
		{[]int{}, false},
		{set(4), true},
		{set(4, 0, 4), true},
		{set(4, 0, 4, 1, 4), true},
		{set(2, 4, 0, 4, 3, 1, 4), true},
		{set(2, 2, 2, 4, 3, 3, 3), true},
		{set(2, 2, 2, 4, 3, 3), false},
		{set(2, 2, 4, 3, 3, 3), false},
		{set(4, 0), false},
		{set(0, 4), false},
		{set(4, 4), false},
		{set(2, 3), false},
		{set(4, 5), false},
		{set(5), false},
		{set(6), false},
		{set(4, 0, 7), false},
		{set(-1), false},
		{set(4, -1), false},
		{set(4, 0, -1<<63), false},
		{set(4, 0, 1<<63-1), false},
	} {
		if Accepts(x, tables, c.l) != c.want {
			t.Error(c.l)
		}
	}
	rows := syntax(1, 1, rule(2), rule(2, 2, 0))
	for n := range 5 {
		if !Accepts(rows, good(t, rows), make([]int, n)) {
			t.Error(n)
		}
	}
}

// TestP134NumbersAreAskedFirst: a number that is no term's is a no, also where the tables would accept ahead of it.
func TestP134NumbersAreAskedFirst(t *testing.T) {
	x := example()
	yes := api.Tables{Action: [][]api.Action{{accept(), accept()}}, Next: [][]int{{-1, -1, -1}}}
	for _, l := range [][]int{nil, set(0), set(0, 0, 0)} {
		if !Accepts(x, yes, l) {
			t.Error(l)
		}
	}
	for _, l := range [][]int{set(1), set(2), set(-1), set(0, 0, 1), set(0, -1, 0), set(0, 3), set(0, 1<<63-1), set(0, -1<<63)} {
		if Accepts(x, yes, l) {
			t.Error(l)
		}
	}
}

// TestP134TablesThatDontFit: a no, also where what is turned isn't come to.
func TestP134TablesThatDontFit(t *testing.T) {
	for _, x := range []api.Syntax{example(), sums(), sides()} {
		tables := good(t, x)
		var yes []int
		for _, l := range texts(x.Terms, 3) {
			if Accepts(x, tables, l) {
				yes = l
				break
			}
		}
		if yes == nil {
			t.Fatal("nothing is accepted", x)
		}
		for name, c := range turnedTables(x, tables) {
			if Accepts(x, c, yes) {
				t.Error(name, x)
			}
		}
	}
}

// one is tables of one state of the syntax s: s a0, nothing; what it does at a0 and at the end, and where it goes by s.
func one(at, end api.Action, by int) (api.Syntax, api.Tables) {
	x := syntax(1, 1, rule(2, 2, 0), rule(2))
	return x, api.Tables{Action: [][]api.Action{{at, end}}, Next: [][]int{{-1, -1, by}}}
}

// TestP134OneState: tables that Build didn't make, but that fit.
func TestP134OneState(t *testing.T) {
	for i, c := range []struct {
		at, end api.Action
		by      int
		l       []int
		want    bool
	}{
		{shift(0), accept(), -1, nil, true},
		{shift(0), accept(), -1, set(0, 0, 0), true},
		{shift(0), none0(), -1, set(0), false},
		{none0(), accept(), -1, set(0), false},
		{accept(), none0(), -1, set(0, 0), true},   // Accept is yes, wherever it stands
		{shift(0), shift(0), -1, set(0), false},    // goes on and on at the end
		{reduce(1), accept(), 0, set(0), false},    // goes on and on, deeper and deeper
		{shift(0), reduce(1), 0, nil, false},       // the same at the end
		{reduce(1), accept(), -1, set(0), false},   // no way by s
		{shift(0), reduce(0), 0, nil, false},       // two states back from the first one
		{shift(0), reduce(0), 0, set(0), false},    // and from the second one
		{shift(0), reduce(0), 0, set(0, 0), false}, // as there is one less each time
	} {
		x, tables := one(c.at, c.end, c.by)
		if !Right(x, tables) || Accepts(x, tables, c.l) != c.want {
			t.Error(i)
		}
	}
}

// TestP134Back: a Reduce goes back as many states as its right side is long, not further than to the first one, and from there by its Left.
func TestP134Back(t *testing.T) {
	x := syntax(1, 1, rule(2, 2, 0), rule(2)) // s: s a0, nothing
	// The state 0 goes to 1, that to 2, that to 3, which takes two states back and is at 1: from there by s to 4, which accepts.
	tables := api.Tables{
		Action: [][]api.Action{{shift(1), none0()}, {shift(2), none0()}, {shift(3), reduce(0)}, {none0(), reduce(0)}, {none0(), accept()}},
		Next:   [][]int{{-1, -1, 3}, {-1, -1, 4}, {-1, -1, -1}, {-1, -1, -1}, {-1, -1, -1}},
	}
	for l, want := range []bool{false, false, false, true, false} {
		if !Right(x, tables) || Accepts(x, tables, make([]int, l)) != want {
			t.Error(l)
		}
	}
	// Two shifts and back to the first state: by s to 3, which would go back one state too far.
	tables.Action[3][1] = accept()
	if !Accepts(x, tables, make([]int, 2)) {
		t.Error("back to the first state")
	}
	tables.Next[0][2] = -1
	if Accepts(x, tables, make([]int, 2)) {
		t.Error("no way by s")
	}
}

// TestP134ShiftGoesToItsState: not to that of Next.
func TestP134ShiftGoesToItsState(t *testing.T) {
	x := example()
	tables := api.Tables{Action: [][]api.Action{{shift(1), none0()}, {none0(), accept()}}, Next: [][]int{{0, -1, -1}, {-1, -1, -1}}}
	if !Accepts(x, tables, set(0)) {
		t.Error("N")
	}
	tables.Next[0][0] = -1
	if !Accepts(x, tables, set(0)) {
		t.Error("N without Next")
	}
}

// TestP134EndStaysAhead: a Shift at the end goes to its state, too.
func TestP134EndStaysAhead(t *testing.T) {
	x := example()
	tables := api.Tables{Action: [][]api.Action{{none0(), shift(1)}, {none0(), accept()}}, Next: [][]int{{-1, -1, -1}, {-1, -1, -1}}}
	if !Accepts(x, tables, nil) || Accepts(x, tables, set(0)) {
		t.Error("the end")
	}
}

// TestP134MostActions: just so many actions are done, the last one too.
func TestP134MostActions(t *testing.T) {
	x, shifts := one(shift(0), accept(), -1)
	for _, c := range []struct {
		terms int
		want  bool
	}{{1<<20 - 2, true}, {1<<20 - 1, true}, {1 << 20, false}, {1<<20 + 1, false}} {
		if Accepts(x, shifts, make([]int, c.terms)) != c.want {
			t.Error("shifts", c.terms)
		}
	}
	// s: s a0, nothing: a Reduce first, then a Shift and a Reduce for each term, then Accept.
	tables := good(t, x)
	for _, c := range []struct {
		terms int
		want  bool
	}{{1<<19 - 2, true}, {1<<19 - 1, true}, {1 << 19, false}} {
		if Accepts(x, tables, make([]int, c.terms)) != c.want {
			t.Error("rows", c.terms)
		}
	}
}

// randomTables is any tables that fit a syntax.
func randomTables(r *rand.Rand, x api.Syntax) api.Tables {
	var t api.Tables
	states := 1 + r.Intn(5)
	for range states {
		var row []api.Action
		for range x.Terms + 1 {
			row = append(row, []api.Action{shift(r.Intn(states)), shift(r.Intn(states)), reduce(r.Intn(len(x.Rules))), accept(), none0()}[r.Intn(5)])
		}
		var next []int
		for range x.Names {
			next = append(next, r.Intn(states+1)-1)
		}
		t.Action, t.Next = append(t.Action, row), append(t.Next, next)
	}
	return t
}

func TestP134AcceptsAtRandom(t *testing.T) {
	r := rand.New(rand.NewSource(134))
	yes, no, endless := 0, 0, 0
	for range 1500 {
		x := randomSyntax(r)
		tables := randomTables(r, x)
		if !Right(x, tables) {
			t.Fatal(x, tables)
		}
		for range 10 {
			l := make([]int, r.Intn(7))
			for i := range l {
				l[i] = r.Intn(x.Terms)
			}
			// So few states and terms are read soon, or never.
			want, done := plainReads(x, tables, l, 500)
			switch {
			case want:
				yes++
			case done:
				no++
			case endless >= 40:
				continue
			default:
				endless++
			}
			if Accepts(x, tables, l) != want {
				t.Fatal(x, tables, l, want)
			}
		}
	}
	if yes < 1000 || no < 1000 || endless < 40 {
		t.Error("too little was tried:", yes, no, endless)
	}
}

// TestP135AllShortTexts: of all short texts those that come of the start are read, and no other.
func TestP135AllShortTexts(t *testing.T) {
	tried, yes := 0, 0
	for _, x := range some(2500) {
		tables, e := Build(x)
		if e != api.OK || x.Terms > 5 {
			continue
		}
		tried++
		most := []int{0, 9, 7, 5, 5, 4}[x.Terms]
		all := comes(x, most)[x.Start]
		for _, l := range texts(x.Terms, most) {
			if Accepts(x, tables, l) != all[asText(l)] {
				t.Fatal(x, l, all[asText(l)])
			}
		}
		yes += len(all)
	}
	if tried < 300 || yes < 1000 {
		t.Error("too little was tried:", tried, yes)
	}
}

// grown is a text that comes of a symbol, by rules at random, or by the shortest ones when that is deep enough; false, if it grows too long.
func grown(r *rand.Rand, x api.Syntax, short []int, sym, deep int) ([]int, bool) {
	if sym < x.Terms {
		return set(sym), true
	}
	n := short[sym]
	if deep > 0 {
		for n = r.Intn(len(x.Rules)); x.Rules[n].Left != sym; {
			n = (n + 1) % len(x.Rules)
		}
	}
	var l []int
	for _, part := range x.Rules[n].Right {
		more, ok := grown(r, x, short, part, deep-1)
		if l = append(l, more...); !ok || len(l) > 300 {
			return nil, false
		}
	}
	return l, true
}

// shortest is for each other a rule by which it comes to terms soonest.
func shortest(x api.Syntax) []int {
	l := make([]int, len(x.Names))
	done := make([]bool, len(x.Names))
	for sym := range l {
		l[sym] = -1
		done[sym] = sym < x.Terms
	}
	for range x.Names {
		was := slices.Clone(done)
		for n, r := range x.Rules {
			if l[r.Left] < 0 && !slices.ContainsFunc(r.Right, func(sym int) bool { return !was[sym] }) {
				l[r.Left], done[r.Left] = n, true
			}
		}
	}
	return l
}

func TestP135GrownTexts(t *testing.T) {
	r := rand.New(rand.NewSource(135))
	long := 0
	for i, x := range some(1000) {
		tables, e := Build(x)
		if e != api.OK {
			continue
		}
		tries := 20
		if i < len(ordinary()) {
			tries = 300
		}
		short := shortest(x)
		for range tries {
			l, ok := grown(r, x, short, x.Start, r.Intn(40))
			if ok && !Accepts(x, tables, l) {
				t.Fatal(x, l)
			}
			if len(l) > 8 {
				long++
			}
		}
	}
	if long < 300 {
		t.Error("too little was tried:", long)
	}
}

// TestP135Deep: texts that are read deep down.
func TestP135Deep(t *testing.T) {
	x := sums()
	tables := good(t, x)
	const deep = 50000
	var l []int
	for range deep {
		l = append(l, 2)
	}
	l = append(l, 4)
	for range deep {
		l = append(l, 3)
	}
	if !Accepts(x, tables, l) || Accepts(x, tables, l[1:]) || Accepts(x, tables, l[:len(l)-1]) {
		t.Error("brackets")
	}
}

// roomy is a syntax in which each right side has spare room that holds something.
func roomy(x api.Syntax) api.Syntax {
	for i, r := range x.Rules {
		x.Rules[i].Right = append(slices.Clone(r.Right), 77, 78)[:len(r.Right)]
	}
	return x
}

func TestGivenStaysAsItWas(t *testing.T) {
	for _, make := range []func() api.Syntax{sums, twofold, hollow} {
		x := roomy(make())
		x.Rules = append(x.Rules, rule(99, 98))[:len(x.Rules)]
		was := deep(x)
		Follows(x)
		Conflicts(x)
		Build(x)
		if !reflect.DeepEqual(x, was) {
			t.Error(x)
		}
		for i, r := range x.Rules {
			if spare := r.Right[len(r.Right) : len(r.Right)+2]; !slices.Equal(spare, set(77, 78)) {
				t.Error(i, spare)
			}
		}
		if spare := x.Rules[:len(x.Rules)+1][len(x.Rules)]; spare.Left != 99 || !slices.Equal(spare.Right, set(98)) {
			t.Error(spare)
		}
	}
}

func TestTablesAndTermsStayAsTheyWere(t *testing.T) {
	x := roomy(sums())
	was := deep(x)
	tables := good(t, x)
	tablesWere := copied(tables)
	terms := set(2, 4, 0, 4, 3, 77, 78)
	if !Right(x, tables) || !Accepts(x, tables, terms[:5]) || Accepts(x, tables, terms[:4]) || Accepts(x, tables, terms) {
		t.Error("Accepts")
	}
	if !sameTables(tables, tablesWere) || !slices.Equal(terms, set(2, 4, 0, 4, 3, 77, 78)) || !reflect.DeepEqual(x, was) {
		t.Error(tables, terms, x)
	}
}

// spoil writes over lists and their spare room.
func spoil[T any](with T, lists ...[]T) {
	for _, l := range lists {
		l = l[:cap(l)]
		for i := range l {
			l[i] = with
		}
	}
}

// TestAnswersAreNewMemory: no answer shares memory with another one, or with the syntax.
func TestAnswersAreNewMemory(t *testing.T) {
	for _, x := range ordinary() {
		x = roomy(x)
		was := deep(x)
		first, _ := Follows(x)
		second, _ := Follows(x)
		for k, lists := range first {
			spoil(-9, lists...)
			spoil(nil, first[k])
		}
		if third, _ := Follows(x); !sameFollows(second, third) {
			t.Error(x, second)
		}
		c, _ := Conflicts(x)
		d, _ := Conflicts(x)
		for _, one := range c {
			spoil(shift(-9), one.Actions)
		}
		if e, _ := Conflicts(x); !sameConflicts(d, e) {
			t.Error(x, d)
		}
		p, _ := Build(x)
		q, _ := Build(x)
		spoil(-9, p.Next...)
		spoil(shift(-9), p.Action...)
		if r, _ := Build(x); !sameTables(q, r) || !reflect.DeepEqual(x, was) {
			t.Error(x, q)
		}
	}
}

// TestListsOfOneAnswer: no two lists of one answer share memory, their spare room neither.
func TestListsOfOneAnswer(t *testing.T) {
	for _, x := range ordinary() {
		want, _ := Follows(x)
		for k := range want {
			for i := range want[k] {
				got, _ := Follows(x)
				spoil(-9, got[k][i])
				got[k][i] = want[k][i]
				if !sameFollows(got, want) {
					t.Error(x, k, i, got)
				}
			}
			got, _ := Follows(x)
			spoil(nil, got[k])
			got[k] = want[k]
			if !sameFollows(got, want) {
				t.Error(x, k, got)
			}
		}
		conflicts, _ := Conflicts(x)
		for i := range conflicts {
			got, _ := Conflicts(x)
			spoil(shift(-9), got[i].Actions)
			got[i].Actions = conflicts[i].Actions
			if !sameConflicts(got, conflicts) {
				t.Error(x, i, got)
			}
		}
		tables, _ := Build(x)
		for k := range tables.Next {
			got := good(t, x)
			spoil(-9, got.Next[k])
			spoil(shift(-9), got.Action[k])
			got.Next[k], got.Action[k] = tables.Next[k], tables.Action[k]
			if !sameTables(got, tables) {
				t.Error(x, k, got)
			}
		}
	}
}

func TestSameAgain(t *testing.T) {
	for _, x := range some(50) {
		follows, _ := Follows(x)
		conflicts, _ := Conflicts(x)
		tables, e := Build(x)
		for range 3 {
			y := deep(x)
			f, _ := Follows(y)
			c, _ := Conflicts(y)
			b, g := Build(y)
			if !sameFollows(f, follows) || !sameConflicts(c, conflicts) || !sameTables(b, tables) || g != e {
				t.Fatal(x)
			}
		}
	}
}
