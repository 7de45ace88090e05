package parse

import (
	"slices"
	"testing"

	"seine/api"
)

func overwriteSels(sels []api.Sel) {
	overwrite(sels, api.Sel{Name: "other"})
	for _, x := range sels {
		overwriteArgs(x.Args)
		overwriteDirs(x.Dirs)
		overwriteSels(x.Sels)
	}
}

func overwriteDirs(l []api.Dir) {
	overwrite(l, api.Dir{Name: "other"})
	for _, d := range l {
		overwriteArgs(d.Args)
	}
}

func overwriteArgs(l []api.Member) {
	overwrite(l, api.Member{Name: "other"})
	for _, m := range l {
		overwriteValue(m.V)
	}
}

func overwriteValue(v api.Value) {
	overwrite(v.L, api.Value{S: "other"})
	for _, x := range v.L {
		overwriteValue(x)
	}
	overwriteArgs(v.M)
}

// overwrite puts x into the memory between length and capacity.
func overwrite[T any](l []T, x T) {
	for k := range l[len(l):cap(l)] {
		l[len(l):cap(l)][k] = x
	}
}

func overwriteDoc(d api.Doc) {
	overwrite(d.Ops, api.Op{Name: "other"})
	overwrite(d.Frags, api.Frag{Name: "other"})
	for _, op := range d.Ops {
		overwrite(op.Vars, api.VarDef{Name: "other"})
		for _, v := range op.Vars {
			overwriteValue(v.Default)
		}
		overwriteDirs(op.Dirs)
		overwriteSels(op.Sels)
	}
	for _, f := range d.Frags {
		overwriteDirs(f.Dirs)
		overwriteSels(f.Sels)
	}
}

// R4: no two lists of an answer, nor of two answers, share memory up to their capacities.
func TestAnswersAreNewMemory(t *testing.T) {
	for _, s := range slices.Concat(samples()["document"], []string{"{a(x:[1 2 3]y:[4 5 6]z:{a:1 b:2 c:3}w:{d:4 e:5 f:6}){b c d}e{f g h}...{i j k}}{l m n}query($x:T $y:T $z:T)@a@b@c{o@a@b@c}"}) {
		first, _ := Read(s)
		second, _ := Read(s)
		want := show(first)
		overwriteDoc(second)
		if show(first) != want || show(second) != want {
			t.Errorf("%s: the answers became %s and %s", s, show(first), show(second))
		}
	}
	for _, s := range samples()["value"] {
		first, _ := Value(s, false)
		second, _ := Value(s, false)
		want := show(first)
		overwriteValue(second)
		if show(first) != want || show(second) != want {
			t.Errorf("%s: the answers became %s and %s", s, show(first), show(second))
		}
	}
}
