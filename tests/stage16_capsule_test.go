package tests

import (
	"slices"
	"strconv"
	"strings"
	"testing"

	"loop.example/g00206/impl"
)

func capsule(kind int, data string) impl.Capsule {
	return impl.Capsule{Kind: kind, Data: data}
}

// capsules are told as `kind:data`, one behind the other with a blank between.
func capsules(text string) []impl.Capsule {
	var l []impl.Capsule
	for _, told := range strings.Fields(text) {
		kind, data, _ := strings.Cut(told, ":")
		n, err := strconv.Atoi(kind)
		if err != nil {
			panic(err)
		}
		l = append(l, capsule(n, data))
	}
	return l
}

// manyCapsules differ in their kinds, some of which are known, and have so many bytes of data each.
func manyCapsules(n, size int) []impl.Capsule {
	var l []impl.Capsule
	for kind := range n {
		l = append(l, capsule(kind, letters(size)))
	}
	return l
}

func leastVarint(n int) string {
	switch {
	case n < 64:
		return varint(n, 1)
	case n < 16384:
		return varint(n, 2)
	case n < 1073741824:
		return varint(n, 4)
	}
	return varint(n, 8)
}

func capsulesElsewhere(l []impl.Capsule) string {
	s := ""
	for _, c := range l {
		s += leastVarint(c.Kind) + leastVarint(len(c.Data)) + c.Data
	}
	return s
}

// someCapsules have varints of all sizes between them.
func someCapsules() []impl.Capsule {
	return []impl.Capsule{
		capsule(0, ""),
		capsule(1, "a"),
		capsule(63, letters(63)),
		capsule(64, letters(64)),
		capsule(16383, letters(200)),
		capsule(16384, ""),
		capsule(1073741823, letters(199)),
		capsule(1073741824, letters(65)),
		capsule(mostVarint, "hi"),
	}
}

// wrongCapsules are each just beside what is good, or far from it.
func wrongCapsules() []impl.Capsule {
	return []impl.Capsule{
		capsule(-1, ""),
		capsule(-1, "a"),
		capsule(-64, "a"),
		capsule(minInt, "a"),
		capsule(minInt+1, "a"),
		capsule(mostVarint+1, ""),
		capsule(mostVarint+1, "a"),
		capsule(mostVarint+2, "a"),
		capsule(maxInt, "a"),
		capsule(0, letters(201)),
		capsule(1, letters(202)),
		capsule(70, letters(201)),
		capsule(0, letters(456)), // a byte would tell 200
		capsule(mostVarint, letters(1500)),
		capsule(0, letters(20000)),
	}
}

func wantKeptCapsules(t *testing.T, what string, l, kept []impl.Capsule) {
	t.Helper()
	if !slices.Equal(l, kept) {
		t.Errorf("%s: %v became %v", what, kept, l)
	}
}

// wantCapsules holds what the capsules are told as, and that these bytes, if there aren't too many, tell them again.
func wantCapsules(t *testing.T, l []impl.Capsule, want string) {
	t.Helper()
	kept := slices.Clone(l)
	if s, ok := impl.CapsulesBytes(l); s != want || !ok {
		t.Errorf("%v: %x %v, not %x", l, s, ok, want)
	}
	wantKeptCapsules(t, "CapsulesBytes", l, kept)
	if len(want) > 1500 {
		wantNoReadCapsules(t, want, "too many bytes")
		return
	}
	wantReadCapsules(t, want, l, len(want))
}

func wantKnown(t *testing.T, l, want []impl.Capsule) {
	t.Helper()
	kept := slices.Clone(l)
	if known, ok := impl.KnownCapsules(l); !slices.Equal(known, want) || !ok {
		t.Errorf("%v: %v %v, not %v", l, known, ok, want)
	}
	wantKeptCapsules(t, "KnownCapsules", l, kept)
}

func wantNoCapsules(t *testing.T, l []impl.Capsule, why string) {
	t.Helper()
	kept := slices.Clone(l)
	if s, ok := impl.CapsulesBytes(l); s != "" || ok {
		t.Errorf("%s: %.200v: %x %v", why, l, s, ok)
	}
	if known, ok := impl.KnownCapsules(l); len(known) != 0 || ok {
		t.Errorf("%s: %.200v: %v %v", why, l, known, ok)
	}
	wantKeptCapsules(t, why, l, kept)
}

func TestConstantsOfCapsules(t *testing.T) {
	if impl.MaxCapsules != 30 || impl.CapsuleDatagram != 0 || impl.CapsuleAddress != 1 {
		t.Error(impl.MaxCapsules, impl.CapsuleDatagram, impl.CapsuleAddress)
	}
	if impl.MaxData != 200 || impl.MaxPayload != 1500 || impl.MaxVarint != mostVarint {
		t.Error(impl.MaxData, impl.MaxPayload, impl.MaxVarint)
	}
}

func TestCapsulesBytesKnown(t *testing.T) {
	for _, c := range []struct{ capsules, bytes string }{
		{"", ""},
		{"0:", "00 00"},
		{"1:", "01 00"},
		{"0:hi", "00 02 6869"},
		{"1:a", "01 01 61"},
		{"0:hi 70:x", "00 02 6869 4046 01 78"},
		{"70:x 0:hi", "4046 01 78 00 02 6869"},
		{"0: 0: 0:", "0000 0000 0000"},
		{"63:a 64:b", "3f 01 61 4040 01 62"},
		{"16383:a 16384:b", "7fff 01 61 80004000 01 62"},
		{"15293:ab", "7bbd 02 6162"},
		{"494878333:ab", "9d7f3e7d 02 6162"},
		{"1073741823:a 1073741824:b", "bfffffff 01 61 c000000040000000 01 62"},
		{"151288809941952652:c", "c2197c5eff14e88c 01 63"},
		{"4611686018427387903:z", "ffffffffffffffff 01 7a"},
		{"4611686018427387902:", "fffffffffffffffe 00"},
	} {
		wantCapsules(t, capsules(c.capsules), unhex(c.bytes))
	}
	wantCapsules(t, []impl.Capsule{}, "")
	wantCapsules(t, []impl.Capsule{capsule(0, "\x00\xff"), capsule(2, "\x00\x00")}, unhex("00 02 00ff 02 02 0000"))
}

func TestCapsulesBytesOfLengths(t *testing.T) {
	for size := range 201 {
		head := []byte{1, byte(size)}
		if size > 63 {
			head = []byte{1, 64, byte(size)}
		}
		data := letters(size)
		wantCapsules(t, []impl.Capsule{capsule(1, data)}, string(head)+data)
		wantCapsules(t, []impl.Capsule{capsule(1, data), capsule(1, data)}, strings.Repeat(string(head)+data, 2))
	}
}

func TestCapsulesBytesOfPairs(t *testing.T) {
	for _, a := range someCapsules() {
		wantCapsules(t, []impl.Capsule{a}, capsulesElsewhere([]impl.Capsule{a}))
		for _, b := range someCapsules() {
			l := []impl.Capsule{a, b}
			wantCapsules(t, l, capsulesElsewhere(l))
		}
	}
	wantCapsules(t, someCapsules(), capsulesElsewhere(someCapsules()))
}

// There is no limit to what is told of thirty capsules but their own ones.
func TestCapsulesBytesOfThirtyAndMore(t *testing.T) {
	for _, size := range []int{0, 1, 47, 48, 49, 200} {
		for n := 28; n <= 33; n++ {
			l := manyCapsules(n, size)
			if n > 30 {
				wantNoCapsules(t, l, "more than thirty")
				continue
			}
			wantCapsules(t, l, capsulesElsewhere(l))
			wantKnown(t, l, l[:2])
		}
		wantNoCapsules(t, manyCapsules(300, size), "many")
	}
	if s, ok := impl.CapsulesBytes(manyCapsules(30, 200)); len(s) != 30*203 || !ok {
		t.Error(len(s), ok)
	}
	most := slices.Repeat([]impl.Capsule{capsule(mostVarint, letters(200))}, 30)
	wantCapsules(t, most, capsulesElsewhere(most))
	wantKnown(t, most, nil)
}

func TestCapsulesOfWrongOnes(t *testing.T) {
	for _, wrong := range wrongCapsules() {
		wantNoCapsules(t, []impl.Capsule{wrong}, "wrong")
		for _, n := range []int{2, 3, 30} {
			for at := range n {
				l := manyCapsules(n, 3)
				l[at] = wrong
				wantNoCapsules(t, l, "wrong one at "+strconv.Itoa(at))
			}
		}
	}
	// with one that is good in its place the others are
	for at := range 30 {
		for _, c := range someCapsules() {
			l := manyCapsules(30, 3)
			l[at] = c
			wantCapsules(t, l, capsulesElsewhere(l))
		}
	}
}

func TestKnownCapsulesInAnyOrder(t *testing.T) {
	all := capsules("0:a 1:b 2:c 70:d 0:a")
	for _, order := range orders(len(all)) {
		var l, want []impl.Capsule
		for _, k := range order {
			l = append(l, all[k])
			if all[k].Kind < 2 {
				want = append(want, all[k])
			}
		}
		wantKnown(t, l, want)
	}
}

func TestKnownCapsules(t *testing.T) {
	for _, c := range []struct{ capsules, known string }{
		{"", ""},
		{"0:", "0:"},
		{"1:", "1:"},
		{"0:a", "0:a"},
		{"1:a", "1:a"},
		{"2:a", ""},
		{"0:a 1:a", "0:a 1:a"},
		{"1:a 0:a", "1:a 0:a"},
		{"1:a 1:a 0:a 0:a 1:a", "1:a 1:a 0:a 0:a 1:a"},
		{"2:a 3:b 0: 4:d 1: 5:f", "0: 1:"},
		{"0:b 2:x 1:a 2:x 0:a", "0:b 1:a 0:a"},
		{"64:a 16384:b 256:c 4294967296:d 4294967297:e 4611686018427387903:f", ""},
		{"257:a 65:b 65536:c 65537:d 1073741824:e 4611686018427387902:f", ""},
	} {
		wantKnown(t, capsules(c.capsules), capsules(c.known))
	}
	wantKnown(t, []impl.Capsule{}, nil)
	for kind := 2; kind < 20000; kind++ {
		wantKnown(t, []impl.Capsule{capsule(kind, "a")}, nil)
	}
	for size := range 201 {
		l := []impl.Capsule{capsule(0, letters(size)), capsule(3, letters(size)), capsule(1, letters(size))}
		wantKnown(t, l, []impl.Capsule{l[0], l[2]})
	}
}

// How many are known does not count: thirty-one are too many also where none is.
func TestKnownCapsulesOfThirtyAndMore(t *testing.T) {
	for _, kind := range []int{0, 1, 2, mostVarint} {
		for _, size := range []int{0, 200} {
			l := slices.Repeat([]impl.Capsule{capsule(kind, letters(size))}, 31)
			wantNoCapsules(t, l, "thirty-one")
			if kind < 2 {
				wantKnown(t, l[:30], l[:30])
			} else {
				wantKnown(t, l[:30], nil)
			}
		}
	}
}
