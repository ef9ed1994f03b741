package tests

import (
	"slices"
	"testing"

	"loop.example/g00206/impl"
)

func TestRoundWordsAreTheirOwn(t *testing.T) {
	first := impl.RoundWords()
	kept := slices.Clone(first)
	clear(first)
	if again := impl.RoundWords(); !slices.Equal(again, kept) {
		t.Errorf("%x behind a change of the first answer", again)
	}
	if hash, ok := impl.Sha256("abc"); hash != libraryHash("abc") || !ok {
		t.Errorf("%x %v behind a change of the words", hash, ok)
	}
}

func TestHashFromLeavesTheState(t *testing.T) {
	var s steps
	for range 300 {
		// The list lies within a longer one, whose words on either side stay too.
		around := make([]uint32, 24)
		for i := range around {
			around[i] = uint32(s.below(1 << 31))
		}
		block := []byte(s.text(64))
		kept, keptBlock := slices.Clone(around), string(block)
		next, ok := impl.HashFrom(around[8:16], bare(block))
		if !ok || !slices.Equal(around, kept) || string(block) != keptBlock {
			t.Fatalf("an argument is changed: %v", ok)
		}
		answer := slices.Clone(next)
		clear(around)
		clear(block)
		if !slices.Equal(next, answer) {
			t.Fatal("the answer lies in what was given")
		}
		clear(next[:cap(next)])
		again, ok := impl.HashFrom(kept[8:16], keptBlock)
		if !ok || !slices.Equal(again, answer) {
			t.Fatalf("%x and then %x", answer, again)
		}
	}
}

func TestRefusedStatesStay(t *testing.T) {
	for _, words := range []int{7, 9} {
		state := slices.Repeat([]uint32{7}, words)
		if _, ok := impl.HashFrom(state, letters(64)); ok || !slices.Equal(state, slices.Repeat([]uint32{7}, words)) {
			t.Errorf("%d words: %v %x", words, ok, state)
		}
	}
}

func TestHashesWriteIntoNothing(t *testing.T) {
	var s steps
	for range 300 {
		first, second := []byte(s.text(s.below(41))), []byte(s.text(s.below(500)))
		kept := string(first) + string(second)
		a, b := bare(first), bare(second)
		n := s.below(256)
		answers := map[string]func() (string, bool){
			"Sha256":      func() (string, bool) { return impl.Sha256(b) },
			"HmacSha":     func() (string, bool) { return impl.HmacSha(a, b) },
			"HkdfExtract": func() (string, bool) { return impl.HkdfExtract(b, a) },
			"HkdfExpand":  func() (string, bool) { return impl.HkdfExpand(b, a, n) },
			"ExpandLabel": func() (string, bool) { return impl.ExpandLabel(b, a, n) },
		}
		for name, f := range answers {
			answer, ok := f()
			same, _ := f()
			if !ok || answer != same {
				t.Fatalf("%s: %x and then %x, %v", name, answer, same, ok)
			}
			wantNew(t, answer, a, b)
		}
		client, server, ok := impl.InitialSecrets(a[:min(len(a), impl.MaxId)])
		if !ok || client == server {
			t.Fatalf("InitialSecrets: %x %x %v", client, server, ok)
		}
		wantNew(t, client, a, server)
		wantNew(t, server, a)
		if string(first)+string(second) != kept {
			t.Fatal("an argument is changed")
		}
	}
}

func TestHashesAtAnyLengths(t *testing.T) {
	var s steps
	for range 2000 {
		a, b, n := letters(s.below(2)*s.below(4100)), letters(s.below(2)*s.below(4100)), s.below(300)-20
		if hash, ok := impl.Sha256(a); ok != (len(a) <= impl.MaxHashed) || ok == (hash == "") {
			t.Fatalf("Sha256, %d: %x %v", len(a), hash, ok)
		}
		if hash, ok := impl.HmacSha(a, b); ok != (len(a) <= 2000 && len(b) <= 2000) || ok == (hash == "") {
			t.Fatalf("HmacSha, %d, %d: %x %v", len(a), len(b), hash, ok)
		}
		good := len(a) <= 500 && len(b) <= 500 && n >= 0 && n <= 255
		if derived, ok := impl.HkdfExpand(a, b, n); ok != good || !good && derived != "" || good && len(derived) != n {
			t.Fatalf("HkdfExpand, %d, %d, %d: %x %v", len(a), len(b), n, derived, ok)
		}
		if client, server, ok := impl.InitialSecrets(b); ok != (len(b) <= impl.MaxId) || ok == (client == "") || ok == (server == "") {
			t.Fatalf("InitialSecrets, %d: %x %x %v", len(b), client, server, ok)
		}
		b = b[:len(b)%60]
		good = len(a) <= 500 && len(b) <= 40 && n >= 0 && n <= 255
		if derived, ok := impl.ExpandLabel(a, b, n); ok != good || !good && derived != "" || good && len(derived) != n {
			t.Fatalf("ExpandLabel, %d, %d, %d: %x %v", len(a), len(b), n, derived, ok)
		}
	}
}
