package tests

import (
	"slices"
	"testing"

	"loop.example/g00206/impl"
)

// watchedFields show whatever is written into fields, into their texts, or behind them.
type watchedFields struct {
	fields watchedList[impl.Field]
	texts  []byte
	was    string
}

// watchFields lays behind the fields what would make them bad or be found, if someone looked there.
func watchFields(l []impl.Field) watchedFields {
	var w watchedFields
	for _, f := range l {
		w.texts = append(w.texts, f.Name+f.Value...)
	}
	w.was = string(w.texts)
	one := bare(w.texts)
	var own []impl.Field
	for _, f := range l {
		split, end := len(f.Name), len(f.Name)+len(f.Value)
		own = append(own, impl.Field{Name: one[:split], Value: one[split:end]})
		one = one[end:]
	}
	w.fields = watchList(own, field("behind", "x"), impl.Field{}, field("\x00", "\x00"))
	return w
}

func (w watchedFields) wantUnwritten(t *testing.T) {
	t.Helper()
	w.fields.wantUnwritten(t)
	if string(w.texts) != w.was {
		t.Fatalf("%x became %x", w.was, w.texts)
	}
}

func TestFieldsWriteIntoNothing(t *testing.T) {
	var s steps
	good, found := 0, 0
	for range 10000 {
		l := s.someFields()
		w := watchFields(l)
		if impl.GoodFields(w.fields.list) != impl.GoodFields(l) {
			t.Fatalf("%q: what lies behind counts", l)
		}
		want, wantOk := impl.FieldsBytes(l)
		told, ok := impl.FieldsBytes(w.fields.list)
		if told != want || ok != wantOk {
			t.Fatalf("%q: %x %v, then %x %v", l, want, wantOk, told, ok)
		}
		wantNew(t, told, bare(w.texts))
		wantNoFieldOf(t, w.fields.list, "behind", "what lies behind")
		wantNoFieldOf(t, w.fields.list, "\x00", "what lies behind")
		for _, f := range l {
			name := []byte(f.Name)
			value, there := impl.FieldOf(w.fields.list, bare(name))
			if there != ok || string(name) != f.Name {
				t.Fatalf("%q in %q: %q %v", f.Name, l, value, there)
			}
			wantNew(t, value, bare(w.texts), bare(name))
			if there {
				found++
			}
		}
		for _, f := range w.fields.list {
			place, named := staticAtTold(f)
			wantAt(t, f, place, named)
		}
		w.wantUnwritten(t)
		if ok {
			good++
		}
	}
	if good < 5000 || found < 20000 {
		t.Error(good, found)
	}
}

func TestReadFieldsAnswersNewMemory(t *testing.T) {
	var s steps
	read, refused := 0, 0
	for range 10000 {
		was := s.someFieldsBytes()
		text := []byte(was)
		l, ok := impl.ReadFields(bare(text))
		kept := slices.Clone(l)
		if string(text) != was {
			t.Fatalf("%x became %x", was, text)
		}
		for i, f := range l {
			wantNew(t, f.Name, bare(text))
			wantNew(t, f.Value, bare(text))
			kept[i] = field(string([]byte(f.Name)), string([]byte(f.Value)))
		}
		clear(text) // an answer that lay there would change
		if !slices.Equal(l, kept) {
			t.Fatalf("%x: %q became %q", was, kept, l)
		}
		wantNothingBehind(t, l)
		if again, againOk := impl.ReadFields(was); !slices.Equal(again, kept) || againOk != ok {
			t.Fatalf("%x: %q %v, then %q %v", was, kept, ok, again, againOk)
		}
		if ok {
			read++
		} else {
			refused++
		}
	}
	if read < 2000 || refused < 2000 {
		t.Error(read, refused)
	}
}

// The table stays as it is, whatever is done with what was answered.
func TestStaticFieldsAreNotChanged(t *testing.T) {
	for k := range 16 {
		f, _ := impl.StaticField(k)
		f.Name, f.Value = "changed", "changed"
	}
	s, _ := impl.FieldsBytes(staticTold())
	l, ok := impl.ReadFields(s)
	if !slices.Equal(l, staticTold()) || !ok {
		t.Fatalf("%q %v", l, ok)
	}
	clear(l)
	for k, want := range staticTold() {
		if f, ok := impl.StaticField(k); f != want || !ok {
			t.Errorf("%d: %q %v, not %q", k, f, ok, want)
		}
	}
}

func TestPrefixesWriteIntoNothing(t *testing.T) {
	var s steps
	for range 3000 {
		was := s.text(s.below(8))
		text := []byte(was)
		n, above, size := impl.TakePrefix(bare(text), 3+s.below(6))
		if string(text) != was || n < 0 || above < 0 || size < 0 || size > len(was) {
			t.Fatalf("%x became %x: %d %d %d", was, text, n, above, size)
		}
	}
}
