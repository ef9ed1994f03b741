package tests

import (
	"strings"
	"testing"

	"loop.example/g00206/impl"
)

// staticText is the table in the document's words.
const staticText = ":authority; :path /; :method CONNECT; :method GET; :method POST; :scheme http; :scheme https; " +
	":status 200; :status 404; :status 503; :protocol connect-udp; capsule-protocol ?1; content-length 0; " +
	"date; user-agent; accept */*"

func staticTold() []impl.Field {
	var l []impl.Field
	for told := range strings.SplitSeq(staticText, "; ") {
		name, value, _ := strings.Cut(told, " ")
		l = append(l, impl.Field{Name: name, Value: value})
	}
	return l
}

// staticAtTold goes through the whole table from its end.
func staticAtTold(f impl.Field) (place, named int) {
	l := staticTold()
	place, named = -1, -1
	for k := len(l) - 1; k >= 0; k-- {
		if l[k].Name == f.Name {
			named = k
		}
		if l[k].Name == f.Name && l[k].Value == f.Value {
			place = k
		}
	}
	return place, named
}

func field(name, value string) impl.Field {
	return impl.Field{Name: name, Value: value}
}

func wantAt(t *testing.T, f impl.Field, place, named int) {
	t.Helper()
	if gotPlace, gotNamed := impl.StaticAt(f); gotPlace != place || gotNamed != named {
		t.Errorf("%q: %d %d, not %d %d", f, gotPlace, gotNamed, place, named)
	}
}

func TestStaticField(t *testing.T) {
	l := staticTold()
	if len(l) != 16 {
		t.Fatal(len(l))
	}
	for k, want := range l {
		if f, ok := impl.StaticField(k); f != want || !ok {
			t.Errorf("%d: %q %v, not %q", k, f, ok, want)
		}
	}
	for _, k := range []int{minInt, minInt + 3, -16, -2, -1, 16, 17, 255, 256, 1 << 32, 1<<32 + 3, maxInt - 1, maxInt} {
		if f, ok := impl.StaticField(k); f != (impl.Field{}) || ok {
			t.Errorf("%d: %q %v", k, f, ok)
		}
	}
}

func TestStaticAt(t *testing.T) {
	for _, c := range []struct {
		f            impl.Field
		place, named int
	}{
		// the value is there
		{field(":authority", ""), 0, 0},
		{field(":path", "/"), 1, 1},
		{field(":method", "CONNECT"), 2, 2},
		{field(":scheme", "http"), 5, 5},
		{field(":status", "200"), 7, 7},
		{field(":protocol", "connect-udp"), 10, 10},
		{field("capsule-protocol", "?1"), 11, 11},
		{field("content-length", "0"), 12, 12},
		{field("date", ""), 13, 13},
		{field("user-agent", ""), 14, 14},
		{field("accept", "*/*"), 15, 15},
		// the value is at a later place
		{field(":method", "GET"), 3, 2},
		{field(":method", "POST"), 4, 2},
		{field(":scheme", "https"), 6, 5},
		{field(":status", "404"), 8, 7},
		{field(":status", "503"), 9, 7},
		// the name alone is there
		{field(":authority", "a"), -1, 0},
		{field(":authority", " "), -1, 0},
		{field(":path", ""), -1, 1},
		{field(":path", "//"), -1, 1},
		{field(":path", "/x"), -1, 1},
		{field(":method", ""), -1, 2},
		{field(":method", "get"), -1, 2},
		{field(":method", "GETS"), -1, 2},
		{field(":method", "GE"), -1, 2},
		{field(":method", "https"), -1, 2},
		{field(":scheme", "httpss"), -1, 5},
		{field(":scheme", "GET"), -1, 5},
		{field(":status", "201"), -1, 7},
		{field(":status", "20"), -1, 7},
		{field(":protocol", "0"), -1, 10},
		{field("capsule-protocol", "?0"), -1, 11},
		{field("content-length", "00"), -1, 12},
		{field("content-length", "?1"), -1, 12},
		{field("date", "0"), -1, 13},
		{field("user-agent", "*/*"), -1, 14},
		{field("accept", ""), -1, 15},
		// a value that can't be good does no harm
		{field("date", "\x00"), -1, 13},
		{field("accept", strings.Repeat("*/*", 50)), -1, 15},
		// the name is not there
		{field("", ""), -1, -1},
		{field("", "/"), -1, -1},
		{field(":", ""), -1, -1},
		{field("path", "/"), -1, -1},
		{field(":pat", "/"), -1, -1},
		{field(":paths", "/"), -1, -1},
		{field(":Path", "/"), -1, -1},
		{field("::path", "/"), -1, -1},
		{field(":path ", "/"), -1, -1},
		{field("/", ":path"), -1, -1},
		{field("GET", ":method"), -1, -1},
		{field("*/*", "*/*"), -1, -1},
		{field("Accept", "*/*"), -1, -1},
		{field("accept\x00", "*/*"), -1, -1},
		{field("x", "GET"), -1, -1},
	} {
		wantAt(t, c.f, c.place, c.named)
	}
}

// Each name with each value of the table, and each with a byte too many or too few.
func TestStaticAtOfAllPairs(t *testing.T) {
	kinds := map[[2]bool]int{}
	for _, a := range staticTold() {
		for _, b := range staticTold() {
			for _, name := range []string{a.Name, a.Name + "x", a.Name[1:], a.Name[:len(a.Name)-1], a.Value} {
				for _, value := range []string{b.Value, b.Value + "x", b.Value[len(b.Value)/2:], b.Name} {
					f := field(name, value)
					place, named := staticAtTold(f)
					kinds[[2]bool{place >= 0, named >= 0}]++
					wantAt(t, f, place, named)
				}
			}
		}
	}
	if len(kinds) != 3 {
		t.Error(kinds)
	}
}

func TestStaticFieldsComeBack(t *testing.T) {
	for k := range 16 {
		f, _ := impl.StaticField(k)
		if place, named := impl.StaticAt(f); place != k || named > k || named < 0 {
			t.Errorf("%d: %q is at %d, named at %d", k, f, place, named)
		}
		if !impl.GoodFields([]impl.Field{f}) {
			t.Errorf("%q is not good", f)
		}
	}
}
