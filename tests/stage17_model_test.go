package tests

import (
	"maps"
	"path"
	"regexp"
	"slices"
	"strconv"
	"strings"

	"loop.example/g00206/impl"
)

var (
	hostForm     = regexp.MustCompile(`\A[-a-z0-9.]{1,60}\z`)
	ruleHostForm = regexp.MustCompile(`\A(\*|(\*\.)?[-a-z0-9.]{1,60})\z`)
	targetForm   = regexp.MustCompile(`\A/\.well-known/masque/udp/([-a-z0-9.]{1,60})/([1-9][0-9]{0,4})/\z`)
)

func hostTold(host string) bool {
	return hostForm.MatchString(host)
}

func portTold(port int) bool {
	return port >= 1 && port < 65536
}

func targetTold(told string) (string, int, bool) {
	parts := targetForm.FindStringSubmatch(told)
	if parts == nil {
		return "", 0, false
	}
	port, _ := strconv.Atoi(parts[2])
	if port > 65535 {
		return "", 0, false
	}
	return parts[1], port, true
}

func rulesTold(l []impl.Allow) bool {
	for _, r := range l {
		if !ruleHostForm.MatchString(r.Host) || !portTold(r.From) || !portTold(r.To) || r.From > r.To {
			return false
		}
	}
	return len(l) <= 20
}

// allowedTold takes each rule's host for a pattern, of which the * stands for one byte or more.
func allowedTold(l []impl.Allow, host string, port int) bool {
	for _, r := range l {
		fits, err := path.Match(strings.Replace(r.Host, "*", "?*", 1), host)
		if err == nil && fits && port >= r.From && port <= r.To {
			return !r.Deny
		}
	}
	return false
}

// byStreams are a proxy's flows in no order.
type byStreams map[int]impl.Flow

func streamsOf(p impl.Proxy) byStreams {
	m := byStreams{}
	for _, f := range p.Flows {
		m[f.Stream] = f
	}
	return m
}

func (m byStreams) told() []impl.Flow {
	var l []impl.Flow
	for _, stream := range slices.Sorted(maps.Keys(m)) {
		l = append(l, m[stream])
	}
	return l
}

func (m byStreams) in(p impl.Proxy) impl.Proxy {
	p.Flows = m.told()
	return p
}

func streamTold(n int) bool {
	return n >= 0 && n <= mostVarint-3 && n%4 == 0
}

// proxyTold tells the flows again by their streams: only such as rise come back.
func proxyTold(p impl.Proxy) bool {
	if !rulesTold(p.Rules) || p.Idle < 1 || p.Idle > 100000 || p.Now < 0 || p.Now > mostTick || len(p.Flows) > 10 {
		return false
	}
	for _, f := range p.Flows {
		counts := f.Up >= 0 && f.Up <= 1000000000 && f.Down >= 0 && f.Down <= 1000000000
		if !counts || !streamTold(f.Stream) || !hostTold(f.Host) || !portTold(f.Port) || f.Last < 0 || f.Last > p.Now {
			return false
		}
	}
	return slices.Equal(streamsOf(p).told(), p.Flows)
}

func openTold(p impl.Proxy, stream int, l []impl.Field) (impl.Proxy, int) {
	if !proxyTold(p) {
		return impl.Proxy{}, 400
	}
	m, asked := streamsOf(p), map[string]string{}
	for _, f := range slices.Backward(l) {
		asked[f.Name] = f.Value
	}
	host, port, ok := targetTold(asked[":path"])
	_, there := m[stream]
	isAsked := asked[":method"] == "CONNECT" && asked[":protocol"] == "connect-udp" && asked["capsule-protocol"] == "?1"
	switch {
	case there || !streamTold(stream) || !fieldsTold(l) || !isAsked || !ok:
		return p, 400
	case !allowedTold(p.Rules, host, port):
		return p, 403
	case len(m) == 10:
		return p, 503
	}
	m[stream] = impl.Flow{Stream: stream, Host: host, Port: port, Last: p.Now}
	return m.in(p), 200
}

func upTold(p impl.Proxy, s string) (impl.Proxy, impl.Flow, string, bool) {
	c, ok := carriedRead(s)
	m := streamsOf(p)
	f, there := m[c.Stream]
	if !ok || !there || c.Context != 0 || !proxyTold(p) {
		return impl.Proxy{}, impl.Flow{}, "", false
	}
	f.Last, f.Up = p.Now, min(f.Up+1, 1000000000)
	m[c.Stream] = f
	return m.in(p), f, c.Data, true
}

func downTold(p impl.Proxy, stream int, data string) (impl.Proxy, string, bool) {
	m := streamsOf(p)
	f, there := m[stream]
	if !there || len(data) > 1200 || !proxyTold(p) {
		return impl.Proxy{}, "", false
	}
	f.Last, f.Down = p.Now, min(f.Down+1, 1000000000)
	m[stream] = f
	return m.in(p), leastVarint(stream/4) + "\x00" + data, true
}

func closeTold(p impl.Proxy, stream int) (impl.Proxy, bool) {
	m := streamsOf(p)
	if _, there := m[stream]; !there || !proxyTold(p) {
		return impl.Proxy{}, false
	}
	delete(m, stream)
	return m.in(p), true
}

func tickTold(p impl.Proxy, by int) (impl.Proxy, []int, bool) {
	if by < 0 || by > mostTick || !proxyTold(p) {
		return impl.Proxy{}, nil, false
	}
	p.Now = min(p.Now+by, mostTick)
	m := streamsOf(p)
	var gone []int
	for stream, f := range m {
		if f.Last+p.Idle < p.Now {
			gone = append(gone, stream)
			delete(m, stream)
		}
	}
	slices.Sort(gone)
	return m.in(p), gone, true
}

// someHost is mostly a host, and mostly one that a rule speaks of.
func (s *steps) someHost() string {
	switch s.below(12) {
	case 0:
		return s.someOf("abz09.-", 1+s.below(4))
	case 1:
		return s.someOf("ab.", 58+s.below(5))
	case 2:
		return []string{"", "A", "a_b", "*", "*.a", "a/b", " a", "a ", "a:1", "\xff"}[s.below(10)]
	}
	return []string{"a", "b", "a.b", "b.a", "x.a.b", ".b", ".a.b", "aa.b", "ab"}[s.below(9)]
}

// goodHost is someHost, but surely one.
func (s *steps) goodHost() string {
	for {
		if host := s.someHost(); hostTold(host) {
			return host
		}
	}
}

func (s *steps) goodPort() int {
	if s.below(4) == 0 {
		return 1 + s.below(65535)
	}
	return []int{1, 2, 53, 79, 80, 81, 65534, 65535}[s.below(8)]
}

func (s *steps) somePort() int {
	if s.below(8) == 0 {
		return noPorts()[s.below(len(noPorts()))]
	}
	return s.goodPort()
}

func (s *steps) goodRules() []impl.Allow {
	count := s.below(5)
	if s.below(8) == 0 {
		count = 18 + s.below(3)
	}
	var l []impl.Allow
	for range count {
		from, to := s.goodPort(), s.goodPort()
		if s.below(2) == 0 {
			from, to = 1, 65535
		}
		host := []string{"*", "*.", ""}[s.below(3)]
		if host != "*" {
			host += s.goodHost()
		}
		l = append(l, rule(s.below(2) == 0, host, min(from, to), max(from, to)))
	}
	if s.below(2) == 0 && count < 20 {
		l = append(l, rule(false, "*", 1, 65535))
	}
	return l
}

// someRules are mostly good.
func (s *steps) someRules() []impl.Allow {
	l := s.goodRules()
	if len(l) > 0 && s.below(4) == 0 {
		r := &l[s.below(len(l))]
		switch s.below(5) {
		case 0:
			r.Host = s.someHost()
		case 1:
			r.Host = "*." + s.someHost()
		case 2:
			r.From = s.somePort()
		case 3:
			r.To = s.somePort()
		case 4:
			for len(l) < 21 {
				l = append(l, l[0])
			}
		}
	}
	return l
}

func (s *steps) goodFlows(now int) []impl.Flow {
	m := byStreams{}
	count := s.below(14)
	if s.below(6) == 0 {
		count = 40
	}
	for range count {
		stream := 4 * s.below(12)
		if s.below(8) == 0 {
			stream = 4 * (s.someVarint() >> 2)
		}
		if len(m) < 10 {
			m[stream] = impl.Flow{Stream: stream, Host: s.goodHost(), Port: s.goodPort(), Last: max(0, now-s.below(70)), Up: s.someCount(), Down: s.someCount()}
		}
	}
	return m.told()
}

func (s *steps) someCount() int {
	if s.below(4) == 0 {
		return mostThrough - s.below(3)
	}
	return s.below(1000)
}

func (s *steps) goodProxy() impl.Proxy {
	p := impl.Proxy{Rules: s.goodRules(), Idle: 1 + s.below(60), Now: s.below(200)}
	switch s.below(8) {
	case 0:
		p.Now = mostTick - s.below(40)
	case 1:
		p.Idle = 100000 - s.below(3)
	}
	p.Flows = s.goodFlows(p.Now)
	return p
}

// someProxy is mostly good, and mostly wrong in one thing if it isn't.
func (s *steps) someProxy() impl.Proxy {
	p := s.goodProxy()
	if s.below(6) > 0 {
		return p
	}
	wrong := []int{-1, 0, 1, p.Now, p.Now + 1, mostTick, mostTick + 1, 100000, 100001, mostThrough + 1, minInt, maxInt}[s.below(12)]
	f := &impl.Flow{}
	if len(p.Flows) > 0 {
		f = &p.Flows[s.below(len(p.Flows))]
	}
	switch s.below(10) {
	case 0:
		p.Rules = s.someRules()
	case 1:
		p.Idle = wrong
	case 2:
		p.Now = wrong
	case 3:
		f.Stream = []int{wrong, 4 * s.below(12), f.Stream + 1, mostStream + 4}[s.below(4)]
	case 4:
		f.Host = s.someHost()
	case 5:
		f.Port = s.somePort()
	case 6:
		f.Last = wrong
	case 7:
		f.Up = wrong
	case 8:
		f.Down = wrong
	case 9:
		p.Flows = append(p.Flows, p.Flows...)
	}
	return p
}

// streamIn is mostly one that has a flow.
func (s *steps) streamIn(p impl.Proxy) int {
	if len(p.Flows) > 0 && s.below(3) > 0 {
		return p.Flows[s.below(len(p.Flows))].Stream
	}
	switch s.below(4) {
	case 0:
		return otherStreams()[s.below(len(otherStreams()))]
	case 1:
		return s.below(50)
	}
	return 4 * s.below(14)
}

// someAsk are fields that mostly ask for a flow.
func (s *steps) someAsk() []impl.Field {
	host, port := s.goodHost(), s.goodPort()
	if s.below(8) == 0 {
		host, port = s.someHost(), s.somePort()
	}
	l := targetFields(pathAhead + host + "/" + decimal(port) + "/")
	if s.below(3) == 0 {
		l = slices.Concat(l[2:], l[:2])
	}
	switch s.below(16) {
	case 0:
		l[s.below(4)] = s.goodField()
	case 1:
		l = append(s.someFields(), l...)
	case 2:
		l = append(l, s.someFields()...)
	case 3:
		l[s.below(4)].Value += s.printable(1)
	case 4:
		l[s.below(4)].Name = s.text(1 + s.below(2))
	}
	return l
}

// someUp is mostly carried for a flow.
func (s *steps) someUp(p impl.Proxy) string {
	text := s.anySize((s.streamIn(p)&mostVarint)/4) + s.anySize(0) + s.text(s.below(12))
	switch s.below(12) {
	case 0:
		return text[:s.below(len(text)+1)]
	case 1:
		return turned(text, s.below(8*len(text)))
	case 2:
		return text + letters(1185+s.below(20))
	case 3:
		return s.anySize((s.streamIn(p)&mostVarint)/4) + s.anySize(s.someVarint()) + "x"
	}
	return text
}

func (s *steps) someDown() string {
	if s.below(10) == 0 {
		return letters(1198 + s.below(5))
	}
	return s.text(s.below(12))
}

func (s *steps) someBy() int {
	switch s.below(8) {
	case 0:
		return []int{-1, -2, mostTick - 1, mostTick, mostTick + 1, maxInt, minInt}[s.below(7)]
	case 1:
		return s.below(mostTick)
	}
	return s.below(40)
}
