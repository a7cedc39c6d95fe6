package spec_test

import (
	"math"
	"strconv"
	"strings"
	"testing"

	"bosun/api"
	"bosun/spec"
)

// spoil is a way to spoil a pod, and the error that comes of it.
type spoil struct {
	what string
	want api.Errno
	do   func(p *spec.Pod)
}

// podSpoils spoil what isn't in containers, in the order of the section 'Errors'.
func podSpoils() []spoil {
	return []spoil{
		{"a Name", api.ErrName, func(p *spec.Pod) { p.Name = "A" }},
		{"a Namespace", api.ErrName, func(p *spec.Pod) { p.Namespace = "a.b" }},
		{"a Restart", api.ErrRange, func(p *spec.Pod) { p.Restart = 3 }},
		{"a Grace", api.ErrRange, func(p *spec.Pod) { p.Grace = 3601 }},
		{"no containers", api.ErrNone, func(p *spec.Pod) { p.Containers = nil }},
		{"containers", api.ErrFull, func(p *spec.Pod) { fill(&p.Containers, 17, numbered) }},
	}
}

// numbered is the container of a number.
func numbered(i int) spec.Container { return small("n" + strconv.Itoa(i)) }

// fill puts more items behind a list, till it has so many.
func fill[T any](l *[]T, n int, item func(i int) T) {
	for len(*l) < n {
		*l = append(*l, item(len(*l)))
	}
}

// command, port and env are the items of a number, which are alike with none of another number.
func command(i int) string { return strconv.Itoa(i) }

func port(i int) spec.Port { return spec.Port{Number: int64(1000 + i)} }

func env(i int) spec.Env { return spec.Env{Name: "N" + strconv.Itoa(i)} }

// spoilsOf spoil the container of a number, in the order of the section 'Errors'; of two of them that are done one after
// the other, each does what it does alone. Those of items in a list are done to the second item.
func spoilsOf(i int) []spoil {
	in := func(what string, want api.Errno, do func(c *spec.Container)) spoil {
		return spoil{what + " of container " + strconv.Itoa(i), want, func(p *spec.Pod) { do(&p.Containers[i]) }}
	}
	l := []spoil{in("the name", api.ErrName, func(c *spec.Container) { c.Name = "-" })}
	if i > 0 {
		l = append(l, spoil{"the same name as that ahead", api.ErrTwice, func(p *spec.Pod) { p.Containers[i-1].Name = p.Containers[i].Name }})
	}
	return append(l,
		in("the image", api.ErrForm, func(c *spec.Container) { c.Image = "Nginx" }),
		in("too long a command", api.ErrFull, func(c *spec.Container) { fill(&c.Command, 17, command) }),
		in("too many ports", api.ErrFull, func(c *spec.Container) { fill(&c.Ports, 17, port) }),
		in("too many variables", api.ErrFull, func(c *spec.Container) { fill(&c.Env, 17, env) }),
		in("the cpu", api.ErrRange, func(c *spec.Container) { c.Cpu = 0 }),
		in("the memory", api.ErrRange, func(c *spec.Container) { c.Memory = 0 }),
		in("a command's text, no UTF-8,", api.ErrText, func(c *spec.Container) { c.Command[1] = "\xff" + c.Command[1] }),
		in("a command's text, long,", api.ErrLong, func(c *spec.Container) { c.Command[1] += strings.Repeat("x", 4097) }),
		in("a port's number", api.ErrRange, func(c *spec.Container) { c.Ports[1].Number = 0 }),
		in("a port's proto", api.ErrRange, func(c *spec.Container) { c.Ports[1].Proto = 2 }),
		in("two ports", api.ErrTwice, func(c *spec.Container) { c.Ports[0] = c.Ports[1] }),
		in("a variable's name", api.ErrName, func(c *spec.Container) { c.Env[1].Name = "1" }),
		in("two variables", api.ErrTwice, func(c *spec.Container) { c.Env[0].Name = c.Env[1].Name }),
		in("a variable's value, no UTF-8,", api.ErrText, func(c *spec.Container) { c.Env[1].Value = "\xff" + c.Env[1].Value }),
		in("a variable's value, long,", api.ErrLong, func(c *spec.Container) { c.Env[1].Value += strings.Repeat("x", 4097) }),
	)
}

// P14.1: a pod that may be, and each error alone.
func TestErrorsAlone(t *testing.T) {
	holdCheck(t, "a pod", plain(), api.OK)
	holdCheck(t, "a pod with no more than it needs", spec.Pod{Name: "a", Namespace: "b", Grace: 1, Containers: []spec.Container{{Name: "c", Image: "d", Cpu: 1, Memory: 1}}}, api.OK)
	holdCheck(t, "the zero pod", spec.Pod{}, api.ErrName)
	for _, l := range [][]spoil{podSpoils(), spoilsOf(0), spoilsOf(1), spoilsOf(2)} {
		for _, s := range l {
			p := plain()
			s.do(&p)
			holdCheck(t, s.what, p, s.want)
		}
	}
}

// P14.1: of each two errors the one that the section names first is told, be they of the pod, or of one container, the
// first one or another.
func TestErrorsTogether(t *testing.T) {
	for i := range 3 {
		l := append(podSpoils(), spoilsOf(i)...)
		for j, s := range l {
			for _, later := range l[j+1:] {
				p := plain()
				s.do(&p)
				if len(p.Containers) == 0 {
					continue // there is no other error then
				}
				later.do(&p)
				if len(p.Containers) == 0 {
					holdCheck(t, s.what+", and no containers", p, s.want)
					continue
				}
				holdCheck(t, s.what+", and "+later.what, p, s.want)
			}
		}
	}
}

// P14.1: each error of a container is ahead of each one of a later container.
func TestErrorsOfContainers(t *testing.T) {
	for _, of := range [][2]int{{0, 1}, {0, 2}, {1, 2}} {
		for _, s := range spoilsOf(of[0]) {
			for _, later := range spoilsOf(of[1]) {
				p := plain()
				// The later one goes first, for it may set the name of the container ahead.
				later.do(&p)
				s.do(&p)
				holdCheck(t, s.what+", and "+later.what, p, s.want)
			}
		}
	}
}

// P14.1: item by item, each error of an item is ahead of each one of a later item.
func TestErrorsOfItems(t *testing.T) {
	long := strings.Repeat("x", 4097)
	for _, c := range []struct {
		what string
		do   func(c *spec.Container)
		want api.Errno
	}{
		{"a text that is too long ahead of one that is no UTF-8", func(c *spec.Container) { c.Command = []string{long, "\xff"} }, api.ErrLong},
		{"a text that is no UTF-8 ahead of one that is too long", func(c *spec.Container) { c.Command = []string{"\xff", long} }, api.ErrText},
		{"two texts, the first one behind others", func(c *spec.Container) { c.Command = []string{"", "a", "a", long, "", "\xff"} }, api.ErrLong},
		{"ports alike ahead of one out of range", func(c *spec.Container) { c.Ports = []spec.Port{{Number: 7}, {Number: 7}, {Number: 0}} }, api.ErrTwice},
		{"a port out of range ahead of ports alike", func(c *spec.Container) { c.Ports = []spec.Port{{Number: 0}, {Number: 7}, {Number: 7}} }, api.ErrRange},
		{"ports alike, both out of range", func(c *spec.Container) { c.Ports = []spec.Port{{Number: 0}, {Number: 0}} }, api.ErrRange},
		{"a port out of range between ports alike", func(c *spec.Container) { c.Ports = []spec.Port{{Number: 7}, {Number: 7, Proto: 2}, {Number: 7}} }, api.ErrRange},
		{"a long value ahead of a wrong name", func(c *spec.Container) { c.Env = []spec.Env{{"A", long}, {"", ""}} }, api.ErrLong},
		{"a long value ahead of one that is no UTF-8", func(c *spec.Container) { c.Env = []spec.Env{{"A", long}, {"B", "\xff"}} }, api.ErrLong},
		{"a value that is no UTF-8 ahead of a name twice", func(c *spec.Container) { c.Env = []spec.Env{{"A", "\xff"}, {"A", ""}} }, api.ErrText},
		{"a name twice ahead of a wrong name", func(c *spec.Container) { c.Env = []spec.Env{{"A", ""}, {"A", ""}, {"-", ""}} }, api.ErrTwice},
		{"a wrong name ahead of a name twice", func(c *spec.Container) { c.Env = []spec.Env{{"-", ""}, {"A", ""}, {"A", ""}} }, api.ErrName},
		{"a wrong name twice", func(c *spec.Container) { c.Env = []spec.Env{{"-", ""}, {"-", ""}} }, api.ErrName},
		{"a name twice, its value long", func(c *spec.Container) { c.Env = []spec.Env{{"A", ""}, {"A", long}} }, api.ErrTwice},
		{"a text both long and no UTF-8", func(c *spec.Container) { c.Command = []string{long + "\xff"} }, api.ErrText},
		{"a value both long and no UTF-8", func(c *spec.Container) { c.Env = []spec.Env{{"A", long + "\xff"}} }, api.ErrText},
	} {
		for i := range 3 {
			p := plain()
			c.do(&p.Containers[i])
			holdCheck(t, c.what, p, c.want)
		}
	}
}

// P14.1: what is there twice, side by side and with others between.
func TestTwice(t *testing.T) {
	names := func(l ...string) spec.Pod {
		p := podOf()
		for _, s := range l {
			p.Containers = append(p.Containers, full(s))
		}
		return p
	}
	ports := func(l ...spec.Port) spec.Pod {
		c := small("c")
		c.Ports = l
		return podOf(small("b"), c)
	}
	envs := func(l ...spec.Env) spec.Pod {
		c := small("c")
		c.Env = l
		return podOf(small("b"), c)
	}
	tcp := func(n int64) spec.Port { return spec.Port{Number: n, Proto: spec.TCP} }
	udp := func(n int64) spec.Port { return spec.Port{Number: n, Proto: spec.UDP} }
	for _, c := range []struct {
		what string
		p    spec.Pod
		want api.Errno
	}{
		{"containers of one name", names("a", "a"), api.ErrTwice},
		{"containers of one name at the end", names("c", "b", "a", "a"), api.ErrTwice},
		{"containers of one name, others between", names("a", "b", "c", "a"), api.ErrTwice},
		{"containers of one name, others around", names("x", "a", "b", "a", "y"), api.ErrTwice},
		{"three containers of one name", names("a", "a", "a"), api.ErrTwice},
		{"containers of names much alike", names("a", "aa", "a-a", "a1", "b", "1", "11"), api.OK},
		{"containers with the same ports, variables and commands", names("a", "b", "c"), api.OK},
		{"a container of the pod's name", spec.Pod{Name: "web", Namespace: "web", Grace: 1, Containers: []spec.Container{small("web")}}, api.OK},
		{"ports alike", ports(tcp(80), tcp(80)), api.ErrTwice},
		{"ports alike by UDP", ports(udp(80), udp(80)), api.ErrTwice},
		{"ports alike, others between", ports(tcp(80), udp(80), tcp(81), tcp(80)), api.ErrTwice},
		{"ports alike at the end", ports(tcp(1), tcp(2), udp(3), udp(3)), api.ErrTwice},
		{"ports of one number and different protos", ports(tcp(80), udp(80)), api.OK},
		{"ports of one number and different protos, UDP first", ports(udp(80), tcp(80), tcp(81), udp(81)), api.OK},
		{"ports of different numbers", ports(tcp(1), tcp(2), tcp(3), udp(4)), api.OK},
		{"variables of one name with one value", envs(spec.Env{"A", "x"}, spec.Env{"A", "x"}), api.ErrTwice},
		{"variables of one name with different values", envs(spec.Env{"A", "x"}, spec.Env{"A", "y"}), api.ErrTwice},
		{"variables of one name, others between", envs(spec.Env{"A", "x"}, spec.Env{"B", "x"}, spec.Env{"C", "x"}, spec.Env{"A", ""}), api.ErrTwice},
		{"variables of names in small and in capital letters", envs(spec.Env{"a", "x"}, spec.Env{"A", "x"}, spec.Env{"_", "x"}, spec.Env{"__", "x"}), api.OK},
		{"variables of one value", envs(spec.Env{"A", "x"}, spec.Env{"B", "x"}), api.OK},
	} {
		holdCheck(t, c.what, c.p, c.want)
	}
	c := small("c")
	c.Command = []string{"a", "a", "", "a", ""}
	holdCheck(t, "a command of texts alike", podOf(c), api.OK)
}

// spot is a place where a kind of thing stands, and the error of one that may not be.
type spot[T any] struct {
	what string
	want api.Errno
	put  func(p *spec.Pod, x T)
}

// holdSpot holds that of each such thing a pod is in order, or has the spot's error.
func holdSpot[T any](t *testing.T, s spot[T], may bool, l ...T) {
	t.Helper()
	want := s.want
	if may {
		want = api.OK
	}
	for i, x := range l {
		p := plain()
		s.put(&p, x)
		holdCheck(t, s.what+" "+strconv.Itoa(i)+", that may be: "+strconv.FormatBool(may), p, want)
	}
}

// P14.1: names, at their limits and beyond, and wrong ones. What names are, layer 13's tests hold in full.
func TestNames(t *testing.T) {
	label := strings.Repeat("a", 63)
	name := strings.Repeat(label+".", 3) + strings.Repeat("b", 61) // of 253 bytes
	never := []string{"", "-a", "a-", "A", "a_b", "a b", " a", "a\n", "é", "\xff", "a..b", ".a", "a.", strings.Repeat("a", 64)}
	podName := spot[string]{"the Name", api.ErrName, func(p *spec.Pod, s string) { p.Name = s }}
	holdSpot(t, podName, true, "a", "1", "a-1", "a.b-c", label, label+"."+label, name)
	holdSpot(t, podName, false, append(never, name+"b", label+"a."+label, "a."+label+"a", name+".", strings.Repeat("a", 1<<20))...)
	for _, s := range []spot[string]{
		{"the Namespace", api.ErrName, func(p *spec.Pod, s string) { p.Namespace = s }},
		{"the first container's Name", api.ErrName, func(p *spec.Pod, s string) { p.Containers[0].Name = s }},
		{"the last container's Name", api.ErrName, func(p *spec.Pod, s string) { p.Containers[2].Name = s }},
	} {
		holdSpot(t, s, true, "a", "1", "a-1", "default", label)
		holdSpot(t, s, false, append(never, "a.b", label+"a", label+"."+label, name, strings.Repeat("a", 1<<20))...)
	}
	for i := range 3 {
		s := spot[string]{"an Image", api.ErrForm, func(p *spec.Pod, s string) { p.Containers[i].Image = s }}
		image := strings.Repeat("i", 255)
		holdSpot(t, s, true, "a", "1", "nginx", "docker.io/nginx:1", "aZ9._-/:@", image)
		holdSpot(t, s, false, "", "Nginx", "-a", ".a", "/a", "a b", "a+b", "é", "\xff", image+"i", strings.Repeat("a", 1<<20))
		for j := range 2 {
			s := spot[string]{"a variable's Name", api.ErrName, func(p *spec.Pod, s string) { p.Containers[i].Env[j].Name = s }}
			holdSpot(t, s, true, "A", "z", "_", "HTTP_PORT", "a1", strings.Repeat("V", 63))
			holdSpot(t, s, false, "", "1", "1a", "a-b", "a.b", "a b", "é", "\xff", strings.Repeat("V", 64), strings.Repeat("V", 1<<20))
		}
	}
}

// P14.1: numbers, at their limits and beyond.
func TestNumbers(t *testing.T) {
	restart := spot[spec.Restart]{"the Restart", api.ErrRange, func(p *spec.Pod, r spec.Restart) { p.Restart = r }}
	holdSpot(t, restart, true, 0, 1, 2)
	holdSpot(t, restart, false, -1, 3, 4, -2, 256, 1<<32, 1<<32+1, -1<<32, math.MinInt, math.MaxInt)
	holdNumbers(t, "the Grace", 3600, func(p *spec.Pod, n int64) { p.Grace = n })
	for i := range 3 {
		holdNumbers(t, "a Cpu", 64000, func(p *spec.Pod, n int64) { p.Containers[i].Cpu = n })
		holdNumbers(t, "a Memory", 1<<20, func(p *spec.Pod, n int64) { p.Containers[i].Memory = n })
		for j := range 2 {
			holdNumbers(t, "a Number", 65535, func(p *spec.Pod, n int64) { p.Containers[i].Ports[j].Number = n })
			proto := spot[spec.Proto]{"a Proto", api.ErrRange, func(p *spec.Pod, r spec.Proto) { p.Containers[i].Ports[j].Proto = r }}
			holdSpot(t, proto, true, 0, 1)
			holdSpot(t, proto, false, -1, 2, 3, 256, 1<<32, 1<<32+1, -1<<32, math.MinInt, math.MaxInt)
		}
	}
}

// holdNumbers holds that a number may be from 1 to most.
func holdNumbers(t *testing.T, what string, most int64, put func(p *spec.Pod, n int64)) {
	t.Helper()
	s := spot[int64]{what, api.ErrRange, put}
	holdSpot(t, s, true, 1, 2, most/2, most-1, most)
	holdSpot(t, s, false, 0, -1, -2, -most, most+1, most+2, 1<<32, 1<<32+1, -1<<32+1, math.MinInt64, math.MinInt64+1, math.MaxInt64)
}

// P14.1: how many containers, and how many items in a list, may be.
func TestCounts(t *testing.T) {
	for n, want := range map[int]api.Errno{0: api.ErrNone, 1: api.OK, 2: api.OK, 15: api.OK, 16: api.OK, 17: api.ErrFull, 18: api.ErrFull, 5000: api.ErrFull} {
		p := podOf()
		fill(&p.Containers, n, numbered)
		holdCheck(t, strconv.Itoa(n)+" containers", p, want)
	}
	p := podOf()
	p.Containers = []spec.Container{}
	holdCheck(t, "an empty list of containers", p, api.ErrNone)
	for i := range 3 {
		holdCounts(t, "a Command", func(c *spec.Container, n int) { c.Command = nil; fill(&c.Command, n, command) }, i)
		holdCounts(t, "Ports", func(c *spec.Container, n int) { c.Ports = nil; fill(&c.Ports, n, port) }, i)
		holdCounts(t, "Env", func(c *spec.Container, n int) { c.Env = nil; fill(&c.Env, n, env) }, i)
	}
}

// holdCounts holds that of a list of the container i there may be none to 16.
func holdCounts(t *testing.T, what string, put func(c *spec.Container, n int), i int) {
	t.Helper()
	s := spot[int]{what, api.ErrFull, func(p *spec.Pod, n int) { put(&p.Containers[i], n) }}
	holdSpot(t, s, true, 0, 1, 2, 15, 16)
	holdSpot(t, s, false, 17, 18, 5000)
}

// P14.1: a pod as great as it may be.
func TestGreatest(t *testing.T) {
	long := strings.Repeat("é", 2048)
	p := spec.Pod{Name: strings.Repeat("a", 63), Namespace: strings.Repeat("b", 63), Restart: 2, Grace: 3600, Host: true}
	for i := range 16 {
		c := numbered(i)
		fill(&c.Command, 16, func(int) string { return long })
		fill(&c.Ports, 16, func(j int) spec.Port { return spec.Port{Number: 65535 - int64(j)/2, Proto: spec.Proto(j % 2)} })
		fill(&c.Env, 16, func(j int) spec.Env { return spec.Env{Name: env(j).Name, Value: long} })
		p.Containers = append(p.Containers, c)
	}
	holdCheck(t, "a great pod", p, api.OK)
	p.Containers[15].Env[15].Value += "x"
	holdCheck(t, "a great pod, its last value too long", p, api.ErrLong)
	p.Containers[15].Env[15].Name = "N0"
	holdCheck(t, "a great pod, its last name the first one", p, api.ErrTwice)
	p.Containers[15].Ports[15] = p.Containers[15].Ports[0]
	holdCheck(t, "a great pod, its last port the first one", p, api.ErrTwice)
	p.Containers[15].Command[15] += "x"
	holdCheck(t, "a great pod, its last text too long", p, api.ErrLong)
	p.Containers[15].Name = "n0"
	holdCheck(t, "a great pod, its last container named as the first one", p, api.ErrTwice)
}

// P14.1: texts, at their limit and beyond, and those that are no valid UTF-8.
func TestTexts(t *testing.T) {
	x := func(n int) string { return strings.Repeat("x", n) }
	may := []string{"", " ", "\x00", "\n\t\"\\", "é", "\U0001f600", "\ufffd", x(4095), x(4096), strings.Repeat("é", 2048), x(4093) + "€", x(4092) + "\U0001f600"}
	long := []string{x(4097), x(4098), strings.Repeat("é", 2048) + "x", x(4095) + "é", x(4094) + "€", strings.Repeat("\n", 4097), x(1 << 20)}
	none := []string{"\xff", "\x80", "\xc3", "a\xffb", "\xc0\x80", "\xed\xa0\x80", "\xf4\x90\x80\x80", x(4095) + "\xff", "\xff" + x(4095), x(4095) + "\xc3", x(4096) + "\xff", "\xff" + x(4096), x(1<<20) + "\xff"}
	for i := range 3 {
		for j := range 2 {
			for what, put := range map[string]func(p *spec.Pod, s string){
				"a Command's text": func(p *spec.Pod, s string) { p.Containers[i].Command[j] = s },
				"a Value":          func(p *spec.Pod, s string) { p.Containers[i].Env[j].Value = s },
			} {
				holdSpot(t, spot[string]{what, api.OK, put}, true, may...)
				holdSpot(t, spot[string]{what + ", too long,", api.ErrLong, put}, false, long...)
				holdSpot(t, spot[string]{what + ", no UTF-8,", api.ErrText, put}, false, none...)
			}
		}
	}
}
