package upgrade_test

import (
	"math/rand"
	"testing"

	"bosun/api"
	"bosun/ckone"
	"bosun/ckthree"
	"bosun/cktwo"
	"bosun/spec"
	"bosun/upgrade"
)

// maker makes random things; some of them may not be, if it is wild.
type maker struct {
	*rand.Rand
	wild bool
}

// one is one of some texts.
func (m maker) one(l ...string) string { return l[m.Intn(len(l))] }

// label and image are such texts.
func (m maker) label() string {
	if m.wild && m.Intn(6) == 0 {
		return m.one("", "A", "\xff", "a.b", "-")
	}
	return m.one("a", "b", "main", "default", "web-1", "0")
}

func (m maker) image() string {
	if m.wild && m.Intn(6) == 0 {
		return m.one("", "A", "\xff", "-")
	}
	return m.one("a", "b", "nginx", "docker.io/nginx:1")
}

// file is the File of the pod of a number: they rise, if the maker isn't wild.
func (m maker) file(i int) string {
	if m.wild && m.Intn(6) == 0 {
		return m.one("", "a", "b", "A", "\xff")
	}
	return string([]byte{'f', byte('a' + i)}) + m.one("", ".json", "/x.yaml")
}

// number is one up to the most that may be, or, of a wild maker, to the most there is.
func (m maker) number(least, most, all int) int {
	if m.wild && m.Intn(6) == 0 {
		return m.Intn(all + 1)
	}
	return least + m.Intn(most-least+1)
}

func (m maker) stateOne() ckone.State {
	s := ckone.State{Seq: m.Uint32()}
	for i := range m.Intn(5) {
		s.Pods = append(s.Pods, ckone.Pod{File: m.file(i), Name: m.label(), Image: m.image(), Restart: uint8(m.number(0, 2, 255))})
	}
	return s
}

func (m maker) stateTwo() cktwo.State {
	s := cktwo.State{Seq: m.Uint64()}
	for i := range m.Intn(5) {
		p := cktwo.Pod{File: m.file(i), Name: m.label(), Namespace: m.label(), Restart: uint8(m.number(0, 2, 255)), Grace: uint16(m.number(1, 3600, 65535))}
		for k := range m.number(1, 3, 3) {
			name := m.one("a", "b") + string([]byte{byte('a' + k)})
			if m.wild && m.Intn(3) == 0 {
				name = m.label()
			}
			p.Containers = append(p.Containers, cktwo.Container{Name: name, Image: m.image()})
		}
		s.Pods = append(s.Pods, p)
	}
	return s
}

// numberThree is, of the numbers around the ends of what version 2 has a place for, one.
func (m maker) numberThree(most int64) int64 {
	switch m.Intn(8) {
	case 0:
		return -1
	case 1:
		return most + 1
	case 2:
		return most
	case 3:
		return most + 1 + m.Int63n(most)
	case 4:
		return -m.Int63n(1 << 40)
	case 5:
		return m.Int63()
	}
	return m.Int63n(most + 1)
}

// stray changes a thing of a pod, most often to one that Three never makes.
func (m maker) stray(p *spec.Pod) {
	var c spec.Container
	at := &c
	if len(p.Containers) > 0 {
		at = &p.Containers[m.Intn(len(p.Containers))]
	}
	switch m.Intn(12) {
	case 0:
		p.Host = m.Intn(2) == 0
	case 1:
		p.Restart = spec.Restart(m.numberThree(255))
	case 2:
		p.Grace = m.numberThree(65535)
	case 3:
		p.Containers = append(p.Containers, spec.Container{Name: m.label(), Image: m.image(), Cpu: 100, Memory: 64})
	case 4:
		at.Cpu = m.numberThree(100)
	case 5:
		at.Memory = m.numberThree(64)
	case 6:
		at.Command = make([]string, m.Intn(2))
	case 7:
		at.Ports = make([]spec.Port, m.Intn(2))
	case 8:
		at.Env = make([]spec.Env, m.Intn(2))
	case 9:
		at.Name = m.label()
	case 10:
		p.Namespace = m.label()
	default:
		at.Image = m.image()
	}
}

// placed says whether version 2 has a place for all of a state, by the chapter's beginning.
func placed(s ckthree.State) bool {
	may := true
	for _, p := range s.Pods {
		may = may && !p.Pod.Host && p.Pod.Restart >= 0 && p.Pod.Restart <= 255 && p.Pod.Grace >= 0 && p.Pod.Grace <= 65535
		for _, c := range p.Pod.Containers {
			may = may && c.Cpu == 100 && c.Memory == 64 && len(c.Command) == 0 && len(c.Ports) == 0 && len(c.Env) == 0
		}
	}
	return may
}

// lessOf is what version 2 has a place for.
func lessOf(s ckthree.State) cktwo.State {
	to := cktwo.State{Seq: s.Seq}
	for _, p := range s.Pods {
		q := cktwo.Pod{File: p.File, Name: p.Pod.Name, Namespace: p.Pod.Namespace, Restart: uint8(p.Pod.Restart), Grace: uint16(p.Pod.Grace)}
		for _, c := range p.Pod.Containers {
			q.Containers = append(q.Containers, cktwo.Container{Name: c.Name, Image: c.Image})
		}
		to.Pods = append(to.Pods, q)
	}
	return to
}

// P20.1, P20.2, P20.3: random states of versions 1 and 2, those that may be, and others.
func TestAgainstModel(t *testing.T) {
	for n := range 10000 {
		m := maker{rand.New(rand.NewSource(int64(n))), n%2 == 0}
		one, two := m.stateOne(), m.stateTwo()
		holdOne(t, "a random state of version 1", one)
		holdTwo(t, "a random state of version 2", two)
		a, b := one.Check(), two.Check()
		if !m.wild && (a != api.OK || b != api.OK) {
			t.Fatalf("state %d: of it there is said %v and %v", n, a, b)
		}
		if a == api.OK && (upgrade.Two(one).Check() != api.OK || upgrade.Both(one).Check() != api.OK) {
			t.Fatalf("of the state %+v something is made that may not be", one)
		}
		if b == api.OK && upgrade.Three(two).Check() != api.OK {
			t.Fatalf("of the state %+v something is made that may not be", two)
		}
	}
}

// P20.3: random states that are much alike: what is made of them is alike if they are.
func TestPairsAgainstModel(t *testing.T) {
	seen := map[bool]int{}
	for n := range 30000 {
		m := maker{rand.New(rand.NewSource(int64(n))), n%2 == 0}
		one, two := m.stateOne(), m.stateTwo()
		other, another := copyOf(one), copyOf(two)
		if len(one.Pods) > 0 {
			fresh := m.stateOne().Pods
			p := &other.Pods[m.Intn(len(other.Pods))]
			if len(fresh) > 0 && m.Intn(2) == 0 {
				p.Name = fresh[0].Name
			} else {
				p.Image, p.Restart = m.image(), uint8(m.number(0, 2, 255))
			}
		}
		if len(two.Pods) > 0 {
			p := &another.Pods[m.Intn(len(another.Pods))]
			p.Namespace, p.Restart = m.label(), uint8(m.number(0, 2, 255))
			for k := range p.Containers {
				p.Containers[k].Image = m.image()
			}
		}
		alike, likewise := same(one, other, false), same(two, another, false)
		seen[alike]++
		seen[likewise]++
		if upgrade.Two(one).Same(upgrade.Two(other)) != alike || upgrade.Both(one).Same(upgrade.Both(other)) != alike {
			t.Fatalf("of %+v and %+v what is made isn't alike, or unlike, as they are", one, other)
		}
		if upgrade.Three(two).Same(upgrade.Three(another)) != likewise {
			t.Fatalf("of %+v and %+v what is made isn't alike, or unlike, as they are", two, another)
		}
	}
	if seen[true] < 1000 || seen[false] < 1000 {
		t.Errorf("alike and unlike were %v", seen)
	}
}

// P20.2: random states of version 3, some of them of states of version 2.
func TestDownAgainstModel(t *testing.T) {
	seen := map[bool]int{}
	for n := range 30000 {
		m := maker{rand.New(rand.NewSource(int64(n))), n%2 == 0}
		s := threeOf(m.stateTwo())
		for range m.Intn(3) {
			if len(s.Pods) > 0 {
				m.stray(&s.Pods[m.Intn(len(s.Pods))].Pod)
			}
		}
		ok, want := placed(s), cktwo.State{}
		if ok {
			want = lessOf(s)
		}
		seen[ok]++
		holdDown(t, "a random state of version 3", s, want, ok)
		if ok && !upgrade.Three(want).Same(s) {
			t.Fatalf("Three of what %+v was isn't that", s)
		}
	}
	if seen[true] < 1000 || seen[false] < 1000 {
		t.Errorf("there were %v", seen)
	}
}
