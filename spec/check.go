package spec

import (
	"slices"

	"bosun/api"
	"bosun/dns"
	"bosun/utf"
)

// The greatest numbers that may be; the least one is 1 for each of them.
const (
	mostGrace  = 3600
	mostNumber = 65535
	mostCpu    = 64000
	mostMemory = 1 << 20
)

// Check says what is wrong with a pod.
func (p Pod) Check() api.Errno {
	switch {
	case !dns.Name(p.Name) || !dns.Label(p.Namespace):
		return api.ErrName
	case !p.Restart.known() || !within(p.Grace, mostGrace):
		return api.ErrRange
	case len(p.Containers) == 0:
		return api.ErrNone
	case len(p.Containers) > api.MaxList:
		return api.ErrFull
	}
	met := map[string]bool{}
	for _, c := range p.Containers {
		if e := c.fault(met); e != api.OK {
			return e
		}
	}
	return api.OK
}

// fault is what is wrong with a container, behind those whose names were met; then its name is, too.
func (c Container) fault(met map[string]bool) api.Errno {
	if e := nameFault(c.Name, dns.Label(c.Name), met); e != api.OK {
		return e
	}
	switch {
	case !dns.Image(c.Image):
		return api.ErrForm
	case max(len(c.Command), len(c.Ports), len(c.Env)) > api.MaxList:
		return api.ErrFull
	case !within(c.Cpu, mostCpu) || !within(c.Memory, mostMemory):
		return api.ErrRange
	}
	if e := commandFault(c.Command); e != api.OK {
		return e
	}
	if e := portsFault(c.Ports); e != api.OK {
		return e
	}
	return envFault(c.Env)
}

// commandFault is what is wrong with a command's texts.
func commandFault(l []string) api.Errno {
	for _, s := range l {
		if e := textFault(s); e != api.OK {
			return e
		}
	}
	return api.OK
}

// portsFault is what is wrong with ports.
func portsFault(l []Port) api.Errno {
	for i, p := range l {
		if !within(p.Number, mostNumber) || !p.Proto.known() {
			return api.ErrRange
		}
		if slices.Contains(l[:i], p) {
			return api.ErrTwice
		}
	}
	return api.OK
}

// envFault is what is wrong with variables.
func envFault(l []Env) api.Errno {
	met := map[string]bool{}
	for _, v := range l {
		if e := nameFault(v.Name, dns.Variable(v.Name), met); e != api.OK {
			return e
		}
		if e := textFault(v.Value); e != api.OK {
			return e
		}
	}
	return api.OK
}

// nameFault is what is wrong with a name, of which is told whether it may be, behind those that were met; one with
// nothing wrong is met then, too.
func nameFault(s string, may bool, met map[string]bool) api.Errno {
	switch {
	case !may:
		return api.ErrName
	case met[s]:
		return api.ErrTwice
	}
	met[s] = true
	return api.OK
}

// textFault is what is wrong with a text.
func textFault(s string) api.Errno {
	switch {
	case !utf.Valid(s):
		return api.ErrText
	case len(s) > api.MaxText:
		return api.ErrLong
	}
	return api.OK
}

// within says whether a number is from 1 to the greatest one that may be.
func within(n, most int64) bool { return 1 <= n && n <= most }
