package fibshift

import (
	"slices"

	"fibshift/api"
)

// log is the prefixes that a copy has to catch up with, in the order in which they joined.
type log struct {
	list []api.Prefix
	// in has the prefixes of the list as its keys.
	in map[api.Prefix]struct{}
}

func newLog() *log { return &log{in: map[api.Prefix]struct{}{}} }

func (l *log) size() int { return len(l.list) }

// join puts a prefix at the end, if it is not in the log.
func (l *log) join(p api.Prefix) {
	if _, found := l.in[p]; found {
		return
	}
	l.in[p] = struct{}{}
	l.list = append(l.list, p)
}

// takeFirst takes the first prefix out of a log that is not empty.
func (l *log) takeFirst() api.Prefix {
	p := l.list[0]
	l.list = slices.Delete(l.list, 0, 1)
	delete(l.in, p)
	return p
}
