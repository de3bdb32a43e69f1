package suffix

import (
	"strings"

	"endonym/api"
)

// suffix is how many of a name's labels are its suffix.
func (r *Rules) suffix(labels []string) int {
	if len(labels) == 0 {
		return 0
	}
	rule, exception := r.longest(labels)
	if exception > 0 {
		return exception - 1
	}
	return max(rule, 1)
}

// longest is how many labels the longest rule that holds has, and the longest exception; 0, if none does. The name's last
// labels, one more each time, are looked up as the texts of rules, up to where no text that is kept is so long.
func (r *Rules) longest(labels []string) (rule, exception int) {
	behind := "" // what stands behind a label, the full stop too
	for i := len(labels) - 1; i >= 0 && len(wild+behind) <= api.MaxLine; i-- {
		tail := small(labels[i]) + behind
		rule = max(rule, r.labels[wild+behind])
		exception = max(exception, r.labels[except+tail])
		// A name's own `!` is a byte of its label, and marks no exception.
		if !strings.HasPrefix(tail, except) {
			rule = max(rule, r.labels[tail])
		}
		behind = stop + tail
	}
	return rule, exception
}

// small is a text whose A to Z are a to z, and whose other bytes stay, whatever they are.
func small(s string) string {
	b := []byte(s)
	for i, c := range b {
		if c >= 'A' && c <= 'Z' {
			b[i] = c + ('a' - 'A')
		}
	}
	return string(b)
}
