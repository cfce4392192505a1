package watch

import (
	"strconv"

	"cochineal/api"
)

// words are those of rules, by their numbers.
var words = [...]string{api.RuleAddr: "addr", api.RuleBranch: "branch", api.RuleIRQ: "irq", api.RuleSink: "sink"}

const digits = "0123456789abcdef"

// Text is an alarm's line, without its end.
func Text(a Alarm) (string, api.Errno) {
	if !isAlarm(a) {
		return "", api.ErrRange
	}
	text := []byte(words[a.Rule] + " " + strconv.Itoa(a.Cycle))
	tell := func(n, places int) {
		text = append(text, " $"...)
		for places > 0 {
			places--
			text = append(text, digits[n>>(4*places)&15])
		}
	}
	tell(a.At, 4)
	tell(int(a.Bits), 2)
	return string(text), api.OK
}

// isAlarm tells whether there may be such an alarm; of its bits all may be.
func isAlarm(a Alarm) bool {
	return a.Rule >= api.RuleAddr && a.Rule <= api.RuleSink && a.Cycle >= 0 && a.At >= 0 && a.At < api.Size
}
