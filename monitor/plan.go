// Package monitor is chapter 7: cycles, envelopes, chutes and coils. See shared/doc/07-monitor.md.
package monitor

import (
	"slices"

	"martensite/api"
)

// plan is a plan; its methods ask for the errors of what was made for it, and make records and envelopes.
type plan struct{ api.MonitorPlan }

// channelError is the error of the name of a channel.
func (p plan) channelError(channel int, name string) api.Errno {
	return firstOf(
		errorIf(!isName(name), api.ErrName),
		errorIf(slices.Contains(p.Channels[:channel], name), api.ErrExists))
}

// valuesError is the error of the values of a tick.
func (p plan) valuesError(values []int) api.Errno {
	return firstOf(
		errorIf(len(values) != len(p.Channels), api.ErrShape),
		valueError(values...))
}

// frameError is the error of a frame.
func (p plan) frameError(f api.MonitorFrame) api.Errno {
	return firstOf(
		rangeError(0, p.Ticks-1, f.Tick),
		p.valuesError(f.Values))
}

// planError is the error of a plan.
func planError(p api.MonitorPlan) api.Errno {
	_, e := CheckPlan(p)
	return e
}

// CheckPlan finds the error of a plan, and the index of the channel that has it.
func CheckPlan(p api.MonitorPlan) (int, api.Errno) {
	e := firstOf(
		errorIf(len(p.Channels) == 0, api.ErrShape),
		errorIf(len(p.Channels) > api.MaxMonitorChannels, api.ErrLarge))
	if e != api.OK {
		return 0, e
	}
	if channel, e := firstError(p.Channels, plan{p}.channelError); e != api.OK {
		return channel, e
	}
	return 0, rangeError(1, api.MaxMonitorTicks, p.Ticks)
}

// CheckFrame finds the error of a frame.
func CheckFrame(p api.MonitorPlan, f api.MonitorFrame) api.Errno {
	if e := planError(p); e != api.OK {
		return e
	}
	return plan{p}.frameError(f)
}
