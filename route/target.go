package route

import "switchyard/policy"

// Target answers the upstream that a request goes to, of targets as the plain form has them.
// It draws a number only if there is more than one.
func Target(draw func() uint64, targets ...policy.Target) string {
	if len(targets) == 1 {
		return targets[0].Upstream
	}
	return share(draw()%sum(targets...), targets...)
}

// share is for a number below the sum of the weights.
func share(n uint64, targets ...policy.Target) string {
	for _, target := range targets {
		weight := uint64(target.Weight)
		if n < weight {
			return target.Upstream
		}
		n -= weight
	}
	return ""
}

func sum(targets ...policy.Target) uint64 {
	total := uint64(0)
	for _, target := range targets {
		total += uint64(target.Weight)
	}
	return total
}
