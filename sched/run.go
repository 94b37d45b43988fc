package sched

import "slices"

// Actor is one that does steps.
type Actor interface {
	Ready() bool
	Step()
}

// Run: lets actors do their steps; how many were done.
func Run(actors []Actor, c *Chooser, most int) (done int) {
	// Actors are the caller's own: what one of them panics with must not come out of here, so it ends the run with the steps that were done.
	defer func() { _ = recover() }()
	ready := make([]bool, len(actors))
	for done < most {
		for i, a := range actors {
			ready[i] = a != nil && a.Ready()
		}
		// The chooser is let choose only as long as some actor is ready: behind the run its ages are those of the last step.
		if !slices.Contains(ready, true) {
			break
		}
		chosen, _ := c.Next(ready)
		actors[chosen].Step()
		done++
	}
	return done
}
