package node

import (
	"baton/api"
	"baton/lock"
	"baton/party"
	"baton/queue"
)

// recipe is a machine, as what its kind makes of it.
type recipe interface {
	// start tells a new one of what it is to be, if there is such a one.
	start() (api.Machine, bool)
	// ask tells the request that it wants, if it wants one.
	ask() (api.Req, bool)
	// told tells it as it goes on by the reply to that.
	told(p api.Reply) api.Machine
}

// Whose recipe it is.
type (
	byLock  api.Machine
	byParty api.Machine
	byQueue api.Machine
)

// recipeOf tells m as a recipe.
func recipeOf(m api.Machine) recipe {
	switch m.Kind {
	case api.Party:
		return byParty(m)
	case api.Enqueue, api.Dequeue:
		return byQueue(m)
	}
	return byLock(m)
}

// let tells m as it goes to let what it has, or waits for, if it can.
func let(m api.Machine) (api.Machine, bool) {
	switch recipeOf(m).(type) {
	case byQueue:
		// What is put, or taken, is nobody's to let; and who looks for it has nothing yet.
		return m, false
	case byParty:
		return party.Let(m)
	}
	return lock.Let(m)
}

func (m byLock) start() (api.Machine, bool) {
	return lock.Start(m.Kind, m.Name, m.N, m.Value)
}

func (m byLock) ask() (api.Req, bool) {
	return lock.Ask(api.Machine(m))
}

func (m byLock) told(p api.Reply) api.Machine {
	return lock.Told(api.Machine(m), p)
}

func (m byParty) start() (api.Machine, bool) {
	return party.Start(m.Name, m.N)
}

func (m byParty) ask() (api.Req, bool) {
	return party.Ask(api.Machine(m))
}

func (m byParty) told(p api.Reply) api.Machine {
	return party.Told(api.Machine(m), p)
}

func (m byQueue) start() (api.Machine, bool) {
	return queue.Start(m.Kind, m.Name, m.Value)
}

func (m byQueue) ask() (api.Req, bool) {
	return queue.Ask(api.Machine(m))
}

func (m byQueue) told(p api.Reply) api.Machine {
	return queue.Told(api.Machine(m), p)
}
