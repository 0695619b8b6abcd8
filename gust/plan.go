package gust

import "skein/api"

const (
	mostRounds = 20
	mostKeys   = 16   // of a worker
	besides    = 2    // a round's events beside its writes: a Get, a Snap
	numbers    = 1000 // what keys get is below it
	dropped    = 4    // a key that would get a multiple of it is dropped
)

// Plan: a storm's plan.
type Plan api.Storm

// CanBe tells whether there is such a storm.
func (p Plan) CanBe() bool {
	return isFrom(p.Parts, 1, api.MaxParts) && isFrom(p.Workers, 1, api.MaxWorkers) &&
		isFrom(p.Rounds, 0, mostRounds) && isFrom(p.Keys, 1, mostKeys) &&
		p.Workers*p.Rounds*(p.Keys+besides) <= api.MaxEvents // behind the others: of any numbers it could go round
}

func isFrom(n, least, most int) bool { return n >= least && n <= most }

// Key: the i-th key of the worker k.
func (p Plan) Key(k, i int) int {
	return (api.MaxKey + 1) * (i*p.Workers + k) / (p.Keys * p.Workers)
}

// Number: what the i-th key of the worker k is told in the round j.
func (p Plan) Number(j, k, i int) int {
	seed := (p.Seed%numbers + numbers) % numbers // of one below 0, too, from 0 on
	return (seed + 31*j + 7*i + k) % numbers
}

// Drops tells whether a key that is told v is dropped.
func Drops(v int) bool { return v%dropped == 0 }

// next: the worker whose number is one more; behind the last one: worker 0.
func (p Plan) next(k int) int { return (k + 1) % p.Workers }

// part: the part of a key.
func (p Plan) part(key int) int { return key * p.Parts / (api.MaxKey + 1) }
