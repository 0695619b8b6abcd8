package post

import (
	"slices"
	"sync"

	"skein/api"
)

// atOnce: of so many lists at most the goroutines are under way at one time, however many lists there are.
const atOnce = 64

// Gather tells the numbers of all lists.
func Gather(lists [][]int, room int) ([]int, api.Errno) {
	if !mayBe(room) {
		return nil, api.ErrPostRoom
	}
	var numbers []int
	for some := range slices.Chunk(lists, atOnce) {
		numbers = gatherBehind(numbers, some, room)
	}
	return numbers, api.OK
}

// gatherBehind lays the numbers of some lists behind those that are there.
func gatherBehind(numbers []int, lists [][]int, room int) []int {
	var all sync.WaitGroup
	pipes := make([]chan int, len(lists))
	for i, list := range lists {
		pipes[i] = make(chan int, room)
		all.Add(1)
		go func() {
			defer all.Done()
			sendAll(list, pipes[i])
		}()
	}
	for _, pipe := range pipes {
		for n := range pipe {
			numbers = append(numbers, n)
		}
	}
	all.Wait()
	return numbers
}

func sendAll(list []int, pipe chan<- int) {
	for _, n := range list {
		pipe <- n
	}
	close(pipe)
}

// Merge tells them rising.
func Merge(lists [][]int, room int) ([]int, api.Errno) {
	numbers, err := Gather(lists, room)
	slices.Sort(numbers)
	return numbers, err
}

// Each calls f side by side.
func Each(n, side int, f func(i int) int) ([]int, api.Errno) {
	if !mayBe(side) {
		return nil, api.ErrPostRoom
	}
	answers := make([]int, max(n, 0))
	places := make(chan int) // one for all: a call that takes long keeps no place from the other goroutines
	var all sync.WaitGroup
	for range min(side, n) {
		all.Add(1)
		go func() {
			defer all.Done()
			for i := range places {
				answers[i] = f(i)
			}
		}()
	}
	for i := range answers {
		places <- i
	}
	close(places)
	all.Wait()
	return answers, api.OK
}
