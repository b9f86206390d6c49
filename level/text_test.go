package level_test

import (
	"math"
	"slices"

	"ductus/api"
	"ductus/sample"
)

var (
	read, write = sample.Read, sample.Write
	// Characters and levels, as they are told.
	show, numbers = sample.Text, sample.Numbers
	// Of each class its characters, and the brackets.
	letters, couples = sample.Letters(), sample.Couples()
	classOf, bracket = sample.ClassOf, sample.Bracket
	all              = sample.All
	// Directions that are asked for: two that say what the base is, and those that look for it.
	given  = []int{api.DirLeft, api.DirRight}
	looked = []int{
		api.DirAuto, 3, 4, 16, 255, 256, 256 + api.DirLeft, -1, -2, 1<<16 + api.DirRight, 1<<32 + api.DirLeft, 1<<32 + api.DirRight, -1 << 32,
		math.MaxInt32, math.MinInt32, math.MaxInt, math.MinInt,
	}
	dirs = slices.Concat(looked[:1], given)
)
