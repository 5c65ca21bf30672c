// Package carts is for tests alone: cartridges that are made cell by cell, those that just meet the limits, those that may not be, and ones of all sorts.
package carts

import "wisp/api"

// Code is cells as bytes, each its low byte first.
func Code(cells ...uint16) []byte {
	var b []byte
	for _, x := range cells {
		b = append(b, byte(x%256), byte(x/256))
	}
	return b
}

// Threads is what the code of the document's examples begins with: 64 cells, cell k holds k.
func Threads() []uint16 {
	cells := make([]uint16, 64)
	for k := range cells {
		cells[k] = uint16(k)
	}
	return cells
}

// Of is the cartridge of the document's examples: the threads, then, from 128 on, these cells.
func Of(entry uint16, cells ...uint16) api.Cart {
	return api.Cart{Code: Code(append(Threads(), cells...)...), Entry: entry}
}

// JustTaken are cartridges that just meet the limits of chapter 7, each by what it has.
func JustTaken() map[string]api.Cart {
	return map[string]api.Cart{
		"nothing":             {},
		"16384 bytes":         {Code: make([]byte, 16384)},
		"one cell":            {Code: make([]byte, 2)},
		"the last entry":      {Entry: 65535},
		"8192 effects":        {Effects: effects(8192)},
		"effects of 256":      {Effects: []api.Effect{{At: 65535, In: 256, Out: 256}}},
		"all banks":           {Banks: banks(0, 1, 2, 3, 4, 5, 6, 7, 8, 9, 10, 11, 12, 13, 14, 15)},
		"a bank of 16384":     {Banks: []api.Bank{{Num: 15, Data: make([]byte, 16384)}}},
		"an empty bank":       {Banks: []api.Bank{{Num: 0}}},
		"lists without cells": {Code: []byte{}, Effects: []api.Effect{}, Banks: []api.Bank{}},
	}
}

// Refused are those that pass one of the limits, by one where it is a number: ErrCart.
func Refused() map[string]api.Cart {
	return map[string]api.Cart{
		"one byte":          {Code: make([]byte, 1)},
		"three bytes":       {Code: make([]byte, 3)},
		"16385 bytes":       {Code: make([]byte, 16385)},
		"16386 bytes":       {Code: make([]byte, 16386)},
		"8193 effects":      {Effects: effects(8193)},
		"takes 257":         {Effects: []api.Effect{{In: 257}}},
		"leaves 257":        {Effects: []api.Effect{{Out: 257}}},
		"takes -1":          {Effects: []api.Effect{{In: -1}}},
		"leaves -1":         {Effects: []api.Effect{{Out: -1}}},
		"equal effects":     {Effects: []api.Effect{{At: 4}, {At: 4}}},
		"falling effects":   {Effects: []api.Effect{{At: 4}, {At: 2}}},
		"bank 16":           {Banks: banks(16)},
		"bank -1":           {Banks: banks(-1)},
		"equal banks":       {Banks: banks(3, 3)},
		"falling banks":     {Banks: banks(3, 2)},
		"a bank of 16385":   {Banks: []api.Bank{{Num: 15, Data: make([]byte, 16385)}}},
		"all that is wrong": {Code: make([]byte, 16387), Effects: []api.Effect{{In: -1}}, Banks: banks(99)},
	}
}

// effects is a list of so many, rising.
func effects(many int) []api.Effect {
	l := make([]api.Effect, many)
	for i := range l {
		l[i] = api.Effect{At: uint16(2 * i), In: i % 257, Out: 256 - i%257}
	}
	return l
}

func banks(numbers ...int) []api.Bank {
	var l []api.Bank
	for _, n := range numbers {
		l = append(l, api.Bank{Num: n, Data: []byte{byte(n), 1}})
	}
	return l
}
