package path_test

import (
	"regexp"
	"strings"

	"tollbar/api"
)

// This is P15.1 once more, with nothing of the layers below.

// ident is what a name and a key are like.
var ident = regexp.MustCompile(`\A[a-z][a-z0-9-]{0,11}\z`)

// modelShow is what the chapter says of the text of a way.
func modelShow(way []api.Step) string {
	if len(way) == 0 {
		return "/"
	}
	text := ""
	for _, step := range way {
		key := ""
		if step.Key != "" {
			key = "[" + step.Key + "]"
		}
		if !ident.MatchString(step.Name) || key != "" && !ident.MatchString(step.Key) {
			return ""
		}
		text += "/" + step.Name + key
	}
	if len(way) > 6 {
		return ""
	}
	return text
}

// wholeText is what each text of a way is like but that of the empty one, and wholeStep each of its steps.
var (
	wholeText = regexp.MustCompile(`\A(?:/[a-z][a-z0-9-]{0,11}(?:\[[a-z][a-z0-9-]{0,11}\])?){1,6}\z`)
	wholeStep = regexp.MustCompile(`/([^/\[]*)(?:\[([^\]]*)\])?`)
)

// signs is what a text is made of: runs of the characters of names, and every other byte alone.
var signs = regexp.MustCompile(`(?s)[a-z0-9-]+|.`)

// modelParse is what the chapter says of the way of a text.
func modelParse(s string) ([]api.Step, api.Errno, int) {
	way := []api.Step{}
	switch {
	case s == "/":
		return way, api.OK, 0
	case wholeText.MatchString(s):
		for _, parts := range wholeStep.FindAllStringSubmatch(s, -1) {
			way = append(way, api.Step{Name: parts[1], Key: parts[2]})
		}
		return way, api.OK, 0
	}
	err, at := problem(s)
	return nil, err, at
}

// What may come next in a text.
const (
	slash = iota
	name
	openOrSlash
	key
	end
)

// problem is the first one of a text that has no way, sign by sign.
func problem(s string) (api.Errno, int) {
	next, steps, at := slash, 0, 0
	for _, sign := range append(signs.FindAllString(s, -1), "") {
		switch {
		case next == name || next == key:
			if !ident.MatchString(sign) {
				return api.ErrName, at
			}
			next = map[int]int{name: openOrSlash, key: end}[next]
		case next == end && sign == "]":
			next = slash
		case next == openOrSlash && sign == "[":
			next = key
		case next != end && sign == "/":
			if steps++; steps == 7 {
				return api.ErrDeep, at
			}
			next = name
		default:
			return api.ErrSyntax, at
		}
		at += len(sign)
	}
	panic("nothing is wrong with " + strings.ToValidUTF8(s, "?"))
}
