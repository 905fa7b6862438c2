package chart

import (
	"strings"

	"mizzen/api"
	"mizzen/eval"
	"mizzen/parse"
	"mizzen/scalar"
	"mizzen/tree"
	"mizzen/yaml"
)

// page is a template that isn't partial, read once for all runs.
type page struct {
	name  string
	nodes []parse.Node
}

// add takes in what a file tells, if it is one of those that a chart looks at.
func (c *Chart) add(f api.File) api.Errno {
	switch {
	case f.Name == aboutFile:
		return c.addAbout(f.Text)
	case f.Name == valuesFile:
		return c.addValues(f.Text)
	case strings.HasPrefix(f.Name, folder):
		return c.addTemplate(f)
	}
	return api.OK
}

// addAbout takes in the chart's name and version.
func (c *Chart) addAbout(text string) api.Errno {
	v, e := yaml.Parse(text)
	if e != api.OK {
		return e
	}
	// What isn't there, or no text, is empty here, and neither may be empty.
	name, _ := tree.Get(v, "name")
	version, _ := tree.Get(v, "version")
	if !scalar.Bare(name.Str) || version.Str == "" || len(name.Str)+len(version.Str) > api.MaxKey {
		return api.ErrChart
	}
	c.Name, c.Version = name.Str, version.Str
	return api.OK
}

// addValues takes in the chart's own values.
func (c *Chart) addValues(text string) api.Errno {
	v, e := yaml.Parse(text)
	switch {
	case e != api.OK:
		return e
	case v.Kind == api.Map:
		c.Values = v
	case v.Kind != api.Null:
		return api.ErrKind
	}
	return api.OK
}

// addTemplate takes in a template, and what it defines.
func (c *Chart) addTemplate(f api.File) api.Errno {
	nodes, e := parse.Parse(f.Text)
	if e != api.OK {
		return e
	}
	if e := c.define(nodes); e != api.OK {
		return e
	}
	c.Templates = append(c.Templates, f)
	if !Partial(f.Name) {
		c.pages = append(c.pages, page{f.Name, nodes})
	}
	return api.OK
}

// define takes in what a template's nodes define.
func (c *Chart) define(l []parse.Node) api.Errno {
	// Collect copies all that it is handed, so it isn't handed what the templates ahead define.
	own, e := eval.Collect(nil, l)
	if e != api.OK {
		return e
	}
	for name, body := range own {
		if _, ok := c.defs[name]; ok {
			return api.ErrTwice
		}
		c.defs[name] = body
	}
	return api.OK
}
