package tree

import "azimuth/api"

// Builder is what was built.
type Builder struct {
	built api.Tree
}

// New: nothing.
func New() *Builder { return &Builder{} }

// Term: one more.
func (b *Builder) Term(n api.Node) (int, api.Errno) {
	if b == nil {
		return 0, api.ErrArg
	}
	number := len(b.built.Nodes)
	if number == api.MaxNodes {
		return 0, api.ErrLong
	}
	b.built.Nodes = append(b.built.Nodes, cloneTerm(n))
	return number, api.OK
}

// Type: one more.
func (b *Builder) Type(n api.TypeNode) (int, api.Errno) {
	if b == nil {
		return 0, api.ErrArg
	}
	number := len(b.built.Types)
	if number == api.MaxNodes {
		return 0, api.ErrLong
	}
	b.built.Types = append(b.built.Types, cloneType(n))
	return number, api.OK
}

// Alias: one more.
func (b *Builder) Alias(a api.Alias) {
	if b != nil {
		b.built.Aliases = append(b.built.Aliases, a)
	}
}

// Tree: what was built.
func (b *Builder) Tree() api.Tree {
	if b == nil {
		return api.Tree{}
	}
	return Clone(b.built)
}
