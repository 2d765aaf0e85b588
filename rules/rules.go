// Package rules has no code: its tests hold all layers to what the document says of every one of them.
package rules
