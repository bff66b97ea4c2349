package manifest

import (
	"hallmark/api"
	"hallmark/digest"
	"hallmark/json"
	"hallmark/name"
)

// object is one that is being built, a member at a time.
type object struct{ json.Value }

// Write is a document as bytes.
func Write(d Doc) ([]byte, api.Errno) {
	if !isDoc(d) {
		return nil, api.ErrArg
	}
	// What has been checked comes to fewer than MaxItems values: ErrArg can only mean notes whose keys aren't distinct, or that are not UTF-8.
	return json.Write(docValue(d))
}

// isDoc reports whether what is written of d is as a text requires it, but for what stands in the notes.
func isDoc(d Doc) bool {
	if !isDocMedia(d.Media) || d.Type != "" && !name.IsMedia(d.Type) {
		return false
	}
	if len(d.Edges) > api.MaxEdges || len(d.Notes) > api.MaxNotes {
		return false
	}
	for _, x := range d.Edges {
		if !isDesc(x) {
			return false
		}
	}
	return (d.Media == Index || isDesc(d.Config)) && (!d.Has || isDesc(d.Subject))
}

func isDesc(d api.Desc) bool {
	return name.IsMedia(d.Media) && isSize(d.Size) && len(d.Notes) <= api.MaxNotes
}

func docValue(d Doc) json.Value {
	o := newObject()
	o.add(version, numberValue(schemaVersion))
	o.add(media, textValue(d.Media))
	if d.Type != "" {
		o.add(artifact, textValue(d.Type))
	}
	if d.Media == Image {
		o.add(config, descValue(d.Config))
		o.add(layers, edgesValue(d.Edges))
	} else {
		o.add(manifests, edgesValue(d.Edges))
	}
	if d.Has {
		o.add(subject, descValue(d.Subject))
	}
	o.addNotes(d.Notes)
	return o.Value
}

func descValue(d api.Desc) json.Value {
	o := newObject()
	o.add(media, textValue(d.Media))
	o.add(sum, textValue(digest.Text(d.Digest)))
	o.add(size, numberValue(d.Size))
	o.addNotes(d.Notes)
	return o.Value
}

func edgesValue(l []api.Desc) json.Value {
	v := json.Value{Kind: json.List}
	for _, d := range l {
		v.Kids = append(v.Kids, descValue(d))
	}
	return v
}

func newObject() object { return object{json.Value{Kind: json.Object}} }

func (o *object) add(m member, v json.Value) { o.put(names[m], v) }

func (o *object) put(key string, v json.Value) {
	o.Names = append(o.Names, key)
	o.Kids = append(o.Kids, v)
}

// addNotes adds the annotations, where there are any.
func (o *object) addNotes(l []api.Note) {
	if len(l) == 0 {
		return
	}
	all := newObject()
	for _, n := range l {
		all.put(n.Key, textValue(n.Value))
	}
	o.add(notes, all.Value)
}

func textValue(s string) json.Value { return json.Value{Kind: json.Text, Text: s} }

func numberValue(n int) json.Value { return json.Value{Kind: json.Number, Num: n} }
