import PyProof.Rows.All
import Wide.All
import OpenK.AllK
import Wide.FinOn
import Lean
import PyProof.EqAt
import PyProof.EqKinds
import PyProof.NeData
import PyProof.TupleCall
import PyProof.MinMaxWalk
import PyProof.ExcClass2
import PyProof.InstStoreFacts
import PyProof.Rows.FStr
import OpenK.KWalk
import OpenK.KCls
import PyProof.ExcAttrAll.ValueError
import PySem.Challenge.RW_aheadword_k12_refusals_apart
set_option Elab.async false
set_option linter.all false
set_option maxRecDepth 100000
/-! THE HAND LAYER, for ints, bools, texts, own classes, LISTS and tuples (index, slices, in, append, pop ..), calls, loops. Paste it whole ahead of your own text; what your proof does not reach may be deleted. -/
namespace L2
open PySem PySem.Spec PyProof.Rows

/-- a key: an int or a str -/
abbrev Key := Sum Int Str
def keyIs : Key → Value → Bool
  | .inl k, v => Value.isInt k v
  | .inr x, v => Value.isStrOf x v
def keyH (w : World) : Key → Int
  | .inl k => hashInt k
  | .inr x => hashStr w x
theorem keyIs_shape : ∀ {k : Key} {v : Value}, keyIs k v = true → (∃ i t, k = Sum.inl i ∧ v = Value.int i t) ∨ (∃ x t, k = Sum.inr x ∧ v = Value.str x t)
  | .inl i, v, h => by
    obtain ⟨t, e⟩ := Value.isInt_shape (k := i) (v := v) h
    exact .inl ⟨i, t, rfl, e⟩
  | .inr x, v, h => by
    obtain ⟨t, e⟩ := Value.isStrOf_shape (x := x) (v := v) h
    exact .inr ⟨x, t, rfl, e⟩
theorem key_ll (a b : Int) : decide ((Sum.inl a : Key) = Sum.inl b) = (a == b) := by
  by_cases e : a = b
  · subst e; simp
  · have h : ¬ (Sum.inl a : Key) = Sum.inl b := fun q => e (Sum.inl.inj q)
    rw [decide_eq_false h]
    exact (beq_eq_false_iff_ne.mpr e).symm
theorem key_rr (a b : Str) : decide ((Sum.inr a : Key) = Sum.inr b) = decide (a = b) := by
  by_cases e : a = b
  · subst e; simp
  · have h : ¬ (Sum.inr a : Key) = Sum.inr b := fun q => e (Sum.inr.inj q)
    rw [decide_eq_false h, decide_eq_false e]
theorem key_lr (a : Int) (b : Str) : decide ((Sum.inl a : Key) = Sum.inr b) = false := decide_eq_false (fun q => nomatch q)
theorem key_rl (a : Str) (b : Int) : decide ((Sum.inr a : Key) = Sum.inl b) = false := decide_eq_false (fun q => nomatch q)

def mixKind (prog : Program) (w : World) : PySem.KeyKind prog w Key where
  is := keyIs
  hash := keyH w
  inj := fun v a b ha hb => by
    rcases keyIs_shape ha with ⟨i, t, rfl, rfl⟩ | ⟨x, t, rfl, rfl⟩
    · rcases keyIs_shape hb with ⟨j, u, rfl, e⟩ | ⟨y, u, rfl, e⟩
      · injection e with e1 _; rw [e1]
      · exact nomatch e
    · rcases keyIs_shape hb with ⟨j, u, rfl, e⟩ | ⟨y, u, rfl, e⟩
      · exact nomatch e
      · injection e with e1 _; rw [e1]
  byValue := fun k v h => by
    rcases keyIs_shape h with ⟨i, t, rfl, rfl⟩ | ⟨x, t, rfl, rfl⟩ <;> rfl
  pyHash := fun hv h => by
    rcases keyIs_shape hv with ⟨i, t, rfl, rfl⟩ | ⟨x, t, rfl, rfl⟩
    · exact wpAny_pyHash_int h
    · exact wpAny_pyHash_str h
  eqBool := fun hu hv h => by
    rcases keyIs_shape hu with ⟨i, t, rfl, rfl⟩ | ⟨x, t, rfl, rfl⟩
    · rcases keyIs_shape hv with ⟨j, u, rfl, rfl⟩ | ⟨y, u, rfl, rfl⟩
      · rw [key_ll] at h; exact wpAny_eqBool_int h
      · rw [key_lr] at h; exact SeqAt.EqAt.int_str i t y u _ _ _ _ h
    · rcases keyIs_shape hv with ⟨j, u, rfl, rfl⟩ | ⟨y, u, rfl, rfl⟩
      · rw [key_rl] at h; exact SeqAt.EqAt.str_int x t j u _ _ _ _ h
      · rw [key_rr] at h; exact wpAny_eqBool_str h
  «strs» := fun k x t v h => by
    rcases keyIs_shape h with ⟨i, u, rfl, e⟩ | ⟨y, u, rfl, e⟩
    · exact nomatch e
    · injection e with e1 _
      subst e1
      cases v <;> rfl

end L2

namespace L2
open PySem PySem.Spec PyProof.Rows

/-- a value, without the heap -/
inductive V where
  | non | bl (b : Bool) | int (i : Int) | str (x : Str) | byt (b : Array UInt8) | flt (b : UInt64) | ref (a : Addr) | ty (n : String)
  deriving DecidableEq

def RelV : V → Value → Prop
  | .non, u => u = Value.none
  | .bl b, u => u = Value.bool b
  | .int i, u => ∃ t, u = Value.int i t
  | .str x, u => ∃ t, u = Value.str x t
  | .byt b, u => ∃ t, u = Value.bytes b t
  | .flt b, u => ∃ t, u = Value.float b t
  | .ref a, u => u = Value.ref a
  | .ty n, u => u = Value.type n

abbrev Vals : List V → List Value → Prop := Paired RelV
theorem Vals.length {xs : List V} {us : List Value} (r : Vals xs us) : xs.length = us.length := Paired.length r
theorem Vals.get : ∀ {xs : List V} {us : List Value} {i : Nat} {x : V}, Vals xs us → xs[i]? = some x → ∃ u, us[i]? = some u ∧ RelV x u
  | _, _, _, _, .nil, e => by simp at e
  | _, _, 0, _, .cons r _, e => by simp at e; subst e; exact ⟨_, rfl, r⟩
  | _, _, i + 1, x, .cons _ t, e => by
    obtain ⟨u, h1, h2⟩ := Vals.get (i := i) (x := x) t (by simpa using e)
    exact ⟨u, by simpa using h1, h2⟩
theorem Vals.set {x : V} {u : Value} (r : RelV x u) : ∀ {xs : List V} {us : List Value} (i : Nat), Vals xs us → Vals (xs.set i x) (us.set i u)
  | _, _, _, .nil => .nil
  | _, _, 0, .cons _ t => .cons r t
  | _, _, i + 1, .cons q t => .cons q (Vals.set r i t)
theorem Vals.append : ∀ {xs ys : List V} {us ws : List Value}, Vals xs us → Vals ys ws → Vals (xs ++ ys) (us ++ ws)
  | _, _, _, _, .nil, s => s
  | _, _, _, _, .cons r t, s => .cons r (Vals.append t s)
theorem Vals.take : ∀ {xs : List V} {us : List Value} (n : Nat), Vals xs us → Vals (xs.take n) (us.take n)
  | _, _, 0, _ => .nil
  | _, _, _ + 1, .nil => .nil
  | _, _, n + 1, .cons r t => .cons r (Vals.take n t)
theorem Vals.drop : ∀ {xs : List V} {us : List Value} (n : Nat), Vals xs us → Vals (xs.drop n) (us.drop n)
  | _, _, 0, r => r
  | _, _, _ + 1, .nil => .nil
  | _, _, n + 1, .cons _ t => Vals.drop n t
def RelO : Option V → Option Value → Prop
  | some v, some u => RelV v u
  | none, none => True
  | _, _ => False
def KV {κ : Type} : List (κ × V) → List (κ × Value) → Prop := Paired fun (p : κ × V) (q : κ × Value) => p.1 = q.1 ∧ RelV p.2 q.2

/-- a key of a dict (00_mix): an int or a text -/
def kV : Key → V
  | .inl i => .int i
  | .inr x => .str x

/-- what stands at a tracked address -/
inductive HO where
  /-- a list -/
  | lst (xs : List V)
  /-- a tuple (never changes) -/
  | tup (xs : List V)
  /-- a dict whose keys are ints and texts; one whose keys are tuples of ints and texts (the empty one is both) -/
  | dK (kvs : List (Key × V)) | dT (kvs : List (List Key × V))
  /-- a set of ints: its members, its size -/
  | set (S : Int → Bool) (n : Nat)
  /-- an instance of the class at C, its dict at dx, its attributes -/
  | ins (C dx : Addr) (fs : List (Str × V))
  /-- the dict of the instance at x -/
  | own (x : Addr)
  /-- the dict of an exception -/
  | xd (fs : List (Str × V))
  /-- a bound method, f of x -/
  | met (f x : Addr)
  /-- a range object lo, lo + 1, .. below hi -/
  | rng (lo hi : Int)
  /-- a thing that is known to the object (the script; a dict while a loop walks it): read, never written while it is so -/
  | frz (o : Obj) (u : HO)
  /-- a code object's table -/
  | tbl (ps : Array Value)
  /-- any other thing, by what is true of its one object (a def of one's own: SetO a S n := HO.ext fun h => ..) -/
  | ext (φ : Heap → Prop)

abbrev Hp := Addr → Option HO
def upd (H : Hp) (a : Addr) (o : HO) : Hp := fun b => if b = a then some o else H b
theorem upd_same {H : Hp} {a : Addr} {o : HO} : upd H a o a = some o := by unfold upd; rw [if_pos rfl]
theorem upd_ne {H : Hp} {a b : Addr} {o : HO} (h : b ≠ a) : upd H a o b = H b := by unfold upd; rw [if_neg h]
/-- two objects of different content stand apart -/
theorem ne_of {H : Hp} {a b : Addr} {o u : HO} (h : H a = some o) (h' : H b = some u) (d : o ≠ u) : a ≠ b := by
  intro e; subst e; rw [h] at h'; exact d (Option.some.inj h')
theorem ne_of_none {H : Hp} {a b : Addr} {o : HO} (h : H a = some o) (h' : H b = none) : a ≠ b := by
  intro e; subst e; rw [h] at h'; cases h'

section
variable (P : Program) (w : World)
def ObjOk (H : Hp) (h : Heap) (a : Addr) : HO → Prop
  | .lst xs => xs.length ≤ sizeLine ∧ ∃ (its : List Value) (n : Nat), Vals xs its ∧ h.get? a = some { cls := .type "list", data := .seq its.toArray n }
  | .tup xs => xs.length ≤ sizeLine ∧ ∃ its : List Value, Vals xs its ∧ IsTup h a its.toArray
  | .dK kvs => kvs.length ≤ sizeLine ∧ (a == sysModules) = false ∧ ∃ vs, KV kvs vs ∧ h.DictOf (mixKind P w) a vs
  | .dT kvs => kvs.length ≤ sizeLine ∧ (a == sysModules) = false ∧ ∃ xs : List (List Key × Addr × Value),
      Paired (fun (p : List Key × V) (q : List Key × Addr × Value) => p.1 = q.1 ∧ H q.2.1 = some (.tup (p.1.map kV)) ∧ RelV p.2 q.2.2) kvs xs ∧
      ∃ o es ep, h.get? a = some o ∧ o.ExactDict ∧ o.data = .dict es ep ∧ es.toList = xs.map (entryOfKey (tupleKind (mixKind P w))) ∧ (xs.map (·.1)).Nodup
  | .set S n => h.SetOf (intKind P w) a S n
  | .ins C dx fs => H dx = some (.own a) ∧ fs.length ≤ 1000 ∧ dx ≠ a ∧ h.get? a = some (PySem.W.instObj C dx) ∧
      ∃ mA, h.Ns1 dx mA ∧ (∀ f, RelO (fs.lookup f) (mA f)) ∧ PySem.Within mA (fs.map (·.1))
  | .own _ => ∃ o, h.get? a = some o
  | .xd fs => ∃ mA, h.Ns1 a mA ∧ ∀ f, RelO (fs.lookup f) (mA f)
  | .rng lo hi => ∃ t u v, h.get? a = some { cls := .type "range", data := .fields #[.int lo t, .int hi u, .int 1 v] }
  | .frz o u => h.get? a = some o ∧ ObjOk H h a u
  | .tbl ps => h.get? a = some { cls := .none, data := .fields ps }
  | .met f x => h.get? a = some (PySem.W.methodObj (.ref f) (.ref x))
  | .ext φ => φ h ∧ (∃ o, h.get? a = some o) ∧ ∀ h1 h2 : Heap, φ h1 → (∀ o, h1.get? a = some o → h2.get? a = some o) → φ h2
/-- the abstract heap is held -/
def HOk (H : Hp) (h : Heap) : Prop := ∀ a o, H a = some o → ObjOk P w H h a o
end

section
variable {P : Program} {w : World} {H H' : Hp} {h h' : Heap} {a : Addr} {o : HO}
theorem ObjOk.lt (x : ObjOk P w H h a o) : a < h.objs.size := by
  cases o with
  | lst xs => obtain ⟨_, _, _, _, e⟩ := x; exact Heap.lt_size e
  | tup xs => obtain ⟨_, _, _, p⟩ := x; exact p.lt
  | dK kvs => obtain ⟨_, _, _, _, o, _, _, e, _⟩ := x; exact Heap.lt_size e
  | dT kvs => obtain ⟨_, _, _, _, o, _, _, e, _⟩ := x; exact Heap.lt_size e
  | set S n => obtain ⟨o, _, _, _, e, _⟩ := x; exact Heap.lt_size e
  | ins C dx fs => obtain ⟨_, _, _, e, _⟩ := x; exact Heap.lt_size e
  | own y => obtain ⟨_, e⟩ := x; exact Heap.lt_size e
  | xd fs => obtain ⟨_, ⟨_, _, _, e, _⟩, _⟩ := x; exact Heap.lt_size e
  | rng lo hi => obtain ⟨_, _, _, e⟩ := x; exact Heap.lt_size e
  | frz ob u => obtain ⟨e, _⟩ := x; exact Heap.lt_size e
  | tbl ps => exact Heap.lt_size (show h.get? a = some _ from x)
  | met f y => exact Heap.lt_size (show h.get? a = some _ from x)
  | ext φ => obtain ⟨_, ⟨_, e⟩, _⟩ := x; exact Heap.lt_size e
theorem Paired.mapP {α β : Type} {F G : α → β → Prop} : ∀ {l₁ : List α} {l₂ : List β}, Paired F l₁ l₂ → (∀ a b, F a b → G a b) → Paired G l₁ l₂
  | _, _, .nil, _ => .nil
  | _, _, .cons r t, f => .cons (f _ _ r) (Paired.mapP t f)
/-- what an object's description leans on: its own object, its own dict, the tuples -/
theorem ObjOk.stay (x : ObjOk P w H h a o) (k : ∀ b u, (b = a ∨ H b = some (.own a)) → h.get? b = some u → h'.get? b = some u)
    (ho : ∀ b, H b = some (.own a) → H' b = some (.own a)) (ht : ∀ b xs, H b = some (.tup xs) → H' b = some (.tup xs)) : ObjOk P w H' h' a o := by
  induction o with
  | lst xs => obtain ⟨z, its, n, r, e⟩ := x; exact ⟨z, its, n, r, k _ _ (.inl rfl) e⟩
  | tup xs => obtain ⟨z, its, r, ob, e, c⟩ := x; exact ⟨z, its, r, ob, k _ _ (.inl rfl) e, c⟩
  | dK kvs => obtain ⟨z, y, vs, r, ob, es, ep, e, c⟩ := x; exact ⟨z, y, vs, r, ob, es, ep, k _ _ (.inl rfl) e, c⟩
  | dT kvs =>
    obtain ⟨z, y, xs, r, ob, es, ep, e, c⟩ := x
    exact ⟨z, y, xs, Paired.mapP r fun p q z => ⟨z.1, ht _ _ z.2.1, z.2.2⟩, ob, es, ep, k _ _ (.inl rfl) e, c⟩
  | set S n => obtain ⟨ob, es, ep, t, e, c⟩ := x; exact ⟨ob, es, ep, t, k _ _ (.inl rfl) e, c⟩
  | ins C dx fs =>
    obtain ⟨d, z, ne, e, mA, ⟨od, es, ep, e2, c⟩, r⟩ := x
    exact ⟨ho _ d, z, ne, k _ _ (.inl rfl) e, mA, ⟨od, es, ep, k _ _ (.inr d) e2, c⟩, r⟩
  | own y => obtain ⟨ob, e⟩ := x; exact ⟨ob, k _ _ (.inl rfl) e⟩
  | xd fs => obtain ⟨mA, ⟨od, es, ep, e, c⟩, r⟩ := x; exact ⟨mA, ⟨od, es, ep, k _ _ (.inl rfl) e, c⟩, r⟩
  | rng lo hi => obtain ⟨t, u, v, e⟩ := x; exact ⟨t, u, v, k _ _ (.inl rfl) e⟩
  | frz ob u ih => obtain ⟨e, q⟩ := x; exact ⟨k _ _ (.inl rfl) e, ih q⟩
  | tbl ps =>
    have e : h.get? a = some { cls := .none, data := .fields ps } := x
    show h'.get? a = some { cls := .none, data := .fields ps }
    exact k a _ (.inl rfl) e
  | met f y =>
    have e : h.get? a = some (PySem.W.methodObj (.ref f) (.ref y)) := x
    show h'.get? a = some (PySem.W.methodObj (.ref f) (.ref y))
    exact k a _ (.inl rfl) e
  | ext φ => obtain ⟨p, ⟨o, e⟩, st⟩ := x; exact ⟨st _ _ p fun o q => k _ _ (.inl rfl) q, ⟨o, k _ _ (.inl rfl) e⟩, st⟩
theorem HOk.lt (x : HOk P w H h) (e : H a = some o) : a < h.objs.size := (x a o e).lt
theorem HOk.fresh (x : HOk P w H h) (e : h.objs.size ≤ a) : H a = none := by
  cases q : H a with
  | none => rfl
  | some u => exact absurd (Nat.lt_of_lt_of_le (x.lt q) e) (Nat.lt_irrefl _)
/-- every object of the heap is kept -/
theorem HOk.kept (x : HOk P w H h) (k : ∀ b u, h.get? b = some u → h'.get? b = some u) : HOk P w H h' := fun a o e =>
  (x a o e).stay (fun b u _ q => k b u q) (fun _ q => q) fun _ _ q => q
/-- a new object is laid and tracked -/
theorem HOk.laid (x : HOk P w H h) (k : ∀ b u, h.get? b = some u → h'.get? b = some u) (hp : h.objs.size ≤ a) (new : ObjOk P w (upd H a o) h' a o) : HOk P w (upd H a o) h' := fun b u e => by
  have hn := x.fresh hp
  by_cases hb : b = a
  · subst hb; rw [upd_same] at e; cases e; exact new
  · rw [upd_ne hb] at e
    exact (x b u e).stay (fun c v _ q => k c v q) (fun c q => by rw [upd_ne (ne_of_none q hn)]; exact q) fun c xs q => by rw [upd_ne (ne_of_none q hn)]; exact q
end

/-- what may be read as u: it is u, or a known u -/
def Rd (H : Hp) (a : Addr) (u : HO) : Prop := H a = some u ∨ ∃ o, H a = some (.frz o u)
theorem Rd.of {H : Hp} {a : Addr} {u : HO} (h : H a = some u) : Rd H a u := .inl h
theorem Rd.ok {P : Program} {w : World} {H : Hp} {h : Heap} {a : Addr} {u : HO} (r : Rd H a u) (x : HOk P w H h) : ObjOk P w H h a u := by
  rcases r with r | ⟨o, r⟩
  · exact x a u r
  · obtain ⟨_, q⟩ := x a _ r
    exact q
/-- what may be written -/
def Mut : Option HO → Prop
  | some (.lst _) => True
  | some (.dK _) => True
  | some (.dT _) => True
  | some (.set _ _) => True
  | some (.ins _ _ _) => True
  | some (.ext _) => True
  | _ => False
section
variable {P : Program} {w : World} {H : Hp} {h h' : Heap} {x e : Addr} {o' : HO}
/-- the object at e is changed: x itself, or the dict of the instance x -/
theorem HOk.write (ok : HOk P w H h) (mu : Mut (H x)) (he : e = x ∨ H e = some (.own x)) (k : ∀ b u, b ≠ e → h.get? b = some u → h'.get? b = some u) (heo : ∃ u, h'.get? e = some u)
    (new : ObjOk P w (upd H x o') h' x o') : HOk P w (upd H x o') h' := fun b u q => by
  have nown : ∀ c y, H c = some (.own y) → c ≠ x := fun c y r z => by subst z; rw [r] at mu; exact mu
  have ntup : ∀ c xs, H c = some (.tup xs) → c ≠ x := fun c xs r z => by subst z; rw [r] at mu; exact mu
  by_cases hb : b = x
  · subst hb; rw [upd_same] at q; cases q; exact new
  · rw [upd_ne hb] at q
    by_cases hbe : b = e
    · have q' : H b = some (.own x) := by
        rcases he with z | z
        · exact absurd (hbe.trans z) hb
        · rw [hbe]; exact z
      rw [q] at q'; cases q'
      obtain ⟨v, hv⟩ := heo
      exact ⟨v, by rw [hbe]; exact hv⟩
    · refine (ok b u q).stay (fun c v hc r => k c v ?_ r) (fun c r => by rw [upd_ne (nown c b r)]; exact r) fun c xs r => by rw [upd_ne (ntup c xs r)]; exact r
      rcases hc with rfl | hc
      · exact hbe
      · rintro rfl
        rcases he with z | z
        · exact nown c b hc z
        · rw [hc] at z; cases z; exact hb rfl
end

/-! ### kept unless tracked; of the frames at fs (the callers') the slots may change (an exception that passes writes there); of the records at ex (iterators) nothing is said -/
structure Un (fs ex : List Addr) (H H' : Hp) (h h' : Heap) : Prop where
  keep : ∀ b o, h.get? b = some o → H b = none → b ∉ fs → b ∉ ex → h'.get? b = some o
  slot : ∀ b o, h.get? b = some o → H b = none → b ∈ fs → b ∉ ex → ∃ sl, h'.get? b = some { o with slots := sl }
  free : ∀ b o, h.get? b = some o → H b = none → b ∉ ex → H' b = none
  there : ∀ b o, h.get? b = some o → b ∉ ex → ∃ o', h'.get? b = some o'
  tups : ∀ b xs, H b = some (.tup xs) → H' b = some (.tup xs)
  frzs : ∀ b o u, H b = some (.frz o u) → H' b = some (.frz o u)
  tbls : ∀ b ps, H b = some (.tbl ps) → ∃ more, H' b = some (.tbl (ps ++ more))
section
variable {fs fs' ex ex' : List Addr} {H H1 H2 : Hp} {h h1 h2 h' : Heap} {a x e : Addr} {o : HO}
theorem Un.any (u : Un fs ex H H1 h h1) {b : Addr} {ob : Obj} (q : h.get? b = some ob) (n : H b = none) (hx : b ∉ ex) : ∃ sl, h1.get? b = some { ob with slots := sl } := by
  by_cases hb : b ∈ fs
  · exact u.slot b ob q n hb hx
  · exact ⟨ob.slots, u.keep b ob q n hb hx⟩
theorem Un.trans (a : Un fs ex H H1 h h1) (b : Un fs ex H1 H2 h1 h2) : Un fs ex H H2 h h2 where
  keep := fun c ob q n hc hx => b.keep c ob (a.keep c ob q n hc hx) (a.free c ob q n hx) hc hx
  slot := fun c ob q n hc hx => by
    obtain ⟨sl, e1⟩ := a.slot c ob q n hc hx
    obtain ⟨sl', e2⟩ := b.slot c _ e1 (a.free c ob q n hx) hc hx
    exact ⟨sl', e2⟩
  free := fun c ob q n hx => by
    obtain ⟨o', e1⟩ := a.there c ob q hx
    exact b.free c o' e1 (a.free c ob q n hx) hx
  there := fun c ob q hx => by
    obtain ⟨o', e1⟩ := a.there c ob q hx
    exact b.there c o' e1 hx
  tups := fun c xs q => b.tups c xs (a.tups c xs q)
  frzs := fun c ob xs q => b.frzs c ob xs (a.frzs c ob xs q)
  tbls := fun c ps q => by
    obtain ⟨m1, e1⟩ := a.tbls c ps q
    obtain ⟨m2, e2⟩ := b.tbls c _ e1
    exact ⟨m1 ++ m2, by rw [e2, Array.append_assoc]⟩
theorem Un.kept (k : ∀ b u, h.get? b = some u → h'.get? b = some u) : Un fs ex H H h h' :=
  ⟨fun b ob q _ _ _ => k b ob q, fun b ob q _ _ _ => ⟨ob.slots, k b ob q⟩, fun _ _ _ n _ => n, fun b ob q _ => ⟨ob, k b ob q⟩, fun _ _ q => q, fun _ _ _ q => q, fun _ ps q => ⟨#[], by rw [q]; simp⟩⟩
theorem Un.refl : Un fs ex H H h h := Un.kept fun _ _ q => q
theorem Un.laid (k : ∀ b u, h.get? b = some u → h'.get? b = some u) (hp : h.objs.size ≤ a) (hn : H a = none) : Un fs ex H (upd H a o) h h' where
  keep := fun b u q _ _ _ => k b u q
  slot := fun b u q _ _ _ => ⟨u.slots, k b u q⟩
  free := fun b u q n _ => by rw [upd_ne (Nat.ne_of_lt (Nat.lt_of_lt_of_le (Heap.lt_size q) hp))]; exact n
  there := fun b u q _ => ⟨u, k b u q⟩
  tups := fun b xs q => by rw [upd_ne (ne_of_none q hn)]; exact q
  frzs := fun b u xs q => by rw [upd_ne (ne_of_none q hn)]; exact q
  tbls := fun b ps q => ⟨#[], by rw [upd_ne (ne_of_none q hn), q]; simp⟩
theorem Un.write (mu : Mut (H x)) (he : e = x ∨ H e = some (.own x)) (k : ∀ b u, b ≠ e → h.get? b = some u → h'.get? b = some u) (heo : ∃ u, h'.get? e = some u) : Un fs ex H (upd H x o) h h' := by
  have hx : ∀ b, H b = none → b ≠ x := fun b n z => by subst z; rw [n] at mu; exact mu
  have hb : ∀ b, H b = none → b ≠ e := fun b n z => by
    subst z
    rcases he with r | r
    · exact hx b n r
    · rw [n] at r; cases r
  have hm : ∀ b u, H b = some u → ¬ Mut (some u) → b ≠ x := fun b u q nm z => by subst z; rw [q] at mu; exact nm mu
  refine ⟨fun b u q n _ _ => k b u (hb b n) q, fun b u q n _ _ => ⟨u.slots, k b u (hb b n) q⟩, fun b u q n _ => by rw [upd_ne (hx b n)]; exact n, fun b u q _ => ?_,
    fun b xs q => by rw [upd_ne (hm b _ q fun z => z)]; exact q, fun b u xs q => by rw [upd_ne (hm b _ q fun z => z)]; exact q, fun b ps q => ⟨#[], by rw [upd_ne (hm b _ q fun z => z), q]; simp⟩⟩
  by_cases hbe : b = e
  · subst hbe; exact heo
  · exact ⟨u, k b u hbe q⟩
theorem Un.mono (u : Un fs ex H H1 h h1) (hs : ∀ b ∈ fs, b ∈ fs') (hx : ∀ b ∈ ex, b ∈ ex') : Un fs' ex' H H1 h h1 :=
  ⟨fun b ob q n hb he => u.keep b ob q n (fun z => hb (hs b z)) fun z => he (hx b z), fun _ _ q n _ he => u.any q n fun z => he (hx _ z), fun b ob q n he => u.free b ob q n fun z => he (hx b z), fun b ob q he => u.there b ob q fun z => he (hx b z), u.tups, u.frzs, u.tbls⟩
end

/-! ### the heap without what is tracked -/
def trk (h : Heap) (H : Hp) : List Addr := (List.range h.objs.size).filter fun a => (H a).isSome
def hidT (h : Heap) (H : Hp) : Heap := PySem.W.hideAll h (trk h H)
theorem hidT_size (h : Heap) (H : Hp) : (hidT h H).objs.size = h.objs.size := PySem.W.hideAll_size _ _
theorem hidT_get {h : Heap} {H : Hp} {b : Addr} {o : Obj} (e : h.get? b = some o) (n : H b = none) : (hidT h H).get? b = some o :=
  PySem.W.hideAll_get _ e fun hm => by
    have q : (H b).isSome = true := (List.mem_filter.mp hm).2
    rw [n] at q; simp at q
theorem of_hidT {h : Heap} {H : Hp} {b : Addr} {o : Obj} (e : (hidT h H).get? b = some o) : h.get? b = some o ∧ H b = none := by
  have e' : h.get? b = some o := PySem.W.of_hideAll (trk h H) e
  refine ⟨e', ?_⟩
  cases q : H b with
  | none => rfl
  | some x =>
    have hm : b ∈ trk h H := List.mem_filter.mpr ⟨List.mem_range.mpr (Heap.lt_size e'), by simp [q]⟩
    have z : (hidT h H).get? b = none := PySem.W.hideAll_none (trk h H) hm
    rw [z] at e; cases e

/-! ### OpenK's ledger, filled with every new object but one -/
def allNews (g h : Heap) (L : Addr) : List (Addr × Obj) := (List.range h.objs.size).filterMap fun a => if a = L ∨ (g.get? a).isSome = true then none else (h.get? a).map fun o => (a, o)
def rest (g h : Heap) (L d : Addr) : List (Addr × Obj) := (allNews g h L).filter fun p => decide (p.1 ≠ d)
end L2

namespace L2
open PySem PySem.Spec PyProof.Rows

/-- the module's facts, over the base: the heap at the law's entry without what is tracked there -/
structure Mod (K : PySem.W.Frag) (mg : Str → Option Value) (base : Heap) : Prop where
  kin : K.In base
  glob : base.Ns mainGlobals mg
  blt : ∃ mb, base.Ns builtinsNs mb ∧ ∀ x : Str, x ≠ "__name__" → mb x = bootBuiltins x
  nolimit : base.NoLimit

/-- the context: a def's body (or a comprehension's block) running. base: fixed through the whole law; s₀, H₀: the entry; outer: the frames whose slots others may change (a def's callers); stack: all frames that run;
   ex: iterators that were made ahead of the entry and are walked here (a comprehension's); fn: the names whose cells were made at the entry (a def: all; a comprehension's block: its own); calm: not within an except suite; pn: pins that every state bears; xe: what is wanted of an exception that leaves the code -/
structure Cx where
  prog : Program
  w : World
  K : PySem.W.Frag
  mg : Str → Option Value
  base : Heap
  A : Around
  N : List Str
  s₀ : Shared
  H₀ : Hp
  env : Env
  outer : List Env
  stack : List Env
  ex : List Addr
  fn : Str → Bool
  calm : Bool
  pn : List (Addr × Obj)
  xe : Value → Shared → Prop
/-- the callers' frames -/
def frs (l : List Env) : List Addr := l.filterMap (·.frame)
abbrev Cx.fs (X : Cx) : List Addr := frs X.outer

def Vis (sc : Scope) (x : Str) : Prop := sc.names.lookup x = some .local ∨ sc.names.lookup x = some .cell ∨ sc.names.lookup x = some .free
def Loc (sc : Scope) (x : Str) : Prop := sc.names.lookup x = some .local ∨ sc.names.lookup x = some .cell
def Look (env : Env) (h : Heap) (m : Str → Option Value) (x : Str) (u : Value) : Prop :=
  (env.kindOf x = some .local ∧ m x = some u) ∨ ((env.kindOf x = some .cell ∨ env.kindOf x = some .free) ∧ ∃ c, env.cells.lookup x = some c ∧ h.IsCell c (some u))

structure Cx.Ok (X : Cx) : Prop where
  mod : Mod X.K X.mg X.base
  kind : X.env.scope.kind = .function
  glob : X.env.globals = mainGlobals
  blt : X.env.builtins = builtinsNs
  above : X.s₀.heap.objs.size ≤ X.env.locals
  inj : ∀ x y c, X.env.cells.lookup x = some c → X.env.cells.lookup y = some c → x = y
  has : ∀ x, (X.env.kindOf x = some .cell ∨ X.env.kindOf x = some .free) → ∃ c, X.env.cells.lookup x = some c
  cab : ∀ x c, X.fn x = true → X.env.cells.lookup x = some c → X.s₀.heap.objs.size ≤ c
  hd : X.calm = true → X.A.handled = none
  frames : X.A.frames = some X.stack
  stk : X.stack = X.outer ∨ (X.stack = X.env :: X.outer ∧ X.env.frame = some X.env.locals)
  exf : ∀ b ∈ X.ex, b ≠ X.env.locals ∧ ∀ x c, X.env.cells.lookup x = some c → c ≠ b
  bs : ∀ b o, X.base.get? b = some o → X.s₀.heap.get? b = some o ∧ X.H₀ b = none
  bsz : X.base.objs.size ≤ X.s₀.heap.objs.size
  noex : ∀ b o, X.base.get? b = some o → b ∉ X.ex
  exfs : ∀ b ∈ X.ex, b ∉ X.fs
  funs : X.s₀.heap.FunFrames X.base X.outer
  frf : ∀ b ∈ X.fs, X.H₀ b = none

structure Inv (X : Cx) (pins : List (Addr × Obj)) (σ : List (Option V)) (H : Hp) (s : Shared) : Prop where
  ok : X.Ok
  os : s.os = X.s₀.os
  bare : AllBare s.gens
  base : Un X.fs X.ex X.H₀ H X.s₀.heap s.heap
  loc : ∃ m, s.heap.Ns X.env.locals m ∧ ∀ (i : Nat) (x : Str) (v : V), X.N[i]? = some x → σ[i]? = some (some v) → Vis X.env.scope x → ∃ u, RelV v u ∧ Look X.env s.heap m x u
  cell : ∀ x c, X.env.cells.lookup x = some c → ∃ v, s.heap.IsCell c v
  free : H X.env.locals = none
  freeC : ∀ x c, X.env.cells.lookup x = some c → H c = none
  pin : ∀ p ∈ X.pn ++ pins, s.heap.get? p.1 = some p.2 ∧ H p.1 = none ∧ p.1 ≠ X.env.locals ∧ p.1 ∉ X.fs ∧ ∀ v, p.2.data ≠ .cell v
  hok : HOk X.prog X.w H s.heap
  len : σ.length = X.N.length

section
variable {X : Cx} {pins : List (Addr × Obj)} {σ : List (Option V)} {H H' : Hp} {s : Shared} {h' : Heap}

theorem Cx.Ok.nofr (ok : X.Ok) {b : Addr} {o : Obj} (e : X.base.get? b = some o) : b ∉ X.fs := fun hb => by
  have := (ok.funs.mem hb).1
  rw [e] at this; cases this
theorem Inv.bs (I : Inv X pins σ H s) : ∀ b o, X.base.get? b = some o → s.heap.get? b = some o ∧ H b = none := fun b o e =>
  ⟨I.base.keep b o (I.ok.bs b o e).1 (I.ok.bs b o e).2 (I.ok.nofr e) (I.ok.noex b o e), I.base.free b o (I.ok.bs b o e).1 (I.ok.bs b o e).2 (I.ok.noex b o e)⟩
theorem Inv.bk (I : Inv X pins σ H s) : ∀ b o, X.base.get? b = some o → s.heap.get? b = some o := fun b o e => (I.bs b o e).1
theorem Inv.mod (I : Inv X pins σ H s) : Mod X.K X.mg X.base := I.ok.mod
theorem Inv.kIn (I : Inv X pins σ H s) : X.K.In s.heap := I.ok.mod.kin.keeps I.bk
theorem Inv.nolimit (I : Inv X pins σ H s) : s.heap.NoLimit := I.ok.mod.nolimit.keeps I.bk
/-- the frame over the base: for OpenK's rules (K.In X.base is I.mod.kin) -/
theorem Inv.fr (I : Inv X pins σ H s) : ∃ m, Fr X.base X.env.locals s.heap m :=
  let ⟨m, hn, _⟩ := I.loc
  ⟨m, hn, I.bk, Nat.le_trans I.ok.bsz I.ok.above⟩
theorem Inv.lt (I : Inv X pins σ H s) : X.env.locals < s.heap.objs.size := let ⟨_, hn, _⟩ := I.loc; hn.lt
theorem Inv.sz (I : Inv X pins σ H s) : X.s₀.heap.objs.size ≤ s.heap.objs.size := Nat.le_trans I.ok.above (Nat.le_of_lt I.lt)
theorem Inv.nofs (I : Inv X pins σ H s) {a : Addr} (h : s.heap.objs.size ≤ a) : a ∉ X.fs := fun hb => by
  obtain ⟨_, o, ho, _⟩ := I.ok.funs.mem hb
  exact absurd (Nat.lt_of_lt_of_le (Heap.lt_size ho) (Nat.le_trans I.sz h)) (Nat.lt_irrefl _)
theorem Inv.cne (I : Inv X pins σ H s) : ∀ x c, X.env.cells.lookup x = some c → c ≠ X.env.locals := fun x c e z => by
  obtain ⟨v, o, ho, hd⟩ := I.cell x c e
  obtain ⟨m, ⟨o', es, ep, ho', hd', _⟩, _⟩ := I.loc
  rw [z, ho'] at ho; cases ho; rw [hd'] at hd; cases hd
theorem Inv.funs (I : Inv X pins σ H s) : s.heap.FunFrames X.base X.outer := by
  have all : ∀ (l : List Env), (∀ b ∈ frs l, b ∈ X.fs) → X.s₀.heap.FunFrames X.base l → s.heap.FunFrames X.base l := by
    intro l
    induction l with
    | nil => intro _ _; trivial
    | cons env r ih =>
      intro hs hl
      obtain ⟨hk, ⟨L, o, hf, hn, ho, hd⟩, hr⟩ := hl
      have hL : L ∈ X.fs := hs L (by unfold frs; rw [List.filterMap_cons, hf]; exact List.mem_cons_self)
      obtain ⟨sl, e⟩ := I.base.slot L o ho (I.ok.frf L hL) hL fun z => I.ok.exfs L z hL
      exact ⟨hk, ⟨L, _, hf, hn, e, hd⟩, ih (fun b hb => hs b (by unfold frs; rw [List.filterMap_cons, hf]; exact List.mem_cons_of_mem _ hb)) hr⟩
  exact all X.outer (fun _ hb => hb) I.ok.funs

/-- the frames that run, for a call -/
theorem Inv.stack (I : Inv X pins σ H s) : s.heap.FunFrames X.base X.stack := by
  rcases I.ok.stk with e | ⟨e, hf⟩
  · rw [e]; exact I.funs
  · rw [e]
    obtain ⟨m, hn, _⟩ := I.loc
    refine .cons (by rw [I.ok.kind]; decide) hf hn ?_ I.funs
    exact Heap.get?_none_of_le (Nat.le_trans I.ok.bsz I.ok.above)
theorem Inv.stkSub (I : Inv X pins σ H s) : ∀ b ∈ frs X.stack, b ∈ X.env.locals :: X.fs := fun b hb => by
  rcases I.ok.stk with e | ⟨e, hf⟩
  · rw [e] at hb; exact List.mem_cons_of_mem _ hb
  · rw [e] at hb
    unfold frs at hb
    rw [List.filterMap_cons, hf] at hb
    exact hb
theorem Inv.stkFree (I : Inv X pins σ H s) : ∀ b ∈ frs X.stack, H b = none := fun b hb => by
  rcases List.mem_cons.mp (I.stkSub b hb) with e | hb
  · rw [e]; exact I.free
  · obtain ⟨_, o, ho, _⟩ := I.ok.funs.mem hb
    exact I.base.free b o ho (I.ok.frf b hb) fun z => I.ok.exfs b z hb

/-- THE STEP: the untracked objects but the frame and the records at ch are kept (the callers' frames up to slots), the frame's map is kept, the new abstract heap is held -/
theorem Inv.step {g' : Array GenState} {t' : Nat} {d' : Drawn} {ch : List Addr} (I : Inv X pins σ H s)
    (hch : ∀ b ∈ ch, (b ∈ X.ex ∨ X.s₀.heap.objs.size ≤ b) ∧ b ≠ X.env.locals ∧ (∀ x c, X.env.cells.lookup x = some c → c ≠ b) ∧ ∀ p ∈ X.pn ++ pins, p.1 ≠ b)
    (keep : ∀ b o, b ≠ X.env.locals → b ∉ X.fs → b ∉ ch → s.heap.get? b = some o → H b = none → h'.get? b = some o)
    (slot : ∀ b o, b ≠ X.env.locals → b ∈ X.fs → b ∉ ch → s.heap.get? b = some o → H b = none → ∃ sl, h'.get? b = some { o with slots := sl }) (free : ∀ b o, b ∉ ch → s.heap.get? b = some o → H b = none → H' b = none)
    (there : ∀ b o, b ∉ ch → s.heap.get? b = some o → ∃ o', h'.get? b = some o')
    (tups : ∀ b xs, H b = some (.tup xs) → H' b = some (.tup xs)) (frzs : ∀ b o u, H b = some (.frz o u) → H' b = some (.frz o u)) (tbls : ∀ b ps, H b = some (.tbl ps) → ∃ more, H' b = some (.tbl (ps ++ more)))
    (ns : ∀ m, s.heap.Ns X.env.locals m → h'.Ns X.env.locals m) (hok : HOk X.prog X.w H' h') (hg : AllBare g') :
    Inv X pins σ H' { s with heap := h', gens := g', drawn := d', toks := t' } := by
  have neL : ∀ b o, X.s₀.heap.get? b = some o → b ≠ X.env.locals := fun b o e => Nat.ne_of_lt (Nat.lt_of_lt_of_le (Heap.lt_size e) I.ok.above)
  have neC : ∀ b o, X.s₀.heap.get? b = some o → b ∉ X.ex → b ∉ ch := fun b o e hx hb => by
    rcases (hch b hb).1 with z | z
    · exact hx z
    · exact absurd (Nat.lt_of_lt_of_le (Heap.lt_size e) z) (Nat.lt_irrefl _)
  have cellK : ∀ x c, X.env.cells.lookup x = some c → ∀ v, s.heap.IsCell c v → h'.IsCell c v := fun x c e v ⟨o, ho, hd⟩ => by
    have nch : c ∉ ch := fun z => (hch c z).2.2.1 x c e rfl
    by_cases hc : c ∈ X.fs
    · obtain ⟨sl, q⟩ := slot c o (I.cne x c e) hc nch ho (I.freeC x c e)
      exact ⟨_, q, hd⟩
    · exact ⟨o, keep c o (I.cne x c e) hc nch ho (I.freeC x c e), hd⟩
  refine ⟨I.ok, I.os, hg, ⟨fun b o e n hb hx => ?_, fun b o e n hb hx => ?_, fun b o e n hx => ?_, fun b o e hx => ?_, fun b xs e => tups b xs (I.base.tups b xs e), fun b o xs e => frzs b o xs (I.base.frzs b o xs e), fun b ps e => ?_⟩, ?_, fun x c e => ?_, ?_, fun x c e => ?_, fun p hp => ?_, hok, I.len⟩
  · exact keep b o (neL b o e) hb (neC b o e hx) (I.base.keep b o e n hb hx) (I.base.free b o e n hx)
  · obtain ⟨sl, e1⟩ := I.base.slot b o e n hb hx
    obtain ⟨sl', e2⟩ := slot b _ (neL b o e) hb (neC b o e hx) e1 (I.base.free b o e n hx)
    exact ⟨sl', e2⟩
  · obtain ⟨o', e1⟩ := I.base.there b o e hx
    exact free b o' (neC b o e hx) e1 (I.base.free b o e n hx)
  · obtain ⟨o', e1⟩ := I.base.there b o e hx
    exact there b o' (neC b o e hx) e1
  · obtain ⟨m1, e1⟩ := I.base.tbls b ps e
    obtain ⟨m2, e2⟩ := tbls b _ e1
    exact ⟨m1 ++ m2, by rw [e2, Array.append_assoc]⟩
  · obtain ⟨m, hn, hl⟩ := I.loc
    refine ⟨m, ns m hn, fun i x v e1 e2 e3 => ?_⟩
    obtain ⟨u, r, l⟩ := hl i x v e1 e2 e3
    refine ⟨u, r, ?_⟩
    rcases l with l | ⟨k, c, e, z⟩
    · exact .inl l
    · exact .inr ⟨k, c, e, cellK x c e _ z⟩
  · obtain ⟨v, z⟩ := I.cell x c e
    exact ⟨v, cellK x c e v z⟩
  · obtain ⟨m, ⟨o, _, _, ho, _⟩, _⟩ := I.loc
    exact free _ o (fun z => (hch _ z).2.1 rfl) ho I.free
  · obtain ⟨v, o, ho, hd⟩ := I.cell x c e
    exact free c o (fun z => (hch c z).2.2.1 x c e rfl) ho (I.freeC x c e)
  · obtain ⟨e, n, ne, nf, d⟩ := I.pin p hp
    have nch : p.1 ∉ ch := fun z => (hch p.1 z).2.2.2 p hp rfl
    exact ⟨keep p.1 p.2 ne nf nch e n, free p.1 p.2 nch e n, ne, nf, d⟩
/-- .. where the frame's own object is kept too -/
theorem Inv.un {t' : Nat} (I : Inv X pins σ H s) (u : Un X.fs [] H H' s.heap h') (hok : HOk X.prog X.w H' h') : Inv X pins σ H' { s with heap := h', toks := t' } := by
  obtain ⟨m, ⟨o, es, ep, ho, r⟩, _⟩ := id I.loc
  obtain ⟨sl, hL⟩ := u.any ho I.free (by simp)
  exact I.step (g' := s.gens) (d' := s.drawn) (ch := []) (fun _ z => nomatch z) (fun b o _ hb _ e n => u.keep b o e n hb (by simp)) (fun b o _ hb _ e n => u.slot b o e n hb (by simp)) (fun b o _ e n => u.free b o e n (by simp)) (fun b o _ e => u.there b o e (by simp)) u.tups u.frzs u.tbls (fun m' hm => by
    obtain ⟨o', es', ep', ho', r'⟩ := hm
    rw [ho] at ho'; cases ho'
    exact ⟨_, es', ep', hL, r'⟩) hok I.bare
/-- behind a call (or a comprehension's block): the slots of this frame may have changed too, the records at ch may have turned -/
theorem Inv.call {g' : Array GenState} {t' : Nat} {d' : Drawn} {ch : List Addr} (I : Inv X pins σ H s) (u : Un (frs X.stack) ch H H' s.heap h') (hok : HOk X.prog X.w H' h') (hg : AllBare g')
    (hch : ∀ b ∈ ch, (b ∈ X.ex ∨ X.s₀.heap.objs.size ≤ b) ∧ b ≠ X.env.locals ∧ (∀ x c, X.env.cells.lookup x = some c → c ≠ b) ∧ ∀ p ∈ X.pn ++ pins, p.1 ≠ b) :
    Inv X pins σ H' { s with heap := h', gens := g', drawn := d', toks := t' } := by
  obtain ⟨m, ⟨o, es, ep, ho, r⟩, _⟩ := id I.loc
  obtain ⟨sl, hL⟩ := u.any ho I.free fun z => (hch _ z).2.1 rfl
  exact I.step (ch := ch) hch (fun b o hL hb hc e n => u.keep b o e n (fun z => (List.mem_cons.mp (I.stkSub b z)).elim hL hb) hc) (fun b o _ _ hc e n => u.any e n hc) (fun b o hc e n => u.free b o e n hc) (fun b o hc e => u.there b o e hc) u.tups u.frzs u.tbls (fun m' hm => by
    obtain ⟨o', es', ep', ho', r'⟩ := hm
    rw [ho] at ho'; cases ho'
    exact ⟨_, es', ep', hL, r'⟩) hok hg
/-- an untracked record of ours (an iterator) has turned -/
theorem Inv.turned {t' : Nat} {it : Addr} (I : Inv X pins σ H s) (k : ∀ b o, b ≠ it → s.heap.get? b = some o → h'.get? b = some o) (hn : H it = none) (hL : it ≠ X.env.locals)
    (h1 : it ∈ X.ex ∨ X.s₀.heap.objs.size ≤ it) (h2 : ∀ x c, X.env.cells.lookup x = some c → c ≠ it) (h3 : ∀ p ∈ X.pn ++ pins, p.1 ≠ it) : Inv X pins σ H { s with heap := h', toks := t' } := by
  have nit : ∀ b u, H b = some u → b ≠ it := fun b u e z => by rw [z, hn] at e; cases e
  refine I.step (g' := s.gens) (d' := s.drawn) (ch := [it]) (fun b hb => ?_) (fun b o _ _ hc e _ => k b o (fun z => hc (by simp [z])) e) (fun b o _ _ hc e _ => ⟨o.slots, k b o (fun z => hc (by simp [z])) e⟩) (fun _ _ _ _ n => n)
    (fun b o hc e => ⟨o, k b o (fun z => hc (by simp [z])) e⟩) (fun _ _ e => e) (fun _ _ _ e => e) (fun b ps e => ⟨#[], by rw [e]; simp⟩) (fun m hm => ?_) (fun b u e => ?_) I.bare
  · have e : b = it := by simpa using hb
    subst e
    exact ⟨h1, hL, h2, h3⟩
  · obtain ⟨o, es, ep, ho, r⟩ := hm
    exact ⟨o, es, ep, k _ o (Ne.symm hL) ho, r⟩
  · refine (I.hok b u e).stay (fun c v hc q => k c v ?_ q) (fun _ q => q) fun _ _ q => q
    rcases hc with z | z
    · rw [z]; exact nit b u e
    · exact nit c _ z
theorem Inv.tok (I : Inv X pins σ H s) (t : Nat) : Inv X pins σ H { s with toks := t } := I.un (h' := s.heap) (t' := t) Un.refl I.hok
/-- all objects kept -/
theorem Inv.kept {t' : Nat} (I : Inv X pins σ H s) (k : ∀ b u, s.heap.get? b = some u → h'.get? b = some u) : Inv X pins σ H { s with heap := h', toks := t' } := I.un (Un.kept k) (I.hok.kept k)
/-- a new object laid and tracked -/
theorem Inv.laid {a : Addr} {o : HO} {t' : Nat} (I : Inv X pins σ H s) (k : ∀ b u, s.heap.get? b = some u → h'.get? b = some u) (hp : s.heap.objs.size ≤ a) (new : ObjOk X.prog X.w (upd H a o) h' a o) :
    Inv X pins σ (upd H a o) { s with heap := h', toks := t' } := I.un (Un.laid k hp (I.hok.fresh hp)) (I.hok.laid k hp new)
/-- an object written -/
theorem Inv.write {x e : Addr} {o : HO} {t' : Nat} (I : Inv X pins σ H s) (mu : Mut (H x)) (he : e = x ∨ H e = some (.own x)) (k : ∀ b u, b ≠ e → s.heap.get? b = some u → h'.get? b = some u) (heo : ∃ u, h'.get? e = some u)
    (new : ObjOk X.prog X.w (upd H x o) h' x o) : Inv X pins σ (upd H x o) { s with heap := h', toks := t' } := I.un (Un.write mu he k heo) (I.hok.write mu he k heo new)
theorem Inv.pins_of {pins' : List (Addr × Obj)} (I : Inv X pins σ H s) (h : ∀ p ∈ pins', s.heap.get? p.1 = some p.2 ∧ H p.1 = none ∧ p.1 ≠ X.env.locals ∧ p.1 ∉ X.fs ∧ ∀ v, p.2.data ≠ .cell v) : Inv X pins' σ H s :=
  ⟨I.ok, I.os, I.bare, I.base, I.loc, I.cell, I.free, I.freeC, fun p hp => (List.mem_append.mp hp).elim (fun z => I.pin p (List.mem_append_left _ z)) (h p), I.hok, I.len⟩

theorem nodup_ix {N : List Str} (hN : N.Nodup) {i j : Nat} {x : Str} (a : N[i]? = some x) (b : N[j]? = some x) : i = j := by
  obtain ⟨h1, e1⟩ := List.getElem?_eq_some_iff.mp a
  obtain ⟨h2, e2⟩ := List.getElem?_eq_some_iff.mp b
  exact (List.getElem_inj hN).mp (e1.trans e2.symm)

/-- a name is stored; what changed -/
theorem store_ok2 {M : Model} {A : Around} {E : Value → Shared → Prop} {i : Nat} {x : Str} {v : V} {u : Value} {Q : Unit → Shared → Prop} (I : Inv X pins σ H s) (hN : X.N.Nodup) (hi : X.N[i]? = some x) (hx : Loc X.env.scope x) (r : RelV v u)
    (h : ∀ s', Inv X pins (σ.set i (some v)) H s' → (∃ a, Heap.SameBut a s.heap s'.heap ∧ (a = X.env.locals ∨ X.env.cells.lookup x = some a)) → Q () s') (hf : X.fn x = true ∨ X.env.scope.names.lookup x = some .local := by first | exact .inl rfl | exact .inr rfl | assumption) : wpAny M A (storeName X.env x u) Q E s := by
  obtain ⟨m, hn, hl⟩ := id I.loc
  have hcls : (X.env.scope.kind == .class || (X.env.scope.kind == .module && X.env.locals != X.env.globals)) = false := by rw [I.ok.kind]; rfl
  have hiσ : i < σ.length := by rw [I.len]; exact (List.getElem?_eq_some_iff.mp hi).1
  have cne := I.cne
  have tracked : ∀ {a : Addr} {h' : Heap}, (∃ o, s.heap.get? a = some o ∧ H a = none) → Heap.SameBut a s.heap h' → HOk X.prog X.w H h' := fun {a h'} ha hs b ob e => by
    obtain ⟨_, _, hfree⟩ := ha
    refine (I.hok b ob e).stay (fun c w' hc q => (hs.2 c ?_).trans q) (fun _ q => q) fun _ _ q => q
    rintro rfl
    rcases hc with rfl | hc
    · rw [hfree] at e; cases e
    · rw [hfree] at hc; cases hc
  rcases hx with hk | hk
  · refine wpAny_storeName_local hk hn (fun h' hn' hs => ?_) hcls
    obtain ⟨oL, _, _, hoL, _⟩ := id hn
    refine h _ ⟨I.ok, I.os, I.bare, ⟨fun b o e n hb hx => ?_, fun b o e n hb hx => ?_, I.base.free, fun b o e hx => ?_, I.base.tups, I.base.frzs, I.base.tbls⟩, ⟨_, hn', fun j y v' e1 e2 e3 => ?_⟩, fun y c e => ?_, I.free, I.freeC, fun p hp => ?_, tracked ⟨oL, hoL, I.free⟩ hs, by simpa using I.len⟩ ⟨_, hs, .inl rfl⟩
    · exact (hs.2 b (Nat.ne_of_lt (Nat.lt_of_lt_of_le (Heap.lt_size e) I.ok.above))).trans (I.base.keep b o e n hb hx)
    · obtain ⟨sl, e1⟩ := I.base.slot b o e n hb hx
      exact ⟨sl, (hs.2 b (Nat.ne_of_lt (Nat.lt_of_lt_of_le (Heap.lt_size e) I.ok.above))).trans e1⟩
    · obtain ⟨o', e1⟩ := I.base.there b o e hx
      exact ⟨o', (hs.2 b (Nat.ne_of_lt (Nat.lt_of_lt_of_le (Heap.lt_size e) I.ok.above))).trans e1⟩
    · by_cases hj : j = i
      · subst hj
        rw [hi] at e1; cases e1
        rw [List.getElem?_set_self hiσ] at e2
        cases e2
        exact ⟨u, r, .inl ⟨hk, by simp⟩⟩
      · rw [List.getElem?_set_ne (Ne.symm hj)] at e2
        obtain ⟨u', r', q⟩ := hl j y v' e1 e2 e3
        refine ⟨u', r', ?_⟩
        rcases q with ⟨k, e⟩ | ⟨k, c, e, z⟩
        · refine .inl ⟨k, ?_⟩
          have : y ≠ x := fun e => hj (nodup_ix hN e1 (e ▸ hi))
          simp [this, e]
        · exact .inr ⟨k, c, e, z.sameBut hs (cne y c e)⟩
    · obtain ⟨w', z⟩ := I.cell y c e
      exact ⟨w', z.sameBut hs (cne y c e)⟩
    · obtain ⟨e, n, ne, nf, d⟩ := I.pin p hp
      exact ⟨(hs.2 p.1 ne).trans e, n, ne, nf, d⟩
  · have hfn : X.fn x = true := by
      rcases hf with z | z
      · exact z
      · rw [z] at hk; cases hk
    obtain ⟨c, hc⟩ := I.ok.has x (.inl hk)
    obtain ⟨w', z⟩ := I.cell x c hc
    refine wpAny_storeName_cell I.ok.kind hk hc z (fun h' hc' hs => ?_)
    obtain ⟨oc, hoc, hocd⟩ := id z
    refine h { s with heap := h' } ⟨I.ok, I.os, I.bare, ⟨fun b o e n hb hx => ?_, fun b o e n hb hx => ?_, I.base.free, fun b o e hx => ?_, I.base.tups, I.base.frzs, I.base.tbls⟩, ⟨m, hn.sameBut hs (Ne.symm (cne x c hc)), fun j y v' e1 e2 e3 => ?_⟩, fun y c' e => ?_, I.free, I.freeC, fun p hp => ?_, tracked ⟨oc, hoc, I.freeC x c hc⟩ hs, by simpa using I.len⟩ ⟨c, hs, .inr hc⟩
    · exact (hs.2 b (Nat.ne_of_lt (Nat.lt_of_lt_of_le (Heap.lt_size e) (I.ok.cab x c hfn hc)))).trans (I.base.keep b o e n hb hx)
    · obtain ⟨sl, e1⟩ := I.base.slot b o e n hb hx
      exact ⟨sl, (hs.2 b (Nat.ne_of_lt (Nat.lt_of_lt_of_le (Heap.lt_size e) (I.ok.cab x c hfn hc)))).trans e1⟩
    · obtain ⟨o', e1⟩ := I.base.there b o e hx
      exact ⟨o', (hs.2 b (Nat.ne_of_lt (Nat.lt_of_lt_of_le (Heap.lt_size e) (I.ok.cab x c hfn hc)))).trans e1⟩
    · by_cases hj : j = i
      · subst hj
        rw [hi] at e1; cases e1
        rw [List.getElem?_set_self hiσ] at e2
        cases e2
        exact ⟨u, r, .inr ⟨.inl hk, c, hc, hc'⟩⟩
      · rw [List.getElem?_set_ne (Ne.symm hj)] at e2
        obtain ⟨u', r', q⟩ := hl j y v' e1 e2 e3
        refine ⟨u', r', ?_⟩
        rcases q with q | ⟨k, c', e, z'⟩
        · exact .inl q
        · refine .inr ⟨k, c', e, z'.sameBut hs ?_⟩
          rintro rfl
          exact hj (nodup_ix hN e1 (I.ok.inj _ _ _ e hc ▸ hi))
    · by_cases hcc : c' = c
      · subst hcc; exact ⟨_, hc'⟩
      · obtain ⟨w2, z2⟩ := I.cell y c' e
        exact ⟨w2, z2.sameBut hs hcc⟩
    · obtain ⟨e, n, ne, nf, d⟩ := I.pin p hp
      refine ⟨(hs.2 p.1 ?_).trans e, n, ne, nf, d⟩
      intro q
      rw [q, hoc] at e
      have q' : oc = p.2 := Option.some.inj e
      exact d w' (by rw [← q']; exact hocd)
theorem store_ok {M : Model} {A : Around} {E : Value → Shared → Prop} {i : Nat} {x : Str} {v : V} {u : Value} {Q : Unit → Shared → Prop} (I : Inv X pins σ H s) (hN : X.N.Nodup) (hi : X.N[i]? = some x) (hx : Loc X.env.scope x) (r : RelV v u)
    (h : ∀ s', Inv X pins (σ.set i (some v)) H s' → Q () s') (hf : X.fn x = true ∨ X.env.scope.names.lookup x = some .local := by first | exact .inl rfl | exact .inr rfl | assumption) : wpAny M A (storeName X.env x u) Q E s :=
  store_ok2 I hN hi hx r (fun s' I' _ => h s' I') hf
/-- behind a call or a block, the state as it is -/
theorem Inv.call' {s' : Shared} {ch : List Addr} (I : Inv X pins σ H s) (ho : s'.os = s.os) (u : Un (frs X.stack) ch H H' s.heap s'.heap) (hok : HOk X.prog X.w H' s'.heap) (hg : AllBare s'.gens)
    (hch : ∀ b ∈ ch, (b ∈ X.ex ∨ X.s₀.heap.objs.size ≤ b) ∧ b ≠ X.env.locals ∧ (∀ x c, X.env.cells.lookup x = some c → c ≠ b) ∧ ∀ p ∈ X.pn ++ pins, p.1 ≠ b) : Inv X pins σ H' s' := by
  obtain ⟨h', g', d', t', o'⟩ := s'
  have e : o' = s.os := ho
  subst e
  exact I.call (g' := g') (t' := t') (d' := d') u hok hg hch
end

/-! ### the judgements -/
/-- an exception: its class, its own dict's address (where it has one), the abstract heap behind it -/
abbrev XK := Value → Option Addr → Hp → Prop
abbrev St := List (Option V)
abbrev VK := V → Hp → Prop
/-- an expression's reading; a test's; an argument list's -/
abbrev TE := St → Hp → VK → Prop
abbrev TT := St → Hp → (Bool → Hp → Prop) → Prop
abbrev TA := St → Hp → (List V → Hp → Prop) → Prop
/-- what is wanted behind a statement -/
structure Ends where
  nx : St → Hp → Prop
  rt : VK
  bk : St → Hp → Prop := fun _ _ => False
  ct : St → Hp → Prop := fun _ _ => False
abbrev TS := Ends → St → Hp → Prop

def EP (X : Cx) (pins : List (Addr × Obj)) (σ : St) (Q : VK) (u : Value) (s' : Shared) : Prop := ∃ v H', Inv X pins σ H' s' ∧ RelV v u ∧ Q v H'
def TP (X : Cx) (pins : List (Addr × Obj)) (σ : St) (Q : Bool → Hp → Prop) (b : Bool) (s' : Shared) : Prop := ∃ H', Inv X pins σ H' s' ∧ Q b H'
def AP (X : Cx) (pins : List (Addr × Obj)) (σ : St) (Q : List V → Hp → Prop) (us : List Value) (s' : Shared) : Prop := ∃ vs H', Inv X pins σ H' s' ∧ Vals vs us ∧ Q vs H'
def SP (X : Cx) (pins : List (Addr × Obj)) (D : Ends) (f : Flow) (s' : Shared) : Prop :=
  match f with
  | .next => ∃ σ' H', Inv X pins σ' H' s' ∧ D.nx σ' H'
  | .brk => ∃ σ' H', Inv X pins σ' H' s' ∧ D.bk σ' H'
  | .cont => ∃ σ' H', Inv X pins σ' H' s' ∧ D.ct σ' H'
  | .ret u => ∃ v σ' H', Inv X pins σ' H' s' ∧ RelV v u ∧ D.rt v H'

def PE (X : Cx) (e : Expr) (t : TE) : Prop :=
  ∀ (pins : List (Addr × Obj)) (s : Shared) (σ : St) (H : Hp) (Q : VK), Inv X pins σ H s → t σ H Q → wpAny (model X.prog X.w) X.A (eval e X.env) (EP X pins σ Q) X.xe s
def PT (X : Cx) (e : Expr) (t : TT) : Prop :=
  ∀ (pins : List (Addr × Obj)) (s : Shared) (σ : St) (H : Hp) (Q : Bool → Hp → Prop), Inv X pins σ H s → t σ H Q → wpAny (model X.prog X.w) X.A (isTrue e X.env (eval e X.env)) (TP X pins σ Q) X.xe s
/-- a test whatever its 'whole' is (and, or) -/
def PW (X : Cx) (e : Expr) (t : TT) : Prop :=
  ∀ (whole : Sem Value) (pins : List (Addr × Obj)) (s : Shared) (σ : St) (H : Hp) (Q : Bool → Hp → Prop), Inv X pins σ H s → t σ H Q → wpAny (model X.prog X.w) X.A (isTrue e X.env whole) (TP X pins σ Q) X.xe s
/-- an argument list (no star), from the left -/
def PA (X : Cx) (es : List Expr) (t : TA) : Prop :=
  ∀ (pos : Pos) (pins : List (Addr × Obj)) (s : Shared) (σ : St) (H : Hp) (Q : List V → Hp → Prop), Inv X pins σ H s → t σ H Q → wpAny (model X.prog X.w) X.A (spliced (backTo pos (starEach es X.env))) (AP X pins σ Q) X.xe s
def PS (X : Cx) (st : Stmt) (t : TS) : Prop :=
  ∀ (pins : List (Addr × Obj)) (s : Shared) (σ : St) (H : Hp) (D : Ends), Inv X pins σ H s → t D σ H → wpAny (model X.prog X.w) X.A (exec st X.env) (SP X pins D) X.xe s
def PSs (X : Cx) (st : List Stmt) (t : TS) : Prop :=
  ∀ (pins : List (Addr × Obj)) (s : Shared) (σ : St) (H : Hp) (D : Ends), Inv X pins σ H s → t D σ H → wpAny (model X.prog X.w) X.A (execs st X.env) (SP X pins D) X.xe s
/-- weaken the end -/
theorem thn {α : Type} {t : Sem α} {Q Q' : α → Shared → Prop} {M : Model} {A : Around} {E : Value → Shared → Prop} {s : Shared} (h : wpAny M A t Q E s) (hQ : ∀ a s, Q a s → Q' a s) : wpAny M A t Q' E s := wpAny_mono h hQ fun _ _ x => x
end L2

namespace L2
open PySem PySem.Spec PyProof.Rows
section
variable {X : Cx}

/-! ### names and constants -/
def tVar (i : Nat) : TE := fun σ H Q => ∃ v, σ[i]? = some (some v) ∧ Q v H
def tC (v : V) : TE := fun _ H Q => Q v H
theorem pe_var {i : Nat} {x : Str} {pos : Pos} (hN : X.N[i]? = some x) (hv : Vis X.env.scope x) (hd : (x == ("__debug__" : Str)) = false := by decide) (hcd : (x == ("__classdict__" : Str)) = false := by decide) : PE X (.Name x pos) (tVar i) := by
  intro pins s σ H Q I h
  obtain ⟨v, e, h⟩ := h
  obtain ⟨m, hn, hl⟩ := I.loc
  obtain ⟨u, r, l⟩ := hl i x v hN e hv
  have fin : EP X pins σ Q u s := ⟨v, H, I, r, h⟩
  rcases l with ⟨hk, hm⟩ | ⟨hk, c, hc, hcell⟩
  · exact wpAny_Name (wpAny_loadName_local I.ok.kind hk hn hm fin) hd
  · rcases hk with hk | hk
    · exact wpAny_Name (wpAny_loadName_cell I.ok.kind hk hc hcell fin) hd
    · exact wpAny_Name (wpAny_loadName_free I.ok.kind hk hc hcell fin hcd) hd
theorem pe_int {i j pos} : PE X (.Constant (.int i) j pos) (tC (.int i)) := fun _ _ _ H _ I h => wpAny_Constant_int ⟨.int i, H, I.tok _, ⟨_, rfl⟩, h⟩
theorem pe_bl {b j pos} : PE X (.Constant (.bool b) j pos) (tC (.bl b)) := fun _ _ _ H _ I h => Constant_bool ⟨.bl b, H, I, rfl, h⟩
theorem pe_str {x j pos} : PE X (.Constant (.str x) j pos) (tC (.str x)) := fun _ _ _ H _ I h => Calls.Constant_str ⟨.str x, H, I.tok _, ⟨_, rfl⟩, h⟩

/-- a global name of the def -/
def Gl (X : Cx) (x : Str) : Prop := X.env.kindOf x = some .globalImplicit
theorem ld_glob {E : Value → Shared → Prop} {pins : List (Addr × Obj)} {s : Shared} {σ : St} {H : Hp} {x : Str} {u : Value} {pos : Pos} {Q : Value → Shared → Prop} (I : Inv X pins σ H s) (hg : Gl X x) (hm : X.mg x = some u) (h : Q u s)
    (hd : (x == ("__debug__" : Str)) = false := by decide) : wpAny (model X.prog X.w) X.A (eval (.Name x pos) X.env) Q E s :=
  Calls.Name_function_global I.ok.kind hg (Calls.loadGlobal_global (by rw [I.ok.glob]; exact I.mod.glob.keeps I.bk) hm h) hd
theorem ld_blt {E : Value → Shared → Prop} {pins : List (Addr × Obj)} {s : Shared} {σ : St} {H : Hp} {x : Str} {u : Value} {pos : Pos} {Q : Value → Shared → Prop} (I : Inv X pins σ H s) (hg : Gl X x) (hm : X.mg x = none) (hv : bootBuiltins x = some u) (h : Q u s)
    (hn : x ≠ "__name__" := by decide) (hd : (x == ("__debug__" : Str)) = false := by decide) : wpAny (model X.prog X.w) X.A (eval (.Name x pos) X.env) Q E s := by
  obtain ⟨mb, h1, h2⟩ := I.mod.blt
  exact Calls.Name_function_global I.ok.kind hg (Calls.loadGlobal_builtin (by rw [I.ok.glob]; exact I.mod.glob.keeps I.bk) hm (by rw [I.ok.blt]; exact h1.keeps I.bk) ((h2 x hn).trans hv) h) hd
theorem pe_bltn {x : Str} {v : V} {u : Value} {pos : Pos} (hg : Gl X x) (hm : X.mg x = none) (hv : bootBuiltins x = some u) (r : RelV v u) (hn : x ≠ "__name__" := by decide) (hd : (x == ("__debug__" : Str)) = false := by decide) : PE X (.Name x pos) (tC v) :=
  fun _ _ _ H _ I h => ld_blt I hg hm hv ⟨v, H, I, r, h⟩ hn hd

/-! ### arithmetic -/
variable {a b : Expr} {ta tb : TE} {pos : Pos}
/-! ### comparisons -/
/-- a comparison as a value, as a test -/
def tB (t : TE) : TT := fun σ H Q => t σ H fun x H1 => ∃ c, x = .bl c ∧ Q c H1
/-- an expression whose value is a bool, as a test -/
theorem pt_val {e : Expr} {t : TE} (h : PE X e t) (he : ∀ whole, isTrue e X.env whole = (do let v ← whole; standAt e.pos; holding [v] (truthy v)) := by intro _; rfl) : PT X e (tB t) := by
  intro pins s σ H Q I hw
  refine isTrue_plain (thn (h pins s σ H _ I hw) fun v s1 ⟨x, H1, I1, r1, q1⟩ => ?_) (he _)
  obtain ⟨d, rfl, q⟩ := q1
  cases r1
  exact wpAny_truthy_bool ⟨H1, I1, q⟩

/-! ### and, or, not -/
variable {tA tB' : TT} {rest : List Expr}
def tOr (t u : TT) : TT := fun σ H Q => t σ H fun c H1 => if c = true then Q true H1 else u σ H1 Q
def tNot (t : TT) : TT := fun σ H Q => t σ H fun c H1 => Q (!c) H1
theorem pw_or1 (ha : PT X a tA) : PW X (.BoolOp .Or [a] pos) tA := by
  intro wh pins s σ H Q I h
  refine isTrue_or (thn (ha pins s σ H Q I h) fun c s1 e => ?_)
  cases c with
  | false => exact isTrue_or_nil e
  | true => exact e
theorem pw_or (ha : PT X a tA) (hb : PW X (.BoolOp .Or (b :: rest) pos) tB') : PW X (.BoolOp .Or (a :: b :: rest) pos) (tOr tA tB') := by
  intro wh pins s σ H Q I h
  refine isTrue_or (thn (ha pins s σ H _ I h) fun c s1 ⟨H1, I1, q1⟩ => ?_)
  cases c with
  | true => exact ⟨H1, I1, q1⟩
  | false => exact hb wh pins s1 σ H1 Q I1 q1
theorem pt_not (ha : PT X a tA) : PT X (.UnaryOp .Not a pos) (tNot tA) := by
  intro pins s σ H Q I h
  exact isTrue_not (ha pins s σ H (fun c H1 => Q (!c) H1) I h)
/-- .. as values (bools) -/
def tAndV (ta tb : TE) : TE := fun σ H Q => ta σ H fun x H1 => ∃ c, x = .bl c ∧ if c = true then tb σ H1 Q else Q (.bl false) H1
def tNotV (ta : TE) : TE := fun σ H Q => ta σ H fun x H1 => ∃ c, x = .bl c ∧ Q (.bl (!c)) H1
theorem pe_one {op} {t : TE} (h : PE X a t) : PE X (.BoolOp op [a] pos) t := fun pins s σ H Q I hw => BoolOp_one (h pins s σ H Q I hw)
theorem pe_and (ha : PE X a ta) (hb : PE X (.BoolOp .And (b :: rest) pos) tb) : PE X (.BoolOp .And (a :: b :: rest) pos) (tAndV ta tb) := by
  intro pins s σ H Q I h
  refine BoolOp_and (thn (ha pins s σ H _ I h) fun v s1 ⟨x, H1, I1, r1, q1⟩ => ?_)
  obtain ⟨c, rfl, q1⟩ := q1
  cases r1
  refine wpAny_truthy_bool ?_
  cases c with
  | true => exact hb pins s1 σ H1 Q I1 q1
  | false => exact ⟨.bl false, H1, I1, rfl, q1⟩
theorem pe_not (ha : PE X a ta) : PE X (.UnaryOp .Not a pos) (tNotV ta) := by
  intro pins s σ H Q I h
  refine UnaryOp_ (thn (ha pins s σ H _ I h) fun v s1 ⟨x, H1, I1, r1, q1⟩ => ?_)
  obtain ⟨c, rfl, q1⟩ := q1
  cases r1
  exact not_of (wpAny_truthy_bool ⟨.bl (!c), H1, I1, rfl, q1⟩)
end
end L2

namespace L2
open PySem PySem.Spec PyProof.Rows

/-! ### a list, a tuple that is read: tracked, frozen, or an object of the module -/
def SqL (K : PySem.W.Frag) (H : Hp) (a : Addr) (xs : List V) : Prop :=
  Rd H a (.lst xs) ∨
    ∃ (o : Obj) (its : Array Value) (n : Nat), K.lookup a = some o ∧ o.cls = .type "list" ∧ o.dict = none ∧ o.data = .seq its n ∧ its.size ≤ sizeLine ∧ Vals xs its.toList
def SqT (K : PySem.W.Frag) (H : Hp) (a : Addr) (xs : List V) : Prop :=
  Rd H a (.tup xs) ∨
    ∃ (o : Obj) (its : Array Value) (n : Nat), K.lookup a = some o ∧ o.cls = .type "tuple" ∧ o.data = .seq its n ∧ its.size ≤ sizeLine ∧ Vals xs its.toList
def absV : Value → Option V
  | .none => some .non
  | .bool b => some (.bl b)
  | .int i _ => some (.int i)
  | .str x _ => some (.str x)
  | .bytes b _ => some (.byt b)
  | .float b _ => some (.flt b)
  | .ref a => some (.ref a)
  | .type n => some (.ty n)
  | _ => none
theorem RelV.abs {x : V} {u : Value} (r : RelV x u) : absV u = some x := by
  cases x with
  | non => cases r; rfl
  | bl _ => cases r; rfl
  | int _ => obtain ⟨t, rfl⟩ := r; rfl
  | str _ => obtain ⟨t, rfl⟩ := r; rfl
  | byt _ => obtain ⟨t, rfl⟩ := r; rfl
  | flt _ => obtain ⟨t, rfl⟩ := r; rfl
  | ref _ => cases r; rfl
  | ty _ => cases r; rfl
theorem RelV.inj {x y : V} {u : Value} (r : RelV x u) (q : RelV y u) : x = y := Option.some.inj (r.abs.symm.trans q.abs)
theorem Vals.inj : ∀ {xs ys : List V} {us : List Value}, Vals xs us → Vals ys us → xs = ys
  | _, _, _, .nil, .nil => rfl
  | _, _, _, .cons r t, .cons r' t' => by rw [r.inj r', Vals.inj t t']
section
variable {X : Cx} {pins : List (Addr × Obj)} {σ : St} {H : Hp} {s : Shared} {a : Addr} {xs ys : List V}
theorem SqL.of {K : PySem.W.Frag} (h : H a = some (.lst xs)) : SqL K H a xs := .inl (.inl h)
theorem SqT.of {K : PySem.W.Frag} (h : H a = some (.tup xs)) : SqT K H a xs := .inl (.inl h)
theorem Inv.list (I : Inv X pins σ H s) (h : SqL X.K H a xs) : ∃ its : List Value, Vals xs its ∧ PlainL s.heap a its.toArray ∧ xs.length ≤ sizeLine := by
  rcases h with h | ⟨o, its, n, hk, hc, hd, hs, hz, r⟩
  · obtain ⟨z, its, n, r, e⟩ := h.ok I.hok
    exact ⟨its, r, ⟨_, n, e, rfl, rfl, rfl⟩, z⟩
  · refine ⟨its.toList, r, ⟨o, n, I.kIn a o hk, hc, hd, by simpa using hs⟩, ?_⟩
    have e := r.length
    simp only [Array.length_toList] at e
    omega
theorem Inv.tuple (I : Inv X pins σ H s) (h : SqT X.K H a xs) : ∃ its : List Value, Vals xs its ∧ IsTup s.heap a its.toArray ∧ xs.length ≤ sizeLine := by
  rcases h with h | ⟨o, its, n, hk, hc, hs, hz, r⟩
  · obtain ⟨z, its, r, p⟩ := h.ok I.hok
    exact ⟨its, r, p, z⟩
  · refine ⟨its.toList, r, ⟨o, I.kIn a o hk, hc, n, by simpa using hs⟩, ?_⟩
    have e := r.length
    simp only [Array.length_toList] at e
    omega
end

/-! ### another wish about exceptions -/
abbrev Cx.wish (X : Cx) (E : Value → Shared → Prop) : Cx := { X with xe := E }
/-- no exception leaves -/
abbrev Cx.nox (X : Cx) : Cx := X.wish fun _ _ => False
theorem Cx.Ok.wish {X : Cx} (ok : X.Ok) (E : Value → Shared → Prop) : (X.wish E).Ok :=
  ⟨ok.mod, ok.kind, ok.glob, ok.blt, ok.above, ok.inj, ok.has, ok.cab, ok.hd, ok.frames, ok.stk, ok.exf, ok.bs, ok.bsz, ok.noex, ok.exfs, ok.funs, ok.frf⟩
theorem Cx.Ok.unwish {X : Cx} {E : Value → Shared → Prop} (ok : (X.wish E).Ok) : X.Ok :=
  ⟨ok.mod, ok.kind, ok.glob, ok.blt, ok.above, ok.inj, ok.has, ok.cab, ok.hd, ok.frames, ok.stk, ok.exf, ok.bs, ok.bsz, ok.noex, ok.exfs, ok.funs, ok.frf⟩
section
variable {X : Cx} {pins : List (Addr × Obj)} {σ : St} {H : Hp} {s : Shared} {E : Value → Shared → Prop}
theorem Inv.wish (I : Inv X pins σ H s) (E : Value → Shared → Prop) : Inv (X.wish E) pins σ H s := ⟨I.ok.wish E, I.os, I.bare, I.base, I.loc, I.cell, I.free, I.freeC, I.pin, I.hok, I.len⟩
theorem Inv.unwish (I : Inv (X.wish E) pins σ H s) : Inv X pins σ H s := ⟨I.ok.unwish, I.os, I.bare, I.base, I.loc, I.cell, I.free, I.freeC, I.pin, I.hok, I.len⟩
theorem SP.unwish {D : Ends} {f : Flow} {s' : Shared} (h : SP (X.wish E) pins D f s') : SP X pins D f s' := by
  cases f with
  | next => obtain ⟨σ', H', I, q⟩ := h; exact ⟨σ', H', I.unwish, q⟩
  | brk => obtain ⟨σ', H', I, q⟩ := h; exact ⟨σ', H', I.unwish, q⟩
  | cont => obtain ⟨σ', H', I, q⟩ := h; exact ⟨σ', H', I.unwish, q⟩
  | ret u => obtain ⟨v, σ', H', I, r, q⟩ := h; exact ⟨v, σ', H', I.unwish, r, q⟩
theorem PE.nox {e : Expr} {t : TE} (h : PE X.nox e t) : PE X e t := fun pins s σ H Q I hw =>
  wpAny_mono (h pins s σ H Q (I.wish _) hw) (fun _ _ ⟨v, H', I', r, q⟩ => ⟨v, H', I'.unwish, r, q⟩) fun _ _ z => False.elim z
theorem PT.nox {e : Expr} {t : TT} (h : PT X.nox e t) : PT X e t := fun pins s σ H Q I hw =>
  wpAny_mono (h pins s σ H Q (I.wish _) hw) (fun _ _ ⟨H', I', q⟩ => ⟨H', I'.unwish, q⟩) fun _ _ z => False.elim z
theorem PSs.nox {st : List Stmt} {t : TS} (h : PSs X.nox st t) : PSs X st t := fun pins s σ H D I hw =>
  wpAny_mono (h pins s σ H D (I.wish _) hw) (fun _ _ q => q.unwish) fun _ _ z => False.elim z
end

/-! ### blocks and small statements -/
section
variable {X : Cx} {st : Stmt} {rest : List Stmt} {t u : TS} {e : Expr} {te : TE} {pos : Pos}
def tNext : TS := fun D σ H => D.nx σ H
def tSeq (t u : TS) : TS := fun D σ H => t { D with nx := u D } σ H
theorem pss_nil : PSs X [] tNext := fun _ _ σ H _ I h => wpAny_execs_nil ⟨σ, H, I, h⟩
theorem pss_cons (h1 : PS X st t) (h2 : PSs X rest u) : PSs X (st :: rest) (tSeq t u) := by
  intro pins s σ H D I h
  refine wpAny_execs_cons (thn (h1 pins s σ H { D with nx := u D } I h) fun f s1 q => ?_)
  cases f with
  | next =>
    obtain ⟨σ', H', I', q⟩ := q
    exact h2 pins s1 σ' H' D I' q
  | ret v => exact q
  | brk => exact q
  | cont => exact q
theorem pss_one (h1 : PS X st t) : PSs X [st] t := by
  intro pins s σ H D I h
  refine wpAny_execs_cons (thn (h1 pins s σ H D I h) fun f s1 q => ?_)
  cases f with
  | next => exact wpAny_execs_nil q
  | ret v => exact q
  | brk => exact q
  | cont => exact q
/-- in a def's body nothing is shown -/
theorem Inv.quiet {pins : List (Addr × Obj)} {σ : St} {H : Hp} {s : Shared} (I : Inv X pins σ H s) : interactive X.env = false := by simp [interactive, I.ok.kind]
/-- an expression whose value is dropped -/
def tDrop (te : TE) : TS := fun D σ H => te σ H fun _ H1 => D.nx σ H1
theorem ps_expr (he : PE X e te) (hs : swapsWith e none pos.line X.env = pure false := by rfl) : PS X (.Expr e pos) (tDrop te) := by
  intro pins s σ H D I h
  exact wpAny_Expr_any (thn (he pins s σ H _ I h) fun v s1 ⟨x, H1, I1, r1, q1⟩ => ⟨σ, H1, I1, q1⟩) I.quiet hs
def tRet (te : TE) : TS := fun D σ H => te σ H D.rt
theorem ps_ret (he : PE X e te) : PS X (.Return (some e) pos) (tRet te) := by
  intro pins s σ H D I h
  exact wpAny_Return_some (thn (he pins s σ H _ I h) fun v s1 ⟨x, H1, I1, r1, q1⟩ => ⟨x, σ, H1, I1, r1, q1⟩)
def tIfS (c : TT) (t u : TS) : TS := fun D σ H => c σ H fun b H1 => if b = true then t D σ H1 else u D σ H1
theorem ps_if {c : Expr} {a b : List Stmt} {tc : TT} (hc : PT X c tc) (ha : PSs X a t) (hb : PSs X b u) : PS X (.If c a b pos) (tIfS tc t u) := by
  intro pins s σ H D I h
  refine wpAny_If (thn (hc pins s σ H _ I h) fun d s1 ⟨H1, I1, q1⟩ => ?_)
  cases d with
  | true => exact ha pins s1 σ H1 D I1 q1
  | false => exact hb pins s1 σ H1 D I1 q1
end

/-! ### targets -/
abbrev TG := V → St → Hp → (St → Hp → Prop) → Prop
abbrev TGs := List V → St → Hp → (St → Hp → Prop) → Prop
def PG (X : Cx) (target : Expr) (t : TG) : Prop :=
  ∀ (pins : List (Addr × Obj)) (s : Shared) (σ : St) (H : Hp) (v : V) (u : Value) (Q : St → Hp → Prop), Inv X pins σ H s → RelV v u → t v σ H Q →
    wpAny (model X.prog X.w) X.A (assign target X.env u) (fun _ s' => ∃ σ' H', Inv X pins σ' H' s' ∧ Q σ' H') X.xe s
/-- several targets, one after another -/
def PGs (X : Cx) (ts : List Expr) (t : TGs) : Prop :=
  ∀ (pins : List (Addr × Obj)) (s : Shared) (σ : St) (H : Hp) (vs : List V) (us : List Value) (Q : St → Hp → Prop), Inv X pins σ H s → Vals vs us → t vs σ H Q →
    wpAny (model X.prog X.w) X.A (assignInOrder ((assignEach ts X.env).map (·.2)) us) (fun _ s' => ∃ σ' H', Inv X pins σ' H' s' ∧ Q σ' H') X.xe s
/-- o[i] = v, by values -/
abbrev TSet := V → V → V → Hp → (Hp → Prop) → Prop
section
variable {X : Cx} {pos : Pos}
def gName (i : Nat) : TG := fun v σ H Q => Q (σ.set i (some v)) H
theorem pg_name {i : Nat} {x : Str} (hN : X.N.Nodup) (hi : X.N[i]? = some x) (hx : Loc X.env.scope x) (hf : X.fn x = true ∨ X.env.scope.names.lookup x = some .local := by first | exact .inl rfl | exact .inr rfl | assumption) : PG X (.Name x pos) (gName i) := by
  intro pins s σ H v u Q I r h
  exact wpAny_assign_Name (store_ok I hN hi hx r (fun s' I' => ⟨_, H, I', h⟩) hf)
/-- o[i] = .. -/
def gSub (to ti : TE) (t : TSet) : TG := fun v σ H Q => to σ H fun o H1 => ti σ H1 fun i H2 => t o i v H2 fun H3 => Q σ H3
/-- target = value -/
def tAsg (te : TE) (g : TG) : TS := fun D σ H => te σ H fun x H1 => g x σ H1 D.nx
/-- name = value -/
theorem ps_set {i : Nat} {x : Str} {e : Expr} {te : TE} {pos' : Pos} (hN : X.N.Nodup) (hi : X.N[i]? = some x) (hx : Loc X.env.scope x) (he : PE X e te) (hs : swapsWith e (some (.Name x pos')) pos.line X.env = pure false := by rfl) (hf : X.fn x = true ∨ X.env.scope.names.lookup x = some .local := by first | exact .inl rfl | exact .inr rfl | assumption) :
    PS X (.Assign [.Name x pos'] e pos) (tAsg te (gName i)) := by
  intro pins s σ H D I h
  refine wpAny_Assign_Name (thn (he pins s σ H _ I h) fun v s1 ⟨y, H1, I1, r1, q1⟩ => ?_) hs
  exact store_ok I1 hN hi hx r1 (fun s2 I2 => ⟨_, H1, I2, q1⟩) hf
end

/-! ### while -/
section
variable {X : Cx} {pos : Pos}
end

/-! ### what a loop or a comprehension walks -/
/-- at turn i: it yields x (the heap may grow), or it stops -/
structure It where
  go : Nat → Hp → Prop
  yld : Nat → Hp → V → Hp → Prop
  stop : Nat → Hp → Prop
/-- the iterator's own objects may turn: they are not the frame's, not pinned, younger than the entry (or a comprehension's own) -/
def FpOk (X : Cx) (pins : List (Addr × Obj)) (H : Hp) (b : Addr) : Prop :=
  H b = none ∧ b ≠ X.env.locals ∧ b ∉ X.fs ∧ (b ∈ X.ex ∨ X.s₀.heap.objs.size ≤ b) ∧ (∀ x c, X.env.cells.lookup x = some c → c ≠ b) ∧ ∀ p ∈ X.pn ++ pins, p.1 ≠ b
theorem Inv.fpOk {X : Cx} {pins : List (Addr × Obj)} {σ : St} {H H' : Hp} {s : Shared} {b : Addr} (I : Inv X pins σ H s) (hb : s.heap.objs.size ≤ b) (hn : H' b = none) : FpOk X pins H' b := by
  refine ⟨hn, Nat.ne_of_gt (Nat.lt_of_lt_of_le I.lt hb), I.nofs hb, .inr (Nat.le_trans I.sz hb), fun x c e z => ?_, fun p hp z => ?_⟩
  · obtain ⟨v, q⟩ := I.cell x c e
    exact absurd (Nat.lt_of_lt_of_le q.lt (by rw [z]; exact hb)) (Nat.lt_irrefl _)
  · exact absurd (Nat.lt_of_lt_of_le (Heap.lt_size (I.pin p hp).1) (by rw [z]; exact hb)) (Nat.lt_irrefl _)
structure Turn (P : Program) (w : World) (K : PySem.W.Frag) (tg : Expr) (J : It) (fp : List Addr) (it : Addr) (tn : Nat → Heap → Prop) : Prop where
  mem : it ∈ fp
  obj : ∀ i h, tn i h → ∀ b ∈ fp, ∃ o, h.get? b = some o ∧ ∀ v, o.data ≠ .cell v
  keep : ∀ i h h', tn i h → (∀ b ∈ fp, ∀ o, h.get? b = some o → h'.get? b = some o) → tn i h'
  item : ∀ (X : Cx), X.prog = P → X.w = w → X.K = K → X.calm = true → ∀ (i : Nat) (pins : List (Addr × Obj)) (s : Shared) (σ : St) (H : Hp) (E : Value → Shared → Prop), Inv X pins σ H s → (∀ b ∈ fp, FpOk X pins H b) → tn i s.heap → J.go i H →
    wpAny (model P w) X.A (pyNext (.ref it)) (fun r s1 => ∃ u, r = some u ∧
      wpAny (model P w) X.A (letOwnedTupleGo tg (.ref it) u) (fun _ s2 => ∃ x H', Inv X pins σ H' s2 ∧ RelV x u ∧ J.yld i H x H' ∧ tn (i + 1) s2.heap ∧ ∀ b ∈ fp, H' b = none) E s1) E s
  done : ∀ (X : Cx), X.prog = P → X.w = w → X.K = K → X.calm = true → ∀ (i : Nat) (pins : List (Addr × Obj)) (s : Shared) (σ : St) (H : Hp) (E : Value → Shared → Prop), Inv X pins σ H s → (∀ b ∈ fp, FpOk X pins H b) → tn i s.heap → J.stop i H →
    wpAny (model P w) X.A (pyNext (.ref it)) (fun r s1 => r = none ∧ Inv X pins σ H s1) E s
  self : ∀ (A : Around) (i : Nat) (s : Shared) (Q : Value → Shared → Prop) (E : Value → Shared → Prop), tn i s.heap → Q (.ref it) s → wpAny (model P w) A (pyIter (.ref it)) Q E s
abbrev TI := St → Hp → (It → Hp → Prop) → Prop
/-- an iterator has come -/
def PIE (X : Cx) (pins : List (Addr × Obj)) (σ : St) (tg : Expr) (R : It → Hp → Prop) (itv : Value) (s2 : Shared) : Prop :=
  ∃ (it : Addr) (fp : List Addr) (tn : Nat → Heap → Prop) (J : It) (H' : Hp), itv = .ref it ∧ Inv X pins σ H' s2 ∧ Turn X.prog X.w X.K tg J fp it tn ∧ tn 0 s2.heap ∧ (∀ b ∈ fp, FpOk X pins H' b) ∧ R J H'
def PI (X : Cx) (tg iter : Expr) (wi : TI) : Prop :=
  ∀ (pins : List (Addr × Obj)) (s : Shared) (σ : St) (H : Hp) (R : It → Hp → Prop), Inv X pins σ H s → wi σ H R →
    wpAny (model X.prog X.w) X.A (eval iter X.env) (fun v s1 => wpAny (model X.prog X.w) X.A (pyIter v) (PIE X pins σ tg R) X.xe s1) X.xe s

/-- the step ahead of the store is nothing for an iterator that keeps no tuple -/
theorem go_of {M : Model} {A : Around} {E : Value → Shared → Prop} {s : Shared} {tg : Expr} {it : Addr} {u : Value} {o : Obj} {n : String} {vs : Array Value} {Q : Unit → Shared → Prop} (ho : s.heap.get? it = some o) (hc : o.cls = .type n) (hd : o.data = .fields vs)
    (hn : ["enumerate", "zip", "dict_itemiterator", "dict_reverseitemiterator", "odict_iterator", "itertools.zip_longest", "itertools.pairwise"].contains n = false) (hQ : Q () s) : wpAny M A (letOwnedTupleGo tg (.ref it) u) Q E s := by
  unfold letOwnedTupleGo
  cases tg <;> first
    | exact wpAny_pure hQ
    | (cases u <;> first
        | exact wpAny_pure hQ
        | (refine wpAny_bind (wpAny_load ho ?_)
           rw [hc, hd]
           show wpAny M A (if (["enumerate", "zip", "dict_itemiterator", "dict_reverseitemiterator", "odict_iterator", "itertools.zip_longest", "itertools.pairwise"].contains n && vs[0]? == some (rawInt _)) = true then _ else _) Q E s
           rw [if_neg (by intro h; rw [hn, Bool.false_and] at h; cases h)]
           exact wpAny_pure hQ))

/-- lo, lo + 1, .. (n of them) -/
def Itr (lo : Int) (n : Nat) : It := ⟨fun i _ => i < n, fun i H x H' => H' = H ∧ x = .int (lo + i), fun i _ => n ≤ i⟩
theorem turn_range {P : Program} {w : World} {K : PySem.W.Frag} {tg : Expr} (it : Addr) (lo : Int) (n : Nat) : Turn P w K tg (Itr lo n) [it] it (fun i h => IsRangeIter h it (lo + (i : Nat) * 1) ((n : Int) - (i : Nat)) 1) where
  mem := by simp
  obj := fun i h st b hb => by
    have e : b = it := by simpa using hb
    subst e
    exact ⟨_, st, fun v z => by
      have z' : Data.fields _ = Data.cell v := z
      cases z'⟩
  keep := fun i h h' st k => k it (by simp) _ st
  item := by
    intro X hP hw hK hc i pins s σ H E I hf st hg
    subst hP hw hK
    obtain ⟨f0, f1, f2, f3, f4, f5⟩ := hf it (by simp)
    have W := Walks.range (prog := X.prog) (w := X.w) (I.ok.hd hc) it lo 1 n
    refine W.item i s _ _ hg st fun v h' tk hv st' kk => ?_
    obtain ⟨t, rfl⟩ := hv
    have I1 : Inv X pins σ H { s with heap := h', toks := tk } := I.turned (fun b o hb e => kk b o (by simpa using hb) e) f0 f1 f3 f4 f5
    refine ⟨_, rfl, go_of (s := { s with heap := h', toks := tk }) (n := "range_iterator") st' rfl rfl (by decide) ⟨.int (lo + i), H, I1, ⟨t, ?_⟩, ⟨rfl, rfl⟩, st', fun b hb => (hf b hb).1⟩⟩
    rw [Int.mul_one]
  done := by
    intro X hP hw hK hc i pins s σ H E I hf st hg
    subst hP hw hK
    obtain ⟨f0, f1, f2, f3, f4, f5⟩ := hf it (by simp)
    exact wpAny_pyNext_range_end (I.ok.hd hc) st (by have : n ≤ i := hg; omega) fun h' eb => ⟨rfl, I.turned (t' := s.toks) (fun b o hb e => eb b o hb e) f0 f1 f3 f4 f5⟩
  self := fun _ _ _ _ _ st h => wpAny_pyIter_rangeiter st h
end L2

namespace L2
open PySem PySem.Spec PyProof.Rows
section
variable {X : Cx} {tg : Expr}
/-- a range object just made, walked -/
theorem range_it {pins : List (Addr × Obj)} {σ : St} {H : Hp} {s : Shared} {R : It → Hp → Prop} {E : Value → Shared → Prop} {lo hi : Int} {t u v : Tok} {tk : Nat} (I : Inv X pins σ H s) (h1 : -(2 ^ 62) ≤ lo) (h2 : lo < 2 ^ 62) (h3 : -(2 ^ 62) ≤ hi) (h4 : hi < 2 ^ 62)
    (q : R (Itr lo (hi - lo).toNat) H) : wpAny (model X.prog X.w) X.A (pyIter (.ref s.heap.objs.size)) (PIE X pins σ tg R) E { s with heap := s.heap.push { cls := .type "range", data := .fields #[.int lo t, .int hi u, .int 1 v] }, toks := tk } := by
  refine wpAny_pyIter_range (IsRange.new ..) (small_one h1 h2 h3 h4) ?_
  have I1 : Inv X pins σ H { s with heap := s.heap.push { cls := .type "range", data := .fields #[.int lo t, .int hi u, .int 1 v] }, toks := tk } := I.kept fun b o e => Heap.get?_push_of_some _ e
  refine ⟨(s.heap.push { cls := .type "range", data := .fields #[.int lo t, .int hi u, .int 1 v] }).objs.size, [(s.heap.push { cls := .type "range", data := .fields #[.int lo t, .int hi u, .int 1 v] }).objs.size], _, _, H, rfl,
    I1.kept (t' := tk) fun b o e => Heap.get?_push_of_some _ e, turn_range _ lo (hi - lo).toNat, ?_, fun b hb => ?_, q⟩
  · have e1 : lo + ((0 : Nat) : Int) * 1 = lo := by simp
    have e2 : (((hi - lo).toNat : Nat) : Int) - ((0 : Nat) : Int) = Builtin.Range.rangeSize lo hi 1 := by rw [rangeSize_one]; split <;> omega
    show IsRangeIter _ _ (lo + ((0 : Nat) : Int) * 1) ((((hi - lo).toNat : Nat) : Int) - ((0 : Nat) : Int)) 1
    rw [e1, e2]
    exact Heap.get?_push_size _ rfl
  · have e : b = (s.heap.push { cls := .type "range", data := .fields #[.int lo t, .int hi u, .int 1 v] }).objs.size := by simpa using hb
    subst e
    exact I1.fpOk (Nat.le_refl _) (I1.hok.fresh (Nat.le_refl _))
def iRng1 (ta : TA) : TI := fun σ H R => ta σ H fun vs H1 => ∃ j : Int, vs = [.int j] ∧ -(2 ^ 62) ≤ j ∧ j < 2 ^ 62 ∧ R (Itr 0 j.toNat) H1
theorem pi_range1 {a : Expr} {ta : TA} {p pos : Pos} (hg : Gl X "range") (hm : X.mg "range" = none) (ha : PA X [a] ta) (hs : starEach [a] X.env = [(false, eval a X.env)] := by rfl) : PI X tg (.Call (.Name "range" p) [a] [] pos) (iRng1 ta) := by
  intro pins s σ H R I h
  refine Call_ (ld_blt I hg hm boot_range (PyProof.Rows.callWith_type1 (thn (ha pos pins s σ H _ I h) fun us s1 ⟨vs, H1, I1, r1, q1⟩ => ?_) hs rfl))
  obtain ⟨j, e, q1, q2, q⟩ := q1
  subst e
  cases r1 with
  | cons r rr =>
    cases rr
    obtain ⟨t, rfl⟩ := r
    exact call_range_1 (range_it I1 (by omega) (by omega) q1 q2 (by simpa using q))
/-! ### for -/
/-- W: the invariant by the turn and a measure; N: what the body is to reach -/
def tFor (wi : TI) (g : TG) (tb : TS) : TS := fun D σ H => wi σ H fun J H1 => ∃ W : Nat → Nat → St → Hp → Prop, (∃ m, W 0 m σ H1) ∧ ∀ i m σ H, W i m σ H →
  (J.stop i H ∧ D.nx σ H) ∨ (J.go i H ∧ ∃ N : St → Hp → Prop, (∀ σ' H', N σ' H' → ∃ m', m' < m ∧ W (i + 1) m' σ' H') ∧ ∀ x H', J.yld i H x H' → g x σ H' fun σ2 H2 => tb { D with nx := N, ct := N, bk := D.nx } σ2 H2)
/-- the records at fp as they stand -/
def pinsAt (fp : List Addr) (h : Heap) : List (Addr × Obj) := fp.filterMap fun b => (h.get? b).map fun o => (b, o)
theorem mem_pinsAt {fp : List Addr} {h : Heap} {b : Addr} {o : Obj} (hb : b ∈ fp) (e : h.get? b = some o) : (b, o) ∈ pinsAt fp h := List.mem_filterMap.mpr ⟨b, hb, by rw [e]; rfl⟩
theorem of_pinsAt {fp : List Addr} {h : Heap} {p : Addr × Obj} (hp : p ∈ pinsAt fp h) : p.1 ∈ fp ∧ h.get? p.1 = some p.2 := by
  obtain ⟨b, hb, e⟩ := List.mem_filterMap.mp hp
  cases q : h.get? b with
  | none => rw [q] at e; cases e
  | some o =>
    rw [q] at e
    have e' : (b, o) = p := Option.some.inj e
    subst e'
    exact ⟨hb, q⟩
theorem Inv.pinned {pins : List (Addr × Obj)} {σ : St} {H : Hp} {s : Shared} {fp : List Addr} (I : Inv X pins σ H s) (hf : ∀ b ∈ fp, FpOk X pins H b) (ho : ∀ b ∈ fp, ∃ o, s.heap.get? b = some o ∧ ∀ v, o.data ≠ .cell v) : Inv X (pins ++ pinsAt fp s.heap) σ H s :=
  I.pins_of fun p hp => (List.mem_append.mp hp).elim (fun z => I.pin p (List.mem_append_right _ z)) fun z => by
    obtain ⟨hb, e⟩ := of_pinsAt z
    obtain ⟨f0, f1, f2, _⟩ := hf p.1 hb
    obtain ⟨o, e', d⟩ := ho p.1 hb
    rw [e] at e'; cases e'
    exact ⟨e, f0, f1, f2, d⟩
theorem Inv.unpinned {pins pl : List (Addr × Obj)} {σ : St} {H : Hp} {s : Shared} (I : Inv X (pins ++ pl) σ H s) : Inv X pins σ H s := I.pins_of fun p hp => I.pin p (List.mem_append_right _ (List.mem_append_left _ hp))
theorem ps_for {iter : Expr} {body : List Stmt} {wi : TI} {g : TG} {tb : TS} {pos : Pos} (hp : PassesOwn (model X.prog X.w) X.A X.env X.xe) (hc : X.calm = true) (hi : PI X tg iter wi) (hg : PG X tg g) (hb : PSs X body tb)
    (hs : ∀ x, foldedSetIterable iter X.env x = pure x := by intro _; rfl) : PS X (.For tg iter body [] pos) (tFor wi g tb) := by
  intro pins s σ H D I h
  refine wpAny_For (thn (hi pins s σ H _ I h) fun v s1 h1 => thn h1 fun itv s2 h2 => ?_) hs
  obtain ⟨it, fp, tn, J, H2, e, I2, T, st2, f2, W, ⟨m0, w0⟩, turn⟩ := h2
  subst e
  -- what stays true of the iterator's objects through the loop
  have stat : ∀ {H' : Hp}, (∀ b ∈ fp, H' b = none) → ∀ b ∈ fp, FpOk X pins H' b := fun hn b hb => ⟨hn b hb, (f2 b hb).2⟩
  refine codeAny_forLoop_any (fun n s' => ∃ i σ' H', Inv X pins σ' H' s' ∧ tn i s'.heap ∧ (∀ b ∈ fp, H' b = none) ∧ W i n σ' H') ?_ m0 ⟨0, σ, H2, I2, st2, fun b hb => (f2 b hb).1, w0⟩
  rintro n s3 ⟨i, σ3, H3, I3, st3, fr3, w3⟩
  rcases turn i n σ3 H3 w3 with ⟨stop, qn⟩ | ⟨go, N, hN, step⟩
  · refine wpAny_passesOwn hp (thn (T.done X rfl rfl rfl hc i pins s3 σ3 H3 X.xe I3 (stat fr3) st3 stop) fun r s4 ⟨hr, I4⟩ => ?_)
    subst hr
    exact wpAny_execs_nil ⟨σ3, H3, I4, qn⟩
  · refine wpAny_passesOwn hp (thn (T.item X rfl rfl rfl hc i pins s3 σ3 H3 X.xe I3 (stat fr3) st3 go) fun r s4 ⟨u, hr, h4⟩ => ?_)
    subst hr
    refine wpAny_passesOwn hp (thn h4 fun _ s5 ⟨x, H5, I5, r5, y5, st5, fr5⟩ => ?_)
    have I5' := I5.pinned (stat fr5) (T.obj _ _ st5)
    refine wpAny_passesOwn hp (thn (hg _ s5 σ3 H5 x u _ I5' r5 (step x H5 y5)) fun _ s6 ⟨σ6, H6, I6, q6⟩ => ?_)
    refine wpAny_passesOwn hp (thn (hb _ s6 σ6 H6 _ I6 q6) fun f s7 q7 => ?_)
    have again : ∀ {σ7 : St} {H7 : Hp}, Inv X (pins ++ pinsAt fp s5.heap) σ7 H7 s7 → N σ7 H7 → ∃ m, m < n ∧ ∃ i σ' H', Inv X pins σ' H' s7 ∧ tn i s7.heap ∧ (∀ b ∈ fp, H' b = none) ∧ W i m σ' H' := fun {σ7 H7} I7 n7 => by
      obtain ⟨m', hm, w7⟩ := hN σ7 H7 n7
      refine ⟨m', hm, i + 1, σ7, H7, I7.unpinned, T.keep _ _ _ st5 fun b hb o e => (I7.pin (b, o) (List.mem_append_right _ (List.mem_append_right _ (mem_pinsAt hb e)))).1, fun b hb => ?_, w7⟩
      obtain ⟨o, e, d⟩ := T.obj _ _ st5 b hb
      exact (I7.pin (b, o) (List.mem_append_right _ (List.mem_append_right _ (mem_pinsAt hb e)))).2.1
    cases f with
    | next => obtain ⟨σ7, H7, I7, n7⟩ := q7; exact again I7 n7
    | cont => obtain ⟨σ7, H7, I7, n7⟩ := q7; exact again I7 n7
    | brk => obtain ⟨σ7, H7, I7, q7⟩ := q7; exact ⟨σ7, H7, I7.unpinned, q7⟩
    | ret v => obtain ⟨x7, σ7, H7, I7, r7, q7⟩ := q7; exact ⟨x7, σ7, H7, I7.unpinned, r7, q7⟩
end

/-! ### the forms one uses -/
end L2

namespace L2
open PySem PySem.Spec PyProof.Rows

abbrev R2 := V → V → Hp → VK → Prop
/-- a two-place operation on values: f is binaryOp op, inplaceOp op or compareOp op -/
def OpR (X : Cx) (f : Value → Value → Sem Value) (r : R2) : Prop :=
  ∀ (pins : List (Addr × Obj)) (s : Shared) (σ : St) (H : Hp) (x y : V) (v u : Value) (Q : VK), Inv X pins σ H s → RelV x v → RelV y u → r x y H Q →
    wpAny (model X.prog X.w) X.A (f v u) (EP X pins σ Q) X.xe s
/-- a call of a value that is known (a builtin, a type) with values -/
def CallR (X : Cx) (f : Value) (r : List V → Hp → VK → Prop) : Prop :=
  ∀ (pins : List (Addr × Obj)) (s : Shared) (σ : St) (H : Hp) (xs : List V) (us : List Value) (Q : VK), Inv X pins σ H s → Vals xs us → r xs H Q →
    wpAny (model X.prog X.w) X.A (call f us) (EP X pins σ Q) X.xe s
def tOp (r : R2) (ta tb : TE) : TE := fun σ H Q => ta σ H fun x H1 => tb σ H1 fun y H2 => r x y H2 Q
/-- ints in, under C, and a value out -/
def rI (C : Int → Int → Prop) (g : Int → Int → V) : R2 := fun x y H Q => ∃ i j, x = .int i ∧ y = .int j ∧ C i j ∧ Q (g i j) H
def rI0 (g : Int → Int → V) : R2 := fun x y H Q => ∃ i j, x = .int i ∧ y = .int j ∧ Q (g i j) H
section
variable {X : Cx} {a b c : Expr} {ta tb tc : TE} {pos : Pos}

theorem binT (ha : PE X a ta) (hb : PE X b tb) {pins : List (Addr × Obj)} {s : Shared} {σ : St} {H : Hp} {R : V → V → Hp → Prop} (I : Inv X pins σ H s)
    (h : ta σ H fun x H1 => tb σ H1 fun y H2 => R x y H2) {Q : Value → Shared → Prop} {f : Value → Value → Sem Value}
    (hf : ∀ v u s2 x y H2, Inv X pins σ H2 s2 → RelV x v → RelV y u → R x y H2 → wpAny (model X.prog X.w) X.A (f v u) Q X.xe s2) :
    wpAny (model X.prog X.w) X.A (eval a X.env) (fun v s₁ => wpAny (model X.prog X.w) X.A (eval b X.env) (fun u s₂ => wpAny (model X.prog X.w) X.A (f v u) Q X.xe s₂) X.xe s₁) X.xe s := by
  refine thn (ha pins s σ H _ I h) fun v s1 ⟨x, H1, I1, r1, q1⟩ => ?_
  refine thn (hb pins s1 σ H1 _ I1 q1) fun u s2 ⟨y, H2, I2, r2, q2⟩ => ?_
  exact hf v u s2 x y H2 I2 r1 r2 q2

theorem pe_op {op : Operator} {r : R2} (ho : OpR X (binaryOp op) r) (ha : PE X a ta) (hb : PE X b tb) : PE X (.BinOp a op b pos) (tOp r ta tb) := by
  intro pins s σ H Q I h
  exact wpAny_BinOp (binT ha hb I h fun v u s2 x y H2 I2 rx ry q => ho pins s2 σ H2 x y v u Q I2 rx ry q)
/-! ### ints -/
theorem opI {f : Value → Value → Sem Value} {C : Int → Int → Prop} {g : Int → Int → Int}
    (rule : ∀ (i j : Int) (t u : Tok) (s : Shared) (Q : Value → Shared → Prop) (E : Value → Shared → Prop), C i j → Q (.int (g i j) s.toks) { s with toks := s.toks + 1 } → wpAny (model X.prog X.w) X.A (f (.int i t) (.int j u)) Q E s) :
    OpR X f (rI C fun i j => .int (g i j)) := by
  intro pins s σ H x y v u Q I rx ry h
  obtain ⟨i, j, rfl, rfl, hc, q⟩ := h
  obtain ⟨t, rfl⟩ := rx
  obtain ⟨t', rfl⟩ := ry
  exact rule i j t t' s _ _ hc ⟨.int (g i j), H, I.tok _, ⟨_, rfl⟩, q⟩
theorem opI0 {f : Value → Value → Sem Value} {g : Int → Int → Int}
    (rule : ∀ (i j : Int) (t u : Tok) (s : Shared) (Q : Value → Shared → Prop) (E : Value → Shared → Prop), Q (.int (g i j) s.toks) { s with toks := s.toks + 1 } → wpAny (model X.prog X.w) X.A (f (.int i t) (.int j u)) Q E s) :
    OpR X f (rI0 fun i j => .int (g i j)) := by
  intro pins s σ H x y v u Q I rx ry h
  obtain ⟨i, j, rfl, rfl, q⟩ := h
  obtain ⟨t, rfl⟩ := rx
  obtain ⟨t', rfl⟩ := ry
  exact rule i j t t' s _ _ ⟨.int (g i j), H, I.tok _, ⟨_, rfl⟩, q⟩
theorem opB0 {f : Value → Value → Sem Value} {g : Int → Int → Bool}
    (rule : ∀ (i j : Int) (t u : Tok) (s : Shared) (Q : Value → Shared → Prop) (E : Value → Shared → Prop), Q (.bool (g i j)) s → wpAny (model X.prog X.w) X.A (f (.int i t) (.int j u)) Q E s) :
    OpR X f (rI0 fun i j => .bl (g i j)) := by
  intro pins s σ H x y v u Q I rx ry h
  obtain ⟨i, j, rfl, rfl, q⟩ := h
  obtain ⟨t, rfl⟩ := rx
  obtain ⟨t', rfl⟩ := ry
  exact rule i j t t' s _ _ ⟨.bl (g i j), H, I, rfl, q⟩

def CPow (i j : Int) : Prop := 0 ≤ j ∧ j ≤ 1000000 ∧ i.natAbs < 2 ^ 64
def CMul (i j : Int) : Prop := (-(2 ^ 64) < i ∧ i < 2 ^ 64) ∨ (-(2 ^ 64) < j ∧ j < 2 ^ 64)
theorem CMul.ok {i j : Int} (h : CMul i j) : IntMulOk i j := by
  rcases h with ⟨h1, h2⟩ | ⟨h1, h2⟩
  · exact .of_left (intBits_le_64 h1 h2)
  · exact .of_right (intBits_le_64 h1 h2)
theorem op_add : OpR X (binaryOp .Add) (rI0 fun i j => .int (i + j)) := opI0 fun _ _ _ _ _ _ _ q => add_int q
/-- % by a positive divisor of any size -/
theorem op_mod : OpR X (binaryOp .Mod) (rI (fun _ j => 0 < j) fun i j => .int (i % j)) := opI fun i j _ _ _ _ _ hc q => by
  have h1 : (0 : Int) < j := hc
  exact mod_int' (by omega) (by rw [Int.fmod_eq_emod_of_nonneg i (by omega)]; exact q)
theorem op_pow : OpR X (binaryOp .Pow) (rI CPow fun i j => .int (i ^ j.toNat)) := opI fun _ _ _ _ _ _ _ hc q => pow_int_small hc.1 hc.2.1 hc.2.2 q
/-! ### bools among ints: n += (a < b) -/
end

/-! ### comparisons -/
/-- the scalars that == tells apart as data does -/
def scal : V → V → Bool
  | .non, .non => true | .non, .int _ => true | .int _, .non => true | .non, .bl _ => true | .bl _, .non => true | .non, .str _ => true | .str _, .non => true
  | .int _, .int _ => true | .bl _, .bl _ => true | .str _, .str _ => true | .byt _, .byt _ => true
  | .int _, .str _ => true | .str _, .int _ => true | .bl _, .str _ => true | .str _, .bl _ => true
  | _, _ => false
def rEq : R2 := fun x y H Q => scal x y = true ∧ Q (.bl (decide (x = y))) H
def rNe : R2 := fun x y H Q => scal x y = true ∧ Q (.bl (!decide (x = y))) H

theorem dec_int {i j : Int} : decide (V.int i = V.int j) = (i == j) := by
  rw [Bool.eq_iff_iff]
  simp
theorem dec_bl {i j : Bool} : decide (V.bl i = V.bl j) = (i == j) := by
  rw [Bool.eq_iff_iff]
  simp
theorem dec_str {i j : Str} : decide (V.str i = V.str j) = (i == j) := by
  rw [Bool.eq_iff_iff]
  simp
theorem dec_byt {i j : Array UInt8} : decide (V.byt i = V.byt j) = (i.toList == j.toList) := by
  rw [Bool.eq_iff_iff]
  cases i
  cases j
  simp

section
variable {X : Cx} {a b c : Expr} {ta tb tc : TE} {pos : Pos}
theorem fin_bl {pins : List (Addr × Obj)} {σ : St} {H : Hp} {s : Shared} {Q : VK} {k k' : Bool} (I : Inv X pins σ H s) (q : Q (.bl k) H) (e : k = k') : EP X pins σ Q (.bool k') s := by
  subst e
  exact ⟨.bl k, H, I, rfl, q⟩
theorem op_eq : OpR X (compareOp .Eq) rEq := by
  intro pins s σ H x y v u Q I rx ry h
  obtain ⟨hs, q⟩ := h
  cases x with
  | non =>
    cases rx
    cases y with
    | non => cases ry; exact PySem.EqNone.eq_none_none (fin_bl I q (by simp))
    | bl j => cases ry; exact PySem.EqNone.eq_none_bool (fin_bl I q (by simp))
    | int j => obtain ⟨t', rfl⟩ := ry; exact PySem.EqNone.eq_none_int (fin_bl I q (by simp))
    | str j => obtain ⟨t', rfl⟩ := ry; exact PySem.EqNone.eq_none_str (fin_bl I q (by simp))
    | _ => exact absurd (show false = true from hs) Bool.false_ne_true
  | bl i =>
    cases rx
    cases y with
    | non => cases ry; exact PySem.EqNone.eq_bool_none (fin_bl I q (by simp))
    | bl j => cases ry; exact eq_bool (fin_bl I q dec_bl)
    | str j => obtain ⟨t', rfl⟩ := ry; exact PySem.EqMixed.eq_bool_str (fin_bl I q (by simp))
    | _ => exact absurd (show false = true from hs) Bool.false_ne_true
  | int i =>
    obtain ⟨t, rfl⟩ := rx
    cases y with
    | non => cases ry; exact PySem.EqNone.eq_int_none (fin_bl I q (by simp))
    | int j => obtain ⟨t', rfl⟩ := ry; exact eq_int (fin_bl I q dec_int)
    | str j => obtain ⟨t', rfl⟩ := ry; exact PySem.EqMixed.eq_int_str (fin_bl I q (by simp))
    | _ => exact absurd (show false = true from hs) Bool.false_ne_true
  | str i =>
    obtain ⟨t, rfl⟩ := rx
    cases y with
    | non => cases ry; exact PySem.EqNone.eq_str_none (fin_bl I q (by simp))
    | bl j => cases ry; exact PySem.EqMixed.eq_str_bool (fin_bl I q (by simp))
    | int j => obtain ⟨t', rfl⟩ := ry; exact PySem.EqMixed.eq_str_int (fin_bl I q (by simp))
    | str j => obtain ⟨t', rfl⟩ := ry; exact eq_str (fin_bl I q dec_str)
    | _ => exact absurd (show false = true from hs) Bool.false_ne_true
  | byt i =>
    obtain ⟨t, rfl⟩ := rx
    cases y with
    | byt j => obtain ⟨t', rfl⟩ := ry; exact PySem.W.eq_bytes (fin_bl I q dec_byt)
    | _ => exact absurd (show false = true from hs) Bool.false_ne_true
  | _ => cases y <;> exact absurd (show false = true from hs) Bool.false_ne_true
theorem op_ne : OpR X (compareOp .NotEq) rNe := by
  intro pins s σ H x y v u Q I rx ry h
  obtain ⟨hs, q⟩ := h
  cases x with
  | non =>
    cases rx
    cases y with
    | non => cases ry; exact PySem.EqNone.ne_none_none (fin_bl I q (by simp))
    | bl j => cases ry; exact PySem.EqNone.ne_none_bool (fin_bl I q (by simp))
    | int j => obtain ⟨t', rfl⟩ := ry; exact PySem.EqNone.ne_none_int (fin_bl I q (by simp))
    | str j => obtain ⟨t', rfl⟩ := ry; exact PySem.EqNone.ne_none_str (fin_bl I q (by simp))
    | _ => exact absurd (show false = true from hs) Bool.false_ne_true
  | bl i =>
    cases rx
    cases y with
    | non => cases ry; exact PySem.EqNone.ne_bool_none (fin_bl I q (by simp))
    | bl j => cases ry; exact ne_bool (fin_bl I q (congrArg not dec_bl))
    | str j => obtain ⟨t', rfl⟩ := ry; exact PySem.EqMixed.ne_bool_str (fin_bl I q (by simp))
    | _ => exact absurd (show false = true from hs) Bool.false_ne_true
  | int i =>
    obtain ⟨t, rfl⟩ := rx
    cases y with
    | non => cases ry; exact PySem.EqNone.ne_int_none (fin_bl I q (by simp))
    | int j => obtain ⟨t', rfl⟩ := ry; exact ne_int (fin_bl I q (congrArg not dec_int))
    | str j => obtain ⟨t', rfl⟩ := ry; exact PySem.EqMixed.ne_int_str (fin_bl I q (by simp))
    | _ => exact absurd (show false = true from hs) Bool.false_ne_true
  | str i =>
    obtain ⟨t, rfl⟩ := rx
    cases y with
    | non => cases ry; exact PySem.EqNone.ne_str_none (fin_bl I q (by simp))
    | bl j => cases ry; exact PySem.EqMixed.ne_str_bool (fin_bl I q (by simp))
    | int j => obtain ⟨t', rfl⟩ := ry; exact PySem.EqMixed.ne_str_int (fin_bl I q (by simp))
    | str j => obtain ⟨t', rfl⟩ := ry; exact ne_str (fin_bl I q (congrArg not dec_str))
    | _ => exact absurd (show false = true from hs) Bool.false_ne_true
  | byt i =>
    obtain ⟨t, rfl⟩ := rx
    cases y with
    | byt j => obtain ⟨t', rfl⟩ := ry; exact PySem.W.ne_bytes (fin_bl I q (congrArg not dec_byt))
    | _ => exact absurd (show false = true from hs) Bool.false_ne_true
  | _ => cases y <;> exact absurd (show false = true from hs) Bool.false_ne_true

theorem op_lt : OpR X (compareOp .Lt) (rI0 fun i j => .bl (decide (i < j))) := opB0 fun _ _ _ _ _ _ _ q => lt_int q
theorem op_lt_str : OpR X (compareOp .Lt) (fun x y H Q => ∃ i j, x = .str i ∧ y = .str j ∧ Q (.bl (decide (i.cps.toList < j.cps.toList))) H) := by
  intro pins s σ H x y v u Q I rx ry h
  obtain ⟨i, j, rfl, rfl, q⟩ := h
  obtain ⟨t, rfl⟩ := rx
  obtain ⟨t', rfl⟩ := ry
  exact lt_str (fin_bl I q rfl)
theorem nomark (b : Expr) {op : CmpOp} (h : op ≠ .In := by decide) (h2 : op ≠ .NotIn := by decide) : behindInMarks op b = false := by
  have e1 : (op == CmpOp.In) = false := by cases op <;> first | rfl | exact absurd rfl h
  have e2 : (op == CmpOp.NotIn) = false := by cases op <;> first | rfl | exact absurd rfl h2
  cases b <;> simp [behindInMarks, e1, e2]
/-- a comparison as a value; hm: nomark b, or (for in, not in) by with_unfolding_all rfl -/
theorem pe_cmpR {op : CmpOp} {r : R2} (ho : OpR X (compareOp op) r) (ha : PE X a ta) (hb : PE X b tb) (hm : behindInMarks op b = false) : PE X (.Compare a [op] [b] pos) (tOp r ta tb) := by
  intro pins s σ H Q I h
  exact wpAny_Compare1 (binT ha hb I h fun v u s2 x y H2 I2 rx ry q => ho pins s2 σ H2 x y v u Q I2 rx ry q) hm
/-- a reading of a value as a test -/
def tTest (t : TE) : TT := fun σ H Q => t σ H fun x H' => ∃ k, x = .bl k ∧ Q k H'
theorem pt_cmpR {op : CmpOp} {r : R2} (ho : OpR X (compareOp op) r) (ha : PE X a ta) (hb : PE X b tb) (hm : behindInMarks op b = false) : PT X (.Compare a [op] [b] pos) (tTest (tOp r ta tb)) := by
  intro pins s σ H Q I h
  refine wpAny_isTrue_Compare1 (thn (ha pins s σ H _ I h) fun v s1 ⟨x, H1, I1, r1, q1⟩ => thn (hb pins s1 σ H1 _ I1 q1) fun u s2 ⟨y, H2, I2, r2, q2⟩ =>
    thn (ho pins s2 σ H2 x y v u _ I2 r1 r2 q2) fun c s3 ⟨z, H3, I3, r3, k, e, q3⟩ => ?_) hm
  subst e
  cases r3
  exact wpAny_truthy_bool ⟨H3, I3, q3⟩
/-! ### truth -/
theorem line63 : (sizeLine : Nat) < 2 ^ 63 := by rw [sizeLine_eq]; decide
/-! ### strs and bytes -/
theorem op_add_str : OpR X (binaryOp .Add) (fun x y H Q => ∃ i j, x = .str i ∧ y = .str j ∧ i.length + j.length ≤ sizeLine ∧ Q (.str (i ++ j)) H) := by
  intro pins s σ H x y v u Q I rx ry h
  obtain ⟨i, j, rfl, rfl, hz, q⟩ := h
  obtain ⟨t, rfl⟩ := rx
  obtain ⟨t', rfl⟩ := ry
  exact add_str (fun t' tk => ⟨.str (i ++ j), H, I.tok _, ⟨_, rfl⟩, q⟩) hz
/-! ### scalar builtins, by CallR -/
theorem vals1 {x : V} {us : List Value} (r : Vals [x] us) : ∃ u, us = [u] ∧ RelV x u := by
  cases r with
  | cons r1 r2 => cases r2; exact ⟨_, rfl, r1⟩
theorem vals2 {x y : V} {us : List Value} (r : Vals [x, y] us) : ∃ u w', us = [u, w'] ∧ RelV x u ∧ RelV y w' := by
  cases r with
  | cons r1 r2 =>
    cases r2 with
    | cons r3 r4 => cases r4; exact ⟨_, _, rfl, r1, r3⟩
end
end L2

namespace L2
open PySem PySem.Spec PyProof.Rows

/-! ### an instance, its attributes a map -/
structure ObjM (h : Heap) (x dx C : Addr) (mA : Str → Option Value) : Prop where
  obj : h.get? x = some (PySem.W.instObj C dx)
  ns : h.Ns1 dx mA
  ne : dx ≠ x

theorem lookIn_ns {h : Heap} {dx : Addr} {mA : Str → Option Value} (n : h.Ns1 dx mA) : ∃ od, h.get? dx = some od ∧ ∀ name, PySem.W.lookIn name od = some (mA name) := by
  obtain ⟨o, es, ep, ho, hd, hk, _, hm⟩ := n
  refine ⟨o, ho, fun name => ?_⟩
  have e := hm name
  unfold nsFind findBy at e
  rw [← Array.find?_toList] at e
  unfold PySem.W.lookIn
  rw [hd]
  dsimp only
  split
  · rename_i y q
    rw [q] at e
    exact congrArg some e
  · rename_i q
    rw [q] at e
    have a : es.toList.any (·.refKey) = false := by
      rw [List.any_eq_false]
      intro y hy
      obtain ⟨z, t, hkey⟩ := hk y (Array.mem_toList_iff.mp hy)
      simp [DictEntry.refKey, hkey]
    have a' : ¬ es.toList.any (·.refKey) = true := by rw [a]; exact Bool.false_ne_true
    rw [if_neg a']
    exact congrArg some e

theorem ObjM.look {h : Heap} {x dx C : Addr} {mA : Str → Option Value} (I : ObjM h x dx C mA) : ∃ od, PySem.W.InstAt h x (PySem.W.instObj C dx) C (some od) ∧ ∀ name, PySem.W.lookIn name od = some (mA name) :=
  let ⟨od, ho, hl⟩ := lookIn_ns I.ns
  ⟨od, ⟨I.obj, rfl, rfl, ho⟩, hl⟩

section
variable {prog : Program} {w : World} {A : Around} {E : Value → Shared → Prop} {s : Shared} {K : PySem.W.Frag} {x dx C f : Addr} {mA : Str → Option Value} {name : Str} {v : Value}

end

/-! ### the attributes as a list of pairs -/
theorem RelO.some_of {v : V} {o : Option Value} (r : RelO (some v) o) : ∃ u, o = some u ∧ RelV v u := by
  cases o with
  | none => exact (show False from r).elim
  | some u => exact ⟨u, rfl, r⟩
theorem handed_of {v : V} {u : Value} (r : RelV v u) : PySem.W.handedIn u = true := by
  cases v with
  | non => cases (show u = Value.none from r); rfl
  | bl b => cases (show u = Value.bool b from r); rfl
  | int i => obtain ⟨t, e⟩ := (show ∃ t, u = Value.int i t from r); cases e; rfl
  | str x => obtain ⟨t, e⟩ := (show ∃ t, u = Value.str x t from r); cases e; rfl
  | byt b => obtain ⟨t, e⟩ := (show ∃ t, u = Value.bytes b t from r); cases e; rfl
  | flt b => obtain ⟨t, e⟩ := (show ∃ t, u = Value.float b t from r); cases e; rfl
  | ref a => cases (show u = Value.ref a from r); rfl
  | ty n => cases (show u = Value.type n from r); rfl

section
variable {P : Program} {w : World} {H H' : Hp} {h h' : Heap} {a C dx : Addr} {fs fs' : List (Str × V)}
theorem ins_get (hok : HOk P w H h) (e : H a = some (.ins C dx fs)) : ∃ mA, ObjM h a dx C mA ∧ (∀ f, RelO (fs.lookup f) (mA f)) ∧ PySem.Within mA (fs.map (·.1)) ∧ fs.length ≤ 1000 ∧ H dx = some (.own a) := by
  obtain ⟨d, z, ne, ob, mA, n, r, q⟩ := (show ObjOk P w H h a (.ins C dx fs) from hok a _ e)
  exact ⟨mA, ⟨ob, n, ne⟩, r, q, z, d⟩
end

/-! ### what of the text a class must have -/
structure Cls (K : PySem.W.Frag) (C : Addr) : Prop where
  pg : PySem.W.plainGet K C Str.empty = true
  hd : PySem.W.hasDictIn K C = true
  po : PySem.W.plainOver K C = true
  sa : PySem.W.findIn K (.ref C) "__setattr__" = some (some (.builtin "object.__setattr__"))
theorem Cls.get {K : PySem.W.Frag} {C : Addr} (c : Cls K C) (f : Str) : PySem.W.plainGet K C f = true := c.pg
/-- no class of it has the name -/
def NoAttr (K : PySem.W.Frag) (C : Addr) (f : Str) : Prop := PySem.W.findIn K (.ref C) f = some none
theorem NoAttr.taker {K : PySem.W.Frag} {C : Addr} {f : Str} (n : NoAttr K C f) : PySem.W.takerIn K C f = some none := by
  unfold PySem.W.takerIn
  rw [show PySem.W.findIn K (.ref C) f = some none from n]
  rfl
/-- a constant of the class -/
structure Con (K : PySem.W.Frag) (C : Addr) (f : Str) (v : V) (u : Value) : Prop where
  at_ : PySem.W.findIn K (.ref C) f = some (some u)
  rel : RelV v u
  get : PySem.W.specialIn K u "__get__" = some none
  cp : PySem.W.copiedNames.contains f = false
/-- a method: a plain def of the class or of one above it -/
structure Meth (K : PySem.W.Frag) (C : Addr) (m : Str) (f : Addr) : Prop where
  at_ : PySem.W.findIn K (.ref C) m = some (some (.ref f))
  fn : PySem.W.isFn K (.ref f) = true
  kp : PySem.W.keepIn K (.ref f) = true

section
variable {X : Cx} {pins : List (Addr × Obj)} {σ : St} {H : Hp} {s : Shared} {a C dx : Addr} {fs : List (Str × V)} {f : Str} {v : V} {A : Around} {E : Value → Shared → Prop}

/-- e.f where nothing but the object is asked: through attributeBase (super) and the last hold -/
theorem attr_of {prog : Program} {w : World} {env : Env} {e : Expr} {f : Str} {pos : Pos} {s : Shared} {Q : Value → Shared → Prop} (hb : attributeBase e f env (eval e env) = eval e env)
    (h : wpAny (model prog w) A (eval e env) (fun o s₁ => wpAny (model prog w) A (getAttr o f true) Q E s₁) E s) : wpAny (model prog w) A (eval (.Attribute e f pos) env) Q E s :=
  Attribute_any_ h (by rw [arm_eval_Attribute, hb])
end

/-! ### readings and rules -/
section
variable {X : Cx} {o e value : Expr} {f : Str} {pos pos' tpos : Pos} {ta tv : TE}
end

/-! ### isinstance -/
section
variable {X : Cx} {pins : List (Addr × Obj)} {σ : St} {H : Hp} {s : Shared} {A : Around} {E : Value → Shared → Prop} {Q : Value → Shared → Prop} {c : Value} {b : Bool}
/-- the type of a value, as the fragment's deciders take it; for an instance its class -/
inductive TyOf (K : PySem.W.Frag) (H : Hp) : V → Value → Prop where
  | non : TyOf K H .non (.type "NoneType")
  | bl (x : Bool) : TyOf K H (.bl x) (.type "bool")
  | int (i : Int) : TyOf K H (.int i) (.type "int")
  | str (x : Str) : TyOf K H (.str x) (.type "str")
  | flt (x : UInt64) : TyOf K H (.flt x) (.type "float")
  | lst {a : Addr} {xs : List V} (e : H a = some (.lst xs)) : TyOf K H (.ref a) (.type "list")
  | frz {a : Addr} {o : Obj} {xs : List V} (e : H a = some (.frz o (.lst xs))) : TyOf K H (.ref a) (.type "list")
  | tup {a : Addr} {xs : List V} (e : H a = some (.tup xs)) : TyOf K H (.ref a) (.type "tuple")
  | dK {a : Addr} {kvs : List (Key × V)} (e : H a = some (.dK kvs)) : TyOf K H (.ref a) (.type "dict")
  | dT {a : Addr} {kvs : List (List Key × V)} (e : H a = some (.dT kvs)) : TyOf K H (.ref a) (.type "dict")
  | ins {a C dx : Addr} {fs : List (Str × V)} (e : H a = some (.ins C dx fs)) (cl : Cls K C) (ha : PySem.W.findIn K (.ref C) "__class__" = some (some (.builtin "object.__class__")))
      (hn : PySem.W.specialIn K (.builtin "object.__class__") "__get__" = some (some (.builtin "getset_descriptor.__get__"))) (htk : PySem.W.takesIn K (.builtin "object.__class__") = some true)
      (hm : PySem.W.mroIn K C (.type "object") = some true) : TyOf K H (.ref a) (.ref C)
/-- isinstance(x, c) for one class c, a built-in or an own one: kitOne's answer -/
theorem isinst_ok {x : V} {u t : Value} (I : Inv X pins σ H s) (rx : RelV x u) (ty : TyOf X.K H x t) (e : PySem.W.kitOne X.K t c = some b) (h : ∀ tk, Q (.bool b) { s with toks := tk }) :
    wpAny (model X.prog X.w) A (call (.builtin "isinstance") [u, c]) Q E s := by
  cases ty with
  | non => cases (show u = Value.none from rx); exact PySem.W.kia_one PySem.W.kitx_none I.kIn True.intro e (fun z => nomatch z) h
  | bl y => cases (show u = Value.bool y from rx); exact PySem.W.kia_one PySem.W.kitx_bool I.kIn True.intro e (fun z => nomatch z) h
  | int i => obtain ⟨t, q⟩ := (show ∃ t, u = Value.int i t from rx); cases q; exact PySem.W.kia_one PySem.W.kitx_int I.kIn True.intro e (fun z => nomatch z) h
  | str y => obtain ⟨t, q⟩ := (show ∃ t, u = Value.str y t from rx); cases q; exact PySem.W.kia_one PySem.W.kitx_str I.kIn True.intro e (fun z => nomatch z) h
  | flt y => obtain ⟨t, q⟩ := (show ∃ t, u = Value.float y t from rx); cases q; exact PySem.W.kia_one PySem.W.kitx_float I.kIn True.intro e (fun z => nomatch z) h
  | @lst a xs ea =>
    cases (show u = Value.ref a from rx)
    obtain ⟨_, _, n, _, h1⟩ := (show ObjOk X.prog X.w H s.heap a (.lst xs) from I.hok a _ ea)
    exact PySem.W.kia_one PySem.W.kitx_list I.kIn ⟨_, h1, rfl⟩ e (fun z => nomatch z) h
  | @frz a ob xs ea =>
    cases (show u = Value.ref a from rx)
    obtain ⟨_, _, _, n, _, h1⟩ := (show ObjOk X.prog X.w H s.heap a (.frz ob (.lst xs)) from I.hok a _ ea)
    exact PySem.W.kia_one PySem.W.kitx_list I.kIn ⟨_, h1, rfl⟩ e (fun z => nomatch z) h
  | @tup a xs ea =>
    cases (show u = Value.ref a from rx)
    obtain ⟨_, _, _, p⟩ := (show ObjOk X.prog X.w H s.heap a (.tup xs) from I.hok a _ ea)
    obtain ⟨o, h1, h2, _⟩ := p
    exact PySem.W.kia_one PySem.W.kitx_tuple I.kIn ⟨o, h1, h2⟩ e (fun z => nomatch z) h
  | @dK a kvs ea =>
    cases (show u = Value.ref a from rx)
    obtain ⟨_, _, vs, _, p⟩ := (show ObjOk X.prog X.w H s.heap a (.dK kvs) from I.hok a _ ea)
    obtain ⟨o, es, ep, h1, h2, _⟩ := p
    exact PySem.W.kia_one PySem.W.kitx_dict I.kIn ⟨o, h1, h2.1⟩ e (fun z => nomatch z) h
  | @dT a kvs ea =>
    cases (show u = Value.ref a from rx)
    obtain ⟨_, _, xs, _, o, es, ep, h1, h2, _⟩ := (show ObjOk X.prog X.w H s.heap a (.dT kvs) from I.hok a _ ea)
    exact PySem.W.kia_one PySem.W.kitx_dict I.kIn ⟨o, h1, h2.1⟩ e (fun z => nomatch z) h
  | @ins a C dx fs ea cl ha hn htk hm =>
    cases (show u = Value.ref a from rx)
    obtain ⟨mA, O, _⟩ := ins_get I.hok ea
    obtain ⟨od, J, _⟩ := O.look
    exact PySem.W.kia_one (PySem.W.kitx_own (cl.get _) cl.hd ha hn htk hm) I.kIn J e (fun z => nomatch z) h
end
end L2

namespace L2
open PySem PySem.Spec PyProof.Rows

/-! ### room -/
structure Room (k : Nat) (A : Around) : Prop where
  hd : A.handled = none
  dp : A.depth + 3 * k + 5 < recursionLimit
  un : A.units + 16 * k + 200 < cLine
theorem Room.mono {j k : Nat} {A : Around} (r : Room k A) (h : j ≤ k) : Room j A := ⟨r.hd, by have := r.dp; omega, by have := r.un; omega⟩
theorem Room.deeper {k : Nat} {A : Around} (r : Room (k + 1) A) (env : Env) : Room k (A.deeper env) :=
  ⟨r.hd, by have := r.dp; show A.depth + 1 + 3 * k + 5 < _; omega, by have := r.un; show A.units + 3 + 16 * k + 200 < _; omega⟩
theorem Room.in1 {k : Nat} {A : Around} (r : Room (k + 1) A) : Room k A.in1 :=
  ⟨r.hd, by have := r.dp; show A.depth + 3 * k + 5 < _; omega, by have := r.un; show A.units + 1 + 16 * k + 200 < _; omega⟩
theorem make_depth {A : Around} {C : Addr} {us : List Value} {kw : List (Str × Value)} : (A.under (.builtin "type.__call__" ⟨.ref C :: us, kw⟩)).depth = A.depth + 1 := by
  first | rfl | simp [Around.under, Code.weight, Code.isCreation, Code.isGuard, Code.isCaller, Code.frames, Code.isFrame, guardIds]
theorem make_units {A : Around} {C : Addr} {us : List Value} {kw : List (Str × Value)} : (A.under (.builtin "type.__call__" ⟨.ref C :: us, kw⟩)).units = A.units + 1 := by
  first | rfl | simp [Around.under, Code.cUnits, Code.frames, Code.isFrame]
theorem Room.make {k : Nat} {A : Around} (r : Room (k + 1) A) (C : Addr) (us : List Value) (kw : List (Str × Value)) : Room k (A.under (.builtin "type.__call__" ⟨.ref C :: us, kw⟩)) :=
  ⟨r.hd, by have := r.dp; rw [make_depth]; omega, by have := r.un; rw [make_units]; omega⟩
theorem Room.depth {k : Nat} {A : Around} (r : Room k A) : A.depth < recursionLimit := by have := r.dp; omega
theorem Room.units {k : Nat} {A : Around} (r : Room k A) : A.units + 64 < cLine := by have := r.un; omega
/-! ### argument lists and displays -/
def tNil : TA := fun _ H Q => Q [] H
def tCons (ta : TE) (tr : TA) : TA := fun σ H Q => ta σ H fun x H1 => tr σ H1 fun xs H2 => Q (x :: xs) H2
section
variable {X : Cx} {e : Expr} {es : List Expr} {te : TE} {t : TA} {pos : Pos}
theorem pa_nil : PA X [] tNil := fun _ _ _ _ H Q I h => Calls.spliced_nil ⟨[], H, I, .nil, h⟩
theorem pa_cons (ha : PE X e te) (hr : PA X es t) (hs : starEach (e :: es) X.env = (false, eval e X.env) :: starEach es X.env := by rfl) : PA X (e :: es) (tCons te t) := by
  intro pos pins s σ H Q I h
  rw [hs]
  show wpAny _ _ (spliced ((false, eval e X.env) :: backTo pos (starEach es X.env))) _ _ s
  refine Calls.spliced_cons (thn (ha pins s σ H _ I h) fun u s1 ⟨x, H1, I1, r1, q1⟩ => ?_)
  exact thn (hr pos pins s1 σ H1 _ I1 q1) fun us s2 ⟨xs, H2, I2, r2, q2⟩ => ⟨x :: xs, H2, I2, .cons r1 r2, q2⟩

def tLst (t : TA) : TE := fun σ H Q => t σ H fun xs H1 => xs.length ≤ sizeLine ∧ ∀ p, H1 p = none → Q (.ref p) (upd H1 p (.lst xs))
theorem pe_lst (h : PA X es t) : PE X (.List es pos) (tLst t) := by
  intro pins s σ H Q I hq
  refine wpAny_List_spliced (thn (h pos pins s σ H _ I hq) fun us s1 ⟨xs, H1, I1, r, z, q⟩ => ⟨by rw [← r.length]; exact z, ?_⟩)
  have hf : H1 s1.heap.objs.size = none := I1.hok.fresh (Nat.le_refl _)
  refine ⟨.ref s1.heap.objs.size, upd H1 s1.heap.objs.size (.lst xs), I1.laid (t' := s1.toks) (fun b u e => Heap.get?_push_of_some _ e) (Nat.le_refl _) ?_, rfl, q _ hf⟩
  exact ⟨z, us, 0, r, Heap.get?_push_size _ rfl⟩
end

/-! ### what a def promises -/
/-- a def's promise: the bound arguments in the parameters' order, the heap, the wanted end, the wanted exception -/
abbrev Sp := List V → Hp → VK → XK → Prop
/-- how an exception lies behind a call (file 08 gives it): the callers' frames, abstract heap and state ahead of the call, the wish, the exception, the state -/
abbrev CXT := List Env → Hp → Shared → XK → Value → Shared → Prop

/-- the state at a call -/
structure Env0 (P : Program) (w : World) (K : PySem.W.Frag) (mg : Str → Option Value) (base : Heap) (A : Around) (outer : List Env) (s : Shared) (H : Hp) : Prop where
  frames : A.frames = some outer
  mod : Mod K mg base
  bs : ∀ b o, base.get? b = some o → s.heap.get? b = some o ∧ H b = none
  bsz : base.objs.size ≤ s.heap.objs.size
  funs : s.heap.FunFrames base outer
  frf : ∀ b ∈ frs outer, H b = none
  hok : HOk P w H s.heap
  bare : AllBare s.gens
/-- a call's end -/
def CE (outer : List Env) (P : Program) (w : World) (H : Hp) (s : Shared) (Q : VK) (u : Value) (s' : Shared) : Prop :=
  ∃ v H', s'.os = s.os ∧ AllBare s'.gens ∧ Un (frs outer) [] H H' s.heap s'.heap ∧ HOk P w H' s'.heap ∧ RelV v u ∧ Q v H'
def CR (CX : CXT) (outer : List Env) (P : Program) (w : World) (H : Hp) (s : Shared) (Q : VK) (E : XK) (r : Result) (s' : Shared) : Prop :=
  match r with
  | .ok (.ret u) => CE outer P w H s Q u s'
  | .ok _ => False
  | .error e => CX outer H s E e s'
structure FnOk (P : Program) (w : World) (K : PySem.W.Frag) (mg : Str → Option Value) (base : Heap) (CX : CXT) (k : Nat) (f : Addr) (fd : FuncData) (ps : List Str) (sp : Sp) : Prop where
  len : ∀ vs H Q E, sp vs H Q E → vs.length = ps.length
  run : ∀ (A : Around) (outer : List Env) (s : Shared) (H : Hp) (args : Args) (us : List Value) (vs : List V) (Q : VK) (E : XK), Room k A → Env0 P w K mg base A outer s H → BindsTo s fd args (ps.zip us) → Vals vs us → sp vs H Q E →
    codeAny (model P w) A (.call (.ref f) args) (CR CX outer P w H s Q E) s
theorem FnOk.mono {P : Program} {w : World} {K : PySem.W.Frag} {mg : Str → Option Value} {base : Heap} {CX : CXT} {j k : Nat} {f : Addr} {fd : FuncData} {ps : List Str} {sp : Sp} (F : FnOk P w K mg base CX j f fd ps sp) (h : j ≤ k) :
    FnOk P w K mg base CX k f fd ps sp := ⟨F.len, fun A outer s H args us vs Q E hr => F.run A outer s H args us vs Q E (hr.mono h)⟩
theorem Env0.make {P : Program} {w : World} {K : PySem.W.Frag} {mg : Str → Option Value} {base : Heap} {A : Around} {outer : List Env} {s : Shared} {H : Hp} (e : Env0 P w K mg base A outer s H) (C : Addr) (us : List Value) (kw : List (Str × Value)) :
    Env0 P w K mg base (A.under (.builtin "type.__call__" ⟨.ref C :: us, kw⟩)) outer s H := ⟨by first | exact e.frames | (simpa [Around.under, Code.envs, Code.isFrame, pushEnvs] using e.frames), e.mod, e.bs, e.bsz, e.funs, e.frf, e.hok, e.bare⟩
theorem Env0.in1 {P : Program} {w : World} {K : PySem.W.Frag} {mg : Str → Option Value} {base : Heap} {A : Around} {outer : List Env} {s : Shared} {H : Hp} (e : Env0 P w K mg base A outer s H) :
    Env0 P w K mg base A.in1 outer s H := ⟨e.frames, e.mod, e.bs, e.bsz, e.funs, e.frf, e.hok, e.bare⟩

section
variable {X : Cx} {pins : List (Addr × Obj)} {σ : St} {H : Hp} {s s' : Shared}
/-- from a body: what a callee wants -/
theorem Inv.env0 (I : Inv X pins σ H s) : Env0 X.prog X.w X.K X.mg X.base X.A X.stack s H :=
  ⟨I.ok.frames, I.ok.mod, I.bs, Nat.le_trans I.ok.bsz I.sz, I.stack, I.stkFree, I.hok, I.bare⟩
/-- behind a call -/
theorem Inv.after {Q : VK} {u : Value} (I : Inv X pins σ H s) (h : CE X.stack X.prog X.w H s Q u s') : EP X pins σ Q u s' := by
  obtain ⟨v, H', os, bare, un, hok, r, q⟩ := h
  obtain ⟨hh, g, d, t, os'⟩ := s'
  obtain rfl : os' = s.os := os
  exact ⟨v, H', I.call (h' := hh) (g' := g) (d' := d) (t' := t) (ch := []) un hok bare (fun b z => absurd z (by simp)), r, q⟩
end

/-! ### calls -/
/-- f(..): the written arguments, then the defaults dvs; E: what is wanted of an exception -/
def tCall (sp : Sp) (dvs : List V) (E : XK) (t : TA) : TE := fun σ H Q => t σ H fun vs H1 => sp (vs ++ dvs) H1 Q E
/-- how the parameters are bound: us the positional arguments, kw the keywords' values by name, ds the defaults that fill up -/
def Binds (K : PySem.W.Frag) (fd : FuncData) (ps : List Str) (ds : List Value) : Prop :=
  ∀ (s : Shared) (us : List Value), K.In s.heap → (us ++ ds).length = ps.length → BindsTo s fd ⟨us, []⟩ (ps.zip (us ++ ds))
/-- every parameter is given -/
theorem Binds.all {K : PySem.W.Frag} {fd : FuncData} {ps : List Str} (h : ∀ us : List Value, us.length = ps.length → bindArgs fd ⟨us, []⟩ = pure (ps.zip us)) : Binds K fd ps [] := fun s us _ hl => by
  rw [List.append_nil] at hl ⊢
  exact .of_eq (h us hl)

/-- an exception of a callee reaches what this body wants of exceptions -/
def Passes (CX : CXT) (X : Cx) (E : XK) : Prop := ∀ (pins : List (Addr × Obj)) (σ : St) (H : Hp) (s : Shared) (e : Value) (s' : Shared), Inv X pins σ H s → CX X.stack H s E e s' → X.xe e s'

section
variable {X : Cx} {CX : CXT} {k : Nat} {f C : Addr} {fd : FuncData} {ps : List Str} {sp : Sp} {dvs : List V} {ds : List Value} {E : XK} {x m : Str} {p pos apos : Pos} {e o : Expr} {es : List Expr} {ta : TE} {t : TA}

/-- the callee runs -/
theorem run_fn {pins : List (Addr × Obj)} {σ : St} {H : Hp} {s : Shared} {Q : VK} {us : List Value} {vs : List V} (F : FnOk X.prog X.w X.K X.mg X.base CX k f fd ps sp) (hr : Room k X.A) (hb : Binds X.K fd ps ds) (hd : Vals dvs ds) (hx : Passes CX X E)
    (I : Inv X pins σ H s) (r : Vals vs us) (h : sp (vs ++ dvs) H Q E) : wpAny (model X.prog X.w) X.A (call (.ref f) us) (EP X pins σ Q) X.xe s := by
  have r2 : Vals (vs ++ dvs) (us ++ ds) := r.append hd
  have hl : (us ++ ds).length = ps.length := by rw [← r2.length]; exact F.len _ _ _ _ h
  refine wpAny_call (codeAny_mono (F.run X.A X.stack s H ⟨us, []⟩ (us ++ ds) (vs ++ dvs) Q E hr I.env0 (hb s us I.kIn hl) r2 h) fun r s' hq => ?_)
  cases r with
  | error e => exact hx pins σ H s e s' I hq
  | ok fl =>
    cases fl with
    | ret u => exact I.after hq
    | next => exact False.elim hq
    | brk => exact False.elim hq
    | cont => exact False.elim hq

theorem pe_call (F : FnOk X.prog X.w X.K X.mg X.base CX k f fd ps sp) (hr : Room k X.A) (hg : Gl X x) (hm : X.mg x = some (.ref f)) (hk : PySem.W.keepIn X.K (.ref f) = true) (hb : Binds X.K fd ps ds) (hd : Vals dvs ds) (hx : Passes CX X E)
    (ha : PA X (e :: es) t) (hdb : (x == ("__debug__" : Str)) = false := by decide) (he : starEach (e :: es) X.env = (false, eval e X.env) :: starEach es X.env := by rfl) (hpl : (backTo pos (starEach es X.env)).any (·.1) = false := by rfl) :
    PE X (.Call (.Name x p) (e :: es) [] pos) (tCall sp dvs E t) := by
  intro pins s σ H Q I h
  refine wpAny_Call_Name_kw (ld_glob I hg hm ?_ hdb)
  refine PySem.W.callWith_K (h₀ := X.base) I.ok.mod.kin hk (thn (ha pos pins s σ H _ I h) fun us s1 ⟨vs, H1, I1, r, q⟩ => ⟨I1.kIn, ?_⟩) he hpl
  exact run_fn F hr hb hd hx I1 r q
/-- what a class must have to be made -/
structure Mk (K : PySem.W.Frag) (C f : Addr) : Prop where
  makes : PySem.W.makesIn K C = true
  init : PySem.W.findIn K (.ref C) "__init__" = some (some (.ref f))
  fn : PySem.W.isFn K (.ref f) = true
  kp : PySem.W.keepIn K (.ref C) = true

end

/-! ### keywords -/
section
variable {X : Cx} {CX : CXT} {k : Nat} {f C : Addr} {fd : FuncData} {ps ks : List Str} {sp : Sp} {E : XK} {x m : Str} {p pos apos kpos : Pos} {e o : Expr} {es : List Expr} {kws : List Keyword} {te ta : TE} {t tk : TA} {nm : Option Str}
/-- how a call with keywords binds: g puts the positional values us and the keywords' values ws (names ks) in the parameters' order, defaults among them -/
structure KBinds (K : PySem.W.Frag) (fd : FuncData) (ps ks : List Str) (g : List Value → List Value → List Value) (gV : List V → List V → List V) : Prop where
  to : ∀ (s : Shared) (us ws : List Value), K.In s.heap → (g us ws).length = ps.length → BindsTo s fd ⟨us, ks.zip ws⟩ (ps.zip (g us ws))
  rel : ∀ {vs : List V} {us : List Value} {zs : List V} {ws : List Value}, Vals vs us → Vals zs ws → Vals (gV vs zs) (g us ws)
variable {g : List Value → List Value → List Value} {gV : List V → List V → List V}
end

/-! ### a def's body keeps its promise -/
/-- names: the parameters first -/
structure FnScope (N P : List Str) (sc : Scope) : Prop where
  kind : sc.kind = .function
  co : sc.isCoroutine = false
  gen : sc.isGenerator = false
  nd : N.Nodup
  pre : N.take P.length = P
  par : ∀ x ∈ P, sc.names.lookup x = some .local ∨ sc.names.lookup x = some .cell
  nofree : ∀ y ∈ sc.names, y.2 ≠ .free

theorem bindL_out {kindOf : Str → Option NameKind} {x : Str} : ∀ {binds : List (Str × Value)} {m : Str → Option Value}, (∀ v, (x, v) ∉ binds) → bindL kindOf binds m x = m x
  | [], _, _ => rfl
  | (n, v) :: r, m, h => by
    unfold bindL
    rw [bindL_out fun w hw => h w (List.mem_cons_of_mem _ hw)]
    split
    · have : x ≠ n := by rintro rfl; exact h v List.mem_cons_self
      simp [this]
    · rfl
theorem bindC_out {kindOf : Str → Option NameKind} {x : Str} : ∀ {binds : List (Str × Value)} {m : Str → Option Value}, (∀ v, (x, v) ∉ binds) → bindC kindOf binds m x = m x
  | [], _, _ => rfl
  | (n, v) :: r, m, h => by
    unfold bindC
    rw [bindC_out fun w hw => h w (List.mem_cons_of_mem _ hw)]
    split
    · rfl
    · have : x ≠ n := by rintro rfl; exact h v List.mem_cons_self
      simp [this]
theorem bindL_get {kindOf : Str → Option NameKind} {x : Str} {v : Value} : ∀ {P : List Str} {vs : List Value} {i : Nat} {m : Str → Option Value}, P.Nodup → P[i]? = some x → vs[i]? = some v → kindOf x = some .local →
    bindL kindOf (P.zip vs) m x = some v
  | [], _, _, _, _, h, _, _ => by simp at h
  | _ :: _, [], _, _, _, _, h, _ => by simp at h
  | p :: P, w :: vs, 0, m, nd, h1, h2, hk => by
    simp at h1 h2; subst h1; subst h2
    show bindL kindOf ((p, w) :: P.zip vs) m p = _
    unfold bindL
    rw [bindL_out fun v hv => (List.nodup_cons.mp nd).1 (List.of_mem_zip hv).1, if_pos hk]
    simp
  | p :: P, w :: vs, i + 1, m, nd, h1, h2, hk => by
    show bindL kindOf ((p, w) :: P.zip vs) m x = _
    unfold bindL
    exact bindL_get (i := i) (List.nodup_cons.mp nd).2 (by simpa using h1) (by simpa using h2) hk
theorem bindC_get {kindOf : Str → Option NameKind} {x : Str} {v : Value} : ∀ {P : List Str} {vs : List Value} {i : Nat} {m : Str → Option Value}, P.Nodup → P[i]? = some x → vs[i]? = some v → kindOf x ≠ some .local →
    bindC kindOf (P.zip vs) m x = some v
  | [], _, _, _, _, h, _, _ => by simp at h
  | _ :: _, [], _, _, _, _, h, _ => by simp at h
  | p :: P, w :: vs, 0, m, nd, h1, h2, hk => by
    simp at h1 h2; subst h1; subst h2
    show bindC kindOf ((p, w) :: P.zip vs) m p = _
    unfold bindC
    rw [bindC_out fun v hv => (List.nodup_cons.mp nd).1 (List.of_mem_zip hv).1, if_neg hk]
    simp
  | p :: P, w :: vs, i + 1, m, nd, h1, h2, hk => by
    show bindC kindOf ((p, w) :: P.zip vs) m x = _
    unfold bindC
    exact bindC_get (i := i) (List.nodup_cons.mp nd).2 (by simpa using h1) (by simpa using h2) hk

/-- the names' values at the entry -/
def start (N : List Str) (vs : List V) : St := vs.map some ++ List.replicate (N.length - vs.length) none

/-- the context of a def's body, at its entry; an exception leaves the frame, then lies as CX says -/
def cxOf (CX : CXT) (P : Program) (w : World) (K : PySem.W.Frag) (mg : Str → Option Value) (base : Heap) (N : List Str) (qual : Str) (scope : Scope) (f : Addr) (cd : Value) (A : Around) (outer : List Env) (s : Shared) (H : Hp) (E : XK) : Cx where
  prog := P
  w := w
  K := K
  mg := mg
  base := base
  A := A.deeper (envOfC qual scope s.heap.objs.size f cd)
  N := N
  s₀ := s
  H₀ := H
  env := envOfC qual scope s.heap.objs.size f cd
  outer := outer
  stack := envOfC qual scope s.heap.objs.size f cd :: outer
  ex := []
  calm := true
  fn := fun _ => true
  pn := []
  xe := fun e s' => wpAny (model P w) (A.deeper (envOfC qual scope s.heap.objs.size f cd)) (leaving (envOfC qual scope s.heap.objs.size f cd) e) (fun _ s'' => CX outer H s E e s'') (fun e' s'' => CX outer H s E e' s'') s'

theorem cell_has {sc : Scope} {n : Nat} {x : Str} (h : sc.names.lookup x = some .cell) : ∃ c, (cellsFrom n sc.names []).lookup x = some c := by
  have q := PySem.W.cellsFrom_some sc.names n [] (.inl h)
  exact Option.isSome_iff_exists.mp q

theorem inv_start {CX : CXT} {P : Program} {w : World} {K : PySem.W.Frag} {mg : Str → Option Value} {base : Heap} {N ps : List Str} {qual : Str} {scope : Scope} {f : Addr} {cd : Value} {A : Around} {outer : List Env} {s s1 : Shared} {H : Hp} {E : XK} {us : List Value} {vs : List V}
    (S : FnScope N ps scope) (hd : A.handled = none) (e0 : Env0 P w K mg base A outer s H) (hl : vs.length = ps.length) (r : Vals vs us)
    (x : InCallC s s.heap.objs.size (bindL (envOfC qual scope s.heap.objs.size f cd).kindOf (ps.zip us) fun _ => none) (cellsFrom (s.heap.objs.size + 1) scope.names []) (bindC (envOfC qual scope s.heap.objs.size f cd).kindOf (ps.zip us) fun _ => none) s1) :
    Inv (cxOf CX P w K mg base N qual scope f cd A outer s H E) [] (start N vs) H s1 := by
  have hpl : ps.length ≤ N.length := by have := congrArg List.length S.pre; rw [List.length_take] at this; omega
  obtain ⟨h1, tk, rfl, hk⟩ := x.done
  have noA : ∀ b : Addr, b ∉ (cxOf CX P w K mg base N qual scope f cd A outer s H E).ex := fun b z => absurd (show b ∈ ([] : List Addr) from z) (by simp)
  refine ⟨⟨e0.mod, S.kind, rfl, rfl, Nat.le_refl _, fun y z c h1 h2 => ?_, fun y hy => ?_, fun y c _ h => ?_, fun _ => hd, Around.frames_deeper e0.frames, .inr ⟨rfl, rfl⟩, fun b z => absurd z (noA b), e0.bs, e0.bsz, fun b _ _ => noA b, fun b z => absurd z (noA b), e0.funs, e0.frf⟩,
    rfl, e0.bare, Un.kept hk, ⟨_, x.toInCall.ns, fun i y v h1 h2 h3 => ?_⟩, fun y c h => ⟨_, x.cell y c h⟩, e0.hok.fresh (Nat.le_refl _), fun y c h => ?_, fun p hp => absurd (show p ∈ ([] : List (Addr × Obj)) from hp) (by simp), e0.hok.kept hk, ?_⟩
  · exact name_of_addr x.apart (PySem.mem_of_lookup h1) (PySem.mem_of_lookup h2)
  · have hy : scope.names.lookup y = some .cell ∨ scope.names.lookup y = some .free := hy
    rcases hy with hy | hy
    · exact cell_has hy
    · exact absurd rfl (S.nofree _ (PySem.mem_of_lookup hy))
  · exact Nat.le_of_lt (x.above y c (PySem.mem_of_lookup h))
  · have hi : i < vs.length := by
      unfold start at h2
      by_cases hi : i < vs.length
      · exact hi
      · rw [List.getElem?_append_right (by simpa using hi)] at h2
        rw [List.getElem?_replicate] at h2
        split at h2 <;> cases h2
    have ha : vs[i]? = some v := by
      unfold start at h2
      rw [List.getElem?_append_left (by simpa using hi), List.getElem?_map] at h2
      cases e : vs[i]? with
      | none => rw [e] at h2; cases h2
      | some a => rw [e] at h2; cases h2; rfl
    obtain ⟨u, hu, rv⟩ := r.get ha
    have hp : ps[i]? = some y := by
      rw [← S.pre, List.getElem?_take_of_lt (by omega)]; exact h1
    have ndP : ps.Nodup := by rw [← S.pre]; exact S.nd.sublist (List.take_sublist _ _)
    refine ⟨u, rv, ?_⟩
    rcases S.par y (List.mem_of_getElem? hp) with k | k
    · exact .inl ⟨k, bindL_get ndP hp hu k⟩
    · obtain ⟨c, e⟩ := cell_has (n := s.heap.objs.size + 1) k
      refine .inr ⟨.inl k, c, e, ?_⟩
      have q := x.cell y c e
      rw [bindC_get ndP hp hu (by show scope.names.lookup y ≠ _; rw [k]; decide)] at q
      exact q
  · exact e0.hok.fresh (Nat.le_of_lt (x.above y c (PySem.mem_of_lookup h)))
  · unfold start
    show _ = N.length
    rw [List.length_append, List.length_map, List.length_replicate]
    omega

/-- THE RULE: a def (or a method) of the text, by its body. The body's reading t is chosen for each entry; it is run at the parameters' values -/
theorem fn_of {CX : CXT} {P : Program} {w : World} {K : PySem.W.Frag} {mg : Str → Option Value} {base : Heap} {k : Nat} {f : Addr} {name qual : Str} {params : Arguments} {body : List Stmt} {scope : Scope} {dV kV doc pm cdv ct oc : Value} {an od : Option Addr}
    {osl : Array (Option Value)} {N ps : List Str} {sp : Sp} (lk : K.lookup f = some ⟨oc, od, .func (PySem.W.fnOf name qual params body scope dV kV doc pm an cdv ct), osl⟩) (hcd : PySem.W.codeIn K cdv qual = true) (S : FnScope N ps scope)
    (len : ∀ vs H Q E, sp vs H Q E → vs.length = ps.length)
    (hbody : ∀ (A : Around) (outer : List Env) (s : Shared) (H : Hp) (vs : List V) (Q : VK) (E : XK), Room k (A.deeper (envOfC qual scope s.heap.objs.size f cdv)) → sp vs H Q E →
      ∃ t, PSs (cxOf CX P w K mg base N qual scope f cdv A outer s H E) body t ∧ t { nx := fun _ H' => Q .non H', rt := Q } (start N vs) H) :
    FnOk P w K mg base CX (k + 1) f (PySem.W.fnOf name qual params body scope dV kV doc pm an cdv ct) ps sp := by
  refine ⟨len, fun A outer s H args us vs Q E hr e0 hb r hsp => ?_⟩
  have hl := len _ _ _ _ hsp
  have KX : K.In s.heap := e0.mod.kin.keeps fun b o e => (e0.bs b o e).1
  have lim : s.heap.NoLimit := e0.mod.nolimit.keeps fun b o e => (e0.bs b o e).1
  have hkind : ∀ y ∈ ps.zip us, scope.names.lookup y.1 = some .local ∨ (scope.names.lookup y.1 = some .cell ∧ ((cellsFrom (s.heap.objs.size + 1) scope.names []).lookup y.1).isSome = true) := fun ⟨n, v⟩ hy => by
    rcases S.par n (List.of_mem_zip hy).1 with q | q
    · exact .inl q
    · exact .inr ⟨q, PySem.W.cellsFrom_some _ _ _ (.inl q)⟩
  refine codeAny_call_function hr.depth (KX _ _ lk) rfl S.co S.gen rfl (PySem.W.codeRec_of KX hcd) (hb _ _ _ _ ?_)
  refine wpAny_newFunctionEnv_cells S.kind hkind fun env he s1 x => ?_
  subst he
  refine ⟨lim.keeps x.toInCall.keep, codeAny_func ?_⟩
  obtain ⟨t, ht, hq⟩ := hbody A outer s H vs Q E (hr.deeper _) hsp
  have I : Inv (cxOf CX P w K mg base N qual scope f cdv A outer s H E) [] (start N vs) H s1 := inv_start S hr.hd e0 hl r x
  refine wpAny_mono (ht [] s1 (start N vs) H _ I hq) (fun fl s' hs => ?_) fun e s' hs => hs
  have fin : ∀ {σ' : St} {H' : Hp} {v : V} {u : Value}, Inv (cxOf CX P w K mg base N qual scope f cdv A outer s H E) [] σ' H' s' → RelV v u → Q v H' → CE outer P w H s Q u s' :=
    fun {σ' H' v u} J rv q => ⟨v, H', J.os, J.bare, J.base, J.hok, rv, q⟩
  cases fl with
  | ret u =>
    obtain ⟨v, σ', H', J, rv, q⟩ := hs
    exact fin J rv q
  | next =>
    obtain ⟨σ', H', J, q⟩ := hs
    exact fin (v := V.non) (u := Value.none) J rfl q
  | brk =>
    obtain ⟨_, _, _, q⟩ := hs
    exact False.elim q
  | cont =>
    obtain ⟨_, _, _, q⟩ := hs
    exact False.elim q
end L2

namespace L2
open PySem PySem.Spec PyProof.Rows
section
variable {X : Cx} {x : Str} {p pos : Pos} {e : Expr} {es : List Expr} {t : TA} {id T : String} {r : List V → Hp → VK → Prop}

def tCB (r : List V → Hp → VK → Prop) (t : TA) : TE := fun σ H Q => t σ H fun vs H1 => r vs H1 Q
/-- f(e, ..), f a built-in function -/
theorem pe_callB (hc : CallR X (.builtin id) r) (hg : Gl X x) (hm : X.mg x = none) (hv : bootBuiltins x = some (.builtin id)) (ha : PA X (e :: es) t) (hn : x ≠ "__name__" := by decide) (hdb : (x == ("__debug__" : Str)) = false := by decide)
    (he : starEach (e :: es) X.env = (false, eval e X.env) :: starEach es X.env := by rfl) (hpl : (backTo pos (starEach es X.env)).any (·.1) = false := by rfl) : PE X (.Call (.Name x p) (e :: es) [] pos) (tCB r t) := by
  intro pins s σ H Q I h
  refine wpAny_Call_Name_kw (ld_blt I hg hm hv ?_ hn hdb)
  exact PyProof.Rows.callWith_builtin1 (thn (ha pos pins s σ H _ I h) fun us s1 ⟨vs, H1, I1, r1, q1⟩ => hc pins s1 σ H1 vs us Q I1 r1 q1) he hpl
end
end L2

namespace HT
open PySem PyProof.Rows

section
open PySem.SeqAt
open PySem.AutoSeq1 (wpAny_loadPart')
open PySem.MeetsSeq PySem.MeetsSeq2 PySem.MeetsSeq3

end

section
variable {prog : Program} {w : World} {A : Around} {E : Value → Shared → Prop} {s : Shared}

/-! ### t[a:b], not the whole -/
/-- a slice's bound as a place among n (d where it is left out) -/
def sIx (n d : Nat) : Option Int → Nat
  | none => d
  | some v => if v < 0 then (v + (n : Int)).toNat else min v.toNat n
end
end HT

namespace L2
open PySem PySem.Spec PyProof.Rows

/-! ### the parts of a slice -/
abbrev TO := St → Hp → (Option Int → Hp → Prop) → Prop
/-- a slice's part (left out, or an int) -/
def PO (X : Cx) (e : Option Expr) (t : TO) : Prop :=
  ∀ (pins : List (Addr × Obj)) (s : Shared) (σ : St) (H : Hp) (Q : Option Int → Hp → Prop), Inv X pins σ H s → t σ H Q →
    wpAny (model X.prog X.w) X.A (evalPart e X.env) (fun u s' => ∃ o H', Inv X pins σ H' s' ∧ IsPart u o ∧ Q o H') X.xe s
def tNoPart : TO := fun _ H Q => Q none H
def tPart (t : TE) : TO := fun σ H Q => t σ H fun x H1 => ∃ i, x = .int i ∧ Q (some i) H1

section
variable {X : Cx} {e : Expr} {te : TE} {lo hi : Option Expr} {tl th : TO} {pos p2 : Pos}

theorem po_none : PO X none tNoPart := by
  intro pins s σ H Q I h
  rw [evalPart_none]
  exact wpAny_pure ⟨none, H, I, .none, h⟩
theorem po_some (h : PE X e te) : PO X (some e) (tPart te) := by
  intro pins s σ H Q I hw
  rw [evalPart_some]
  refine thn (h pins s σ H _ I hw) fun u s1 ⟨x, H1, I1, r1, q1⟩ => ?_
  obtain ⟨i, rfl, q⟩ := q1
  obtain ⟨t, rfl⟩ := r1
  exact ⟨some i, H1, I1, .int i t, q⟩

/-- what a slice of a value is, by values: the slice object stands at sl -/
def SlR (X : Cx) (r : V → Option Int → Option Int → Hp → VK → Prop) : Prop :=
  ∀ (pins : List (Addr × Obj)) (s : Shared) (σ : St) (H : Hp) (x : V) (v vl vu : Value) (lo hi : Option Int) (sl : Addr) (Q : VK), Inv X pins σ H s → RelV x v → s.heap.IsSliceOf sl vl vu .none → IsPart vl lo → IsPart vu hi → r x lo hi H Q →
    ∃ T id, typeLookup (.type T) "__getitem__" = pure (some (.builtin id)) ∧ s.TypeIs v T ∧ wpAny (model X.prog X.w) X.A (getItem v (.ref sl)) (EP X pins σ Q) X.xe s
def tSl (r : V → Option Int → Option Int → Hp → VK → Prop) (te : TE) (tl th : TO) : TE := fun σ H Q => te σ H fun x H1 => tl σ H1 fun l H2 => th σ H2 fun u H3 => r x l u H3 Q
/-- a[lo:hi], any a -/
theorem pe_slice {r : V → Option Int → Option Int → Hp → VK → Prop} (hr : SlR X r) (he : PE X e te) (hl : PO X lo tl) (hu : PO X hi th) : PE X (.Subscript e (.Slice lo hi none p2) pos) (tSl r te tl th) := by
  intro pins s σ H Q I h
  refine Subscript_ (thn (he pins s σ H _ I h) fun v s1 ⟨x, H1, I1, r1, q1⟩ => ?_)
  refine wpAny_Slice (thn (hl pins s1 σ H1 _ I1 q1) fun vl s2 ⟨l, H2, I2, pl, q2⟩ => thn (hu pins s2 σ H2 _ I2 q2) fun vu s3 ⟨u, H3, I3, pu, q3⟩ => ?_)
  rw [evalPart_none]
  refine wpAny_pure ?_
  have I4 : Inv X pins σ H3 { s3 with heap := s3.heap.push { cls := .type "slice", data := .fields #[vl, vu, .none] } } := I3.kept (t' := s3.toks) fun b ob q => Heap.get?_push_of_some _ q
  obtain ⟨T, id, hT, ht, hg⟩ := hr pins { s3 with heap := s3.heap.push { cls := .type "slice", data := .fields #[vl, vu, .none] } } σ H3 x v vl vu l u s3.heap.objs.size Q I4 r1 (Heap.IsSliceOf.new ..) pl pu q3
  show wpAny (model X.prog X.w) X.A (subscriptTail e (.Slice lo hi none p2) v (.ref s3.heap.objs.size)) (EP X pins σ Q) X.xe { s3 with heap := s3.heap.push { cls := .type "slice", data := .fields #[vl, vu, .none] } }
  exact tail_any (ops := [.ref s3.heap.objs.size, v]) ht hT hg (by with_unfolding_all rfl)

/-- the items of xs[lo:hi] -/
def cutV (xs : List V) (lo hi : Option Int) : List V := (xs.drop (HT.sIx xs.length 0 lo)).take (HT.sIx xs.length xs.length hi - HT.sIx xs.length 0 lo)
theorem cutV_length (xs : List V) (lo hi : Option Int) : (cutV xs lo hi).length ≤ xs.length := by
  unfold cutV
  rw [List.length_take, List.length_drop]
  omega
/-! ### t < u, t + u -/
end
end L2

namespace L2
open PySem PySem.Spec PyProof.Rows

/-! ### places -/
/-- the place that an index of any sign means -/
def ixN (n : Nat) (i : Int) : Option Nat := if 0 ≤ i then (if i < n then some i.toNat else none) else if -(n : Int) ≤ i then some (i + n).toNat else none
def atI {α : Type} (xs : List α) (i : Int) : Option α := (ixN xs.length i).bind fun j => xs[j]?
theorem ixN_seq {n : Nat} {i : Int} {j : Nat} (h : ixN n i = some j) : seqIndex? i n = some j ∧ j < n ∧ -(n : Int) ≤ i ∧ i < n := by
  unfold ixN at h
  by_cases h0 : 0 ≤ i
  · rw [if_pos h0] at h
    by_cases h1 : i < n
    · rw [if_pos h1] at h
      have e : i.toNat = j := Option.some.inj h
      exact ⟨by rw [seqIndex_of h0 h1, e], by omega, by omega, h1⟩
    · rw [if_neg h1] at h; cases h
  · rw [if_neg h0] at h
    by_cases h1 : -(n : Int) ≤ i
    · rw [if_pos h1] at h
      have e : (i + n).toNat = j := Option.some.inj h
      exact ⟨by rw [seqIndex_neg (by omega) h1, e], by omega, h1, by omega⟩
    · rw [if_neg h1] at h; cases h
theorem atI_get {α : Type} {xs : List α} {i : Int} {v : α} (h : atI xs i = some v) : ∃ j, seqIndex? i xs.length = some j ∧ xs[j]? = some v ∧ j < xs.length ∧ -(xs.length : Int) ≤ i ∧ i < xs.length := by
  unfold atI at h
  cases e : ixN xs.length i with
  | none => rw [e] at h; cases h
  | some j =>
    rw [e] at h
    obtain ⟨h1, h2, h3, h4⟩ := ixN_seq e
    exact ⟨j, h1, h, h2, h3, h4⟩
theorem atI_nat {α : Type} {xs : List α} {j : Nat} {v : α} (h : xs[j]? = some v) : atI xs (j : Int) = some v := by
  have hj : j < xs.length := (List.getElem?_eq_some_iff.mp h).1
  have e : ixN xs.length (j : Int) = some j := by
    unfold ixN
    rw [if_pos (by omega), if_pos (by omega)]; simp
  unfold atI; rw [e]; exact h
/-! ### what may be subscripted -/
/-- what stands as an index of a plain subscript -/
def PlainIx (b : Expr) : Prop := ∀ o i, subscripted b false o i = operate [o, i] (getItem o i)
/-- a subscript by values -/
def IxR (X : Cx) (r : R2) : Prop :=
  ∀ (value slice : Expr) (pins : List (Addr × Obj)) (s : Shared) (σ : St) (H : Hp) (x y : V) (v u : Value) (Q : VK), Inv X pins σ H s → RelV x v → RelV y u → r x y H Q →
    subscripted slice false v u = operate [v, u] (getItem v u) → wpAny (model X.prog X.w) X.A (subscriptTail value slice v u) (EP X pins σ Q) X.xe s
section
variable {X : Cx} {a b : Expr} {ta tb : TE} {pos : Pos}
/-- a[b] -/
theorem pe_ix {r : R2} (hr : IxR X r) (ha : PE X a ta) (hb : PE X b tb) (hs : PlainIx b) : PE X (.Subscript a b pos) (tOp r ta tb) := by
  intro pins s σ H Q I h
  exact Subscript_ (binT ha hb I h fun v u s2 x y H2 I2 rx ry q => hr a b pins s2 σ H2 x y v u Q I2 rx ry q (hs _ _))

def rIxL (K : PySem.W.Frag) : R2 := fun x y H Q => ∃ p xs i v, x = .ref p ∧ y = .int i ∧ SqL K H p xs ∧ atI xs i = some v ∧ Q v H
def rIxT (K : PySem.W.Frag) : R2 := fun x y H Q => ∃ p xs i v, x = .ref p ∧ y = .int i ∧ SqT K H p xs ∧ atI xs i = some v ∧ Q v H
def rIxS : R2 := fun x y H Q => ∃ z i c, x = .str z ∧ y = .int i ∧ z.length ≤ sizeLine ∧ atI z.cps.toList i = some c ∧ Q (.str ⟨#[c]⟩) H
theorem ix_list : IxR X (rIxL X.K) := by
  intro value slice pins s σ H x y v u Q I rx ry h hs
  obtain ⟨p, xs, i, z, rfl, rfl, hq, he, q⟩ := h
  cases rx
  obtain ⟨t, rfl⟩ := ry
  obtain ⟨its, r, pl, hz⟩ := I.list hq
  obtain ⟨j, h1, h2, h3, h4, h5⟩ := atI_get he
  obtain ⟨w, ew, rw'⟩ := r.get h2
  have hl := r.length
  have hn := line63
  have fin : EP X pins σ Q w s := ⟨z, H, I, rw', q⟩
  by_cases h0 : 0 ≤ i
  · have hj : i.toNat = j := by
      rw [seqIndex_of h0 h5] at h1
      exact Option.some.inj h1
    exact item_listR pl.isList h0 (by omega) (by rw [hj]; simpa using ew) fin hs
  · have hj : (i + (its.toArray.size : Int)).toNat = j := by
      rw [seqIndex_neg (by omega) h4] at h1
      rw [List.size_toArray, ← hl]
      exact Option.some.inj h1
    exact subscriptTail_builtinR (x := w) pl.isList.typeIs slot_list_getitem.lookup
      (wpAny_getItem_list_neg (Q := fun r s' => r = w ∧ EP X pins σ Q r s') pl.isList (by omega) (by rw [List.size_toArray] <;> omega) (by omega) (by rw [hj]; simpa using ew) ⟨rfl, fin⟩) hs
theorem ix_tup : IxR X (rIxT X.K) := by
  intro value slice pins s σ H x y v u Q I rx ry h hs
  obtain ⟨p, xs, i, z, rfl, rfl, hq, he, q⟩ := h
  cases rx
  obtain ⟨t, rfl⟩ := ry
  obtain ⟨its, r, pl, hz⟩ := I.tuple hq
  obtain ⟨j, h1, h2, h3, h4, h5⟩ := atI_get he
  obtain ⟨w, ew, rw'⟩ := r.get h2
  have hl := r.length
  have hn := line63
  have fin : EP X pins σ Q w s := ⟨z, H, I, rw', q⟩
  exact subscriptTail_builtinR (x := w) pl.typeIs slot_tuple_getitem.lookup
    (getItem_tuple (j := j) (Q := fun r s' => r = w ∧ EP X pins σ Q r s') pl (by omega) (by omega) (by rw [List.size_toArray, ← hl]; exact h1) (by simpa using ew) ⟨rfl, fin⟩) hs
theorem ix_str : IxR X rIxS := by
  intro value slice pins s σ H x y v u Q I rx ry h hs
  obtain ⟨z, i, c, rfl, rfl, hz, he, q⟩ := h
  obtain ⟨t, rfl⟩ := rx
  obtain ⟨t', rfl⟩ := ry
  obtain ⟨j, h1, h2, h3, h4, h5⟩ := atI_get he
  have hl : z.cps.toList.length = z.length := by simp [Str.length]
  rw [hl] at h1 h4 h5
  have hn := line63
  exact tail_any (typeIs_str s z t) slot_str_getitem.lookup (getItem_str (c := c) (by
    have e1 : decide (i < -(2 ^ 63 : Int)) = false := decide_eq_false (by omega)
    have e2 : decide (i ≥ 2 ^ 63) = false := decide_eq_false (by omega)
    rw [e1, e2, Bool.or_false]) (by rw [h1]; simpa using h2) ⟨.str ⟨#[c]⟩, H, I.tok _, ⟨_, rfl⟩, q⟩) hs
/-! ### xs[i] = v, any sign -/
theorem Inv.lst {pins : List (Addr × Obj)} {σ : St} {H : Hp} {s : Shared} {p : Addr} {xs : List V} (I : Inv X pins σ H s) (h : H p = some (.lst xs)) :
    ∃ (its : List Value) (n : Nat), Vals xs its ∧ s.heap.get? p = some { cls := .type "list", data := .seq its.toArray n } ∧ xs.length ≤ sizeLine := by
  obtain ⟨z, its, n, r, e⟩ := I.hok p _ h
  exact ⟨its, n, r, e, z⟩
/-! ### slices -/
theorem slice_bounds (lo hi : Option Int) (n : Nat) : (sliceBounds lo hi none n).1 = ((HT.sIx n 0 lo : Nat) : Int) ∧ (sliceBounds lo hi none n).2.1 = ((HT.sIx n n hi : Nat) : Int) ∧ (sliceBounds lo hi none n).2.2 = 1 := by
  refine ⟨?_, ?_, rfl⟩
  · cases lo with
    | none => simp [sliceBounds, HT.sIx]
    | some i =>
      simp only [sliceBounds, HT.sIx, Option.getD_none, show (1 : Int) > 0 by decide, if_true]
      by_cases h : i < 0
      · simp only [h, if_true] <;> omega
      · simp only [h, if_false] <;> omega
  · cases hi with
    | none => simp [sliceBounds, HT.sIx]
    | some i =>
      simp only [sliceBounds, HT.sIx, Option.getD_none, show (1 : Int) > 0 by decide, if_true]
      by_cases h : i < 0
      · simp only [h, if_true] <;> omega
      · simp only [h, if_false] <;> omega
theorem slicePick_cut (its : List Value) (lo hi : Option Int) : slicePick its.toArray lo hi none = ((its.drop (HT.sIx its.length 0 lo)).take (HT.sIx its.length its.length hi - HT.sIx its.length 0 lo)).toArray := by
  obtain ⟨h1, h2, h3⟩ := slice_bounds lo hi its.toArray.size
  unfold slicePick
  rw [h1, h2, h3]
  simp only [sliceRange_one, pick_run, List.size_toArray] <;> rfl
/-- xs[lo:hi] of a list: a new list -/
def rSlL (K : PySem.W.Frag) : V → Option Int → Option Int → Hp → VK → Prop := fun x lo hi H Q => ∃ a xs, x = .ref a ∧ SqL K H a xs ∧ ∀ p, H p = none → Q (.ref p) (upd H p (.lst (cutV xs lo hi)))
theorem sl_list : SlR X (rSlL X.K) := by
  intro pins s σ H x v vl vu lo hi sl Q I rx hs pl pu h
  obtain ⟨a, xs, rfl, hx, q⟩ := h
  cases rx
  obtain ⟨its, r, ht, hz⟩ := I.list hx
  have hlen := r.length
  refine ⟨"list", _, slot_list_getitem.lookup, ht.isList.typeIs, ?_⟩
  refine wpAny_getItem_list_slice ht.isList hs pl pu .none (by simp) ?_ (by rw [List.size_toArray] <;> omega)
  rw [slicePick_cut, ← hlen]
  refine ⟨.ref s.heap.objs.size, _, I.laid (t' := s.toks) (o := .lst (cutV xs lo hi)) (fun b ob q => Heap.get?_push_of_some _ q) (Nat.le_refl _) ?_, rfl, q _ (I.hok.fresh (Nat.le_refl _))⟩
  exact ⟨Nat.le_trans (cutV_length xs lo hi) hz, _, 0, (r.drop (HT.sIx xs.length 0 lo)).take (HT.sIx xs.length xs.length hi - HT.sIx xs.length 0 lo), Heap.get?_push_size _ rfl⟩

/-! ### in, not in: flat items -/
/-! ### len, list(x), tuple(x) of any list or tuple that is read -/
theorem call_len_seq : CallR X (.builtin "len") (fun xs H Q => ∃ p ys, xs = [.ref p] ∧ (SqL X.K H p ys ∨ SqT X.K H p ys) ∧ Q (.int ys.length) H) := by
  intro pins s σ H xs us Q I r h
  obtain ⟨p, ys, rfl, hq, q⟩ := h
  obtain ⟨u, rfl, rx⟩ := vals1 r
  cases rx
  have hn := line63
  rcases hq with hq | hq
  · obtain ⟨its, r', pl, hz⟩ := I.list hq
    have hlen := r'.length
    exact Calls.call_len_list pl.isList (by simp only [List.size_toArray] <;> omega) ⟨.int ys.length, H, I.tok _, ⟨s.toks + 1, by rw [List.size_toArray, hlen]⟩, q⟩
  · obtain ⟨its, r', pl, hz⟩ := I.tuple hq
    have hlen := r'.length
    exact len_tuple pl (by simp only [List.size_toArray] <;> omega) ⟨.int ys.length, H, I.tok _, ⟨s.toks + 1, by rw [List.size_toArray, hlen]⟩, q⟩
theorem call_len_str : CallR X (.builtin "len") (fun xs H Q => ∃ z, xs = [.str z] ∧ z.length ≤ sizeLine ∧ Q (.int z.length) H) := by
  intro pins s σ H xs us Q I r h
  obtain ⟨z, rfl, hz, q⟩ := h
  obtain ⟨u, rfl, t, rfl⟩ := vals1 r
  have hn := line63
  exact len_str (by omega) ⟨.int z.length, H, I.tok _, ⟨_, rfl⟩, q⟩
/-! ### the call of a builtin's method: o.m(..) -/
variable {o e : Expr} {es : List Expr} {to : TE} {t : TA} {name : Str} {apos cpos : Pos} {T id : String} {r : V → List V → Hp → VK → Prop}
/- xs.append(e), list.index on a module's tuple .. are MtR facts of 06m -/
end
end L2

namespace L2
open PySem PySem.Spec PyProof.Rows

/-! ### lists of values -/
theorem Vals.one : ∀ {x : V} {us : List Value}, Vals [x] us → ∃ u, us = [u] ∧ RelV x u
  | _, _, .cons r .nil => ⟨_, rfl, r⟩
theorem Vals.zero : ∀ {us : List Value}, Vals [] us → us = []
  | _, .nil => rfl
theorem Vals.reverse {xs : List V} {us : List Value} (h : Vals xs us) : Vals xs.reverse us.reverse := by
  induction h with
  | nil => exact .nil
  | cons r t ih => rw [List.reverse_cons, List.reverse_cons]; exact Vals.append ih (.cons r .nil)
section
variable {X : Cx} {pins : List (Addr × Obj)} {σ : St} {H : Hp} {s : Shared} {l b : Addr} {xs ys zs : List V}

/-! ### the two steps: a tracked list is rewritten, a new list is laid -/
theorem Inv.lnew {its : List Value} {t' : Nat} (I : Inv X pins σ H s) (hv : Vals ys its) (hz : ys.length ≤ sizeLine) :
    Inv X pins σ (upd H s.heap.objs.size (.lst ys)) { s with heap := s.heap.push { cls := .type "list", data := .seq its.toArray }, toks := t' } :=
  I.laid (fun _ _ q => Heap.get?_push_of_some _ q) (Nat.le_refl _) ⟨hz, its, 0, hv, Heap.get?_push_size _ rfl⟩
theorem Inv.fresh (I : Inv X pins σ H s) : H s.heap.objs.size = none := I.hok.fresh (Nat.le_refl _)
theorem Inv.lstM (I : Inv X pins σ H s) (hH : H l = some (.lst xs)) : xs.length ≤ sizeLine ∧ ∃ (its : List Value) (n : Nat), Vals xs its ∧ xs.length = its.length ∧ s.heap.get? l = some { cls := .type "list", data := .seq its.toArray n } := by
  obtain ⟨z, its, n, r, e⟩ := I.hok l _ hH
  exact ⟨z, its, n, r, r.length, e⟩

theorem notLongL {n : Nat} (h : n ≤ sizeLine) : Builtin.List.listTooLong n = false := by
  unfold Builtin.List.listTooLong
  exact decide_eq_false (by omega)
end

section
variable {X : Cx}

/-! ### methods -/
/-! ### list + list, list += list, list * int -/
def rCat : R2 := fun x y H Q => ∃ l b xs zs, x = .ref l ∧ y = .ref b ∧ H l = some (.lst xs) ∧ H b = some (.lst zs) ∧ xs.length + zs.length ≤ sizeLine ∧ ∀ p, H p = none → Q (.ref p) (upd H p (.lst (xs ++ zs)))
theorem op_cat : OpR X (binaryOp .Add) rCat := by
  intro pins s σ H x y v u Q I rx ry h
  obtain ⟨l, b, xs, zs, rfl, rfl, hH, hB, hz, q⟩ := h
  cases rx
  cases ry
  obtain ⟨z, its, n, r, hl, e⟩ := I.lstM hH
  obtain ⟨z2, its2, n2, r2, hl2, e2⟩ := I.lstM hB
  refine PySem.P.add_list e e2 ?_ (by rw [List.size_toArray, List.size_toArray]; omega)
  have ea : its.toArray ++ its2.toArray = (its ++ its2).toArray := by simp
  rw [ea]
  exact ⟨.ref _, _, I.lnew (t' := s.toks) (r.append r2) (by rw [List.length_append]; omega), rfl, q _ I.fresh⟩
/-! ### del xs[i] -/
end

/-! ### xs[a:b] = ys -/
section
variable {prog : Program} {w : World} {A : Around} {E : Value → Shared → Prop} {s : Shared}
theorem bounds_run {a c n : Nat} (hac : a ≤ c) (hc : c ≤ n) : sliceBounds (some (a : Int)) (some (c : Int)) none n = ((a : Int), (c : Int), 1) := by
  simp only [sliceBounds, Option.getD_none]
  have h1 : ¬ ((a : Int) < 0) := by omega
  have h2 : ¬ ((c : Int) < 0) := by omega
  simp only [h1, h2, if_false, show (1 : Int) > 0 by decide, if_true]
  congr 1
  · omega
  · congr 1; omega
set_option maxRecDepth 100000 in
/-- list.__setitem__ with a slice of step one and another list -/
theorem setItem_slice {l b sl : Addr} {items new : Array Value} {n n2 : Nat} {vl vu : Value} {a c : Nat} {Q : Unit → Shared → Prop}
    (e : s.heap.get? l = some { cls := .type "list", data := .seq items n }) (e2 : s.heap.get? b = some { cls := .type "list", data := .seq new n2 }) (hne : l ≠ b)
    (hs : s.heap.IsSliceOf sl vl vu .none) (pl : IsPart vl (some (a : Int))) (pu : IsPart vu (some (c : Int))) (hac : a ≤ c) (hc : c ≤ items.size)
    (hsz : items.size + new.size ≤ sizeLine) (h : Q () { s with heap := s.heap.update l (Obj.mapSeq fun xs => xs.extract 0 a ++ new ++ xs.extract c xs.size) }) :
    wpAny (model prog w) A (setItem (.ref l) (.ref sl) (.ref b)) Q E s := by
  have hl : s.heap.IsList l items := PySem.IsL.isList e
  have hb : s.heap.IsList b new := PySem.IsL.isList e2
  obtain ⟨os, hos, hcs, hds⟩ := id hs
  have hTs : s.TypeIs (.ref sl) "slice" := ⟨os, hos, hcs⟩
  have hstep : ¬ ((rawPart none == rawInt 0) = true) := Bool.false_ne_true
  have hsame : Builtin.List.listSameRef (.ref l) (.ref b) = false := by
    unfold Builtin.List.listSameRef
    exact beq_eq_false_iff_ne.mpr hne
  have hmax : (max (a : Int) (c : Int)).toNat = c := by omega
  have hz' : ((fun xs : Array Value => xs.extract 0 a ++ new ++ xs.extract c xs.size) items).size ≤ sizeLine + 1 := by
    simp only [Array.size_append, Array.size_extract]
    omega
  unfold setItem
  try with_reducible refine wpAny_holding ?_
  first | refine wpAny_bind (wpAny_pure ?_) | skip
  refine wpAny_bind (wpAny_sequenceKey hl.typeIs (by decide) ?_)
  refine wpAny_bind (wpAny_callSpecial?_slot (name := Str.ofString "__setitem__") hl.typeIs slot_list_setitem
    (wpAny_call_entry slot_list_setitem hl.typeIs entry_list_setitem ?_ (args_list_setitem _ _ _)))
  show wpAny _ _ (Builtin.List.listSubscript? (.ref sl) >>= _) _ _ s
  refine wpAny_bind ?_
  unfold Builtin.List.listSubscript?
  refine wpAny_bind (wpAny_specialOf hTs slice_no_index ?_)
  simp only [Option.isNone_none, if_true]
  refine wpAny_pure ?_
  show wpAny _ _ (typeOf (.ref sl) >>= _) _ _ s
  refine wpAny_bind (wpAny_typeOf hTs ?_)
  first
    | rw [if_neg (by decide)]
    | refine PySem.W.KFB.if_not (by decide) ?_
  rw [listSliceParts_eq]
  refine wpAny_bind (wpAny_bind (wpAny_field hos hds (x := .none) rfl (wpAny_bind (wpAny_listPart .none ?_))))
  rw [if_neg hstep]
  refine wpAny_bind (wpAny_field hos hds (x := vl) rfl (wpAny_bind (wpAny_listPart pl ?_)))
  refine wpAny_bind (wpAny_field hos hds (x := vu) rfl (wpAny_bind (wpAny_listPart pu (wpAny_pure ?_))))
  first
    | simp only [hsame, Bool.false_eq_true, if_false]
    | refine PySem.W.KFB.if_not hsame ?_
    | (dsimp only
       rw [if_neg (by rw [hsame]; exact Bool.false_ne_true)])
  refine wpAny_bind (m := Builtin.List.listAllItems (.ref b) "must assign iterable to extended slice") ?_
  unfold Builtin.List.listAllItems
  refine wpAny_bind (wpAny_typeOf hb.typeIs ?_)
  first
    | refine PySem.W.KFB.if_so (by decide) ?_
    | rw [if_pos (by decide)]
    | simp only [beq_self_eq_true, Bool.true_or, if_true]
  unfold Builtin.List.listItems
  refine wpAny_bind (wpAny_seqItems e2 rfl (wpAny_pure ?_))
  refine wpAny_bind (wpAny_bind (wpAny_seqItems e rfl (wpAny_pure ?_)))
  refine wpAny_bind (wpAny_of_eq ((sliceIndices_raw (some (a : Int)) (some (c : Int)) none items.size (by simp)).trans (congrArg (pure : Int × Int × Int → Sem (Int × Int × Int)) (bounds_run hac hc))) ?_)
  show wpAny _ _ (if ((1 : Int) == 1) = true then _ else _) _ _ s
  rw [if_pos (by decide)]
  refine wpAny_bind (wpAny_rule ?_)
  first
    | simp only [notLongL hsz, Bool.false_eq_true, if_false]
    | refine PySem.W.KFB.if_not (notLongL hsz) ?_
  first | refine wpAny_bind (wpAny_pure ?_) | skip
  show wpAny _ _ (updateSeq l (fun xs => xs.extract 0 ((a : Int)).toNat ++ new ++ xs.extract (max (a : Int) (c : Int)).toNat xs.size) >>= _) _ _ s
  rw [hmax, Int.toNat_natCast]
  refine wpAny_bind (wpAny_updateSeq (hz := Nat.le_trans (Nat.le_add_right _ _) hsz) (_hz' := hz') e rfl ?_)
  refine wpAny_bind (wpAny_letGo ?_)
  first
    | exact wpAny_bind (wpAny_pure (wpAny_pure ⟨.none, rfl, wpAny_pure h⟩))
    | exact wpAny_pure ⟨.none, rfl, wpAny_pure h⟩
end

section
variable {X : Cx}
end
end L2

namespace Att
open PySem PySem.W PySem.Calls PyProof.Rows

/-! ### the script -/
theorem ints_of_wellAll {P : Params} {h : Heap} : ∀ (ns : List Int) (vs : List Value), WellAll P h vs (ns.map WData.int) → IntsAre vs ns := by
  intro ns
  induction ns with
  | nil =>
    intro vs w
    rw [List.map_nil] at w
    cases w
    exact .nil
  | cons n ns ih =>
    intro vs w
    rw [List.map_cons] at w
    cases w with
    | cons a b =>
      cases a
      exact .cons _ _ (ih _ b)

theorem script_of {l : OpenLaw} {n : Nat} (hn : l.most = some n) {P : Params} {h : Heap} {args : List WData} {vals : List Value}
    (hpre : l.row.toRowW.claim.pre args = true) (hwl : WellAll P h vals args) :
    ∃ a vs ns, vals = [Value.ref a] ∧ args = [WData.list (ns.map WData.int)] ∧ h.get? a = some { cls := .type "list", data := .seq vs.toArray } ∧ IntsAre vs ns ∧ ns.length ≤ n := by
  have hsh : WShape.hasAll [] args [.list .int] = true := (pre_splitW hpre).1
  have hc : l.pre.holds [] { args := args } = true := (pre_splitW hpre).2
  obtain ⟨d, r, rfl, h1, h2⟩ := hasAllW_cons hsh
  obtain rfl := hasAllW_nil h2
  obtain ⟨xs, rfl, h3⟩ := hasW_list h1
  obtain ⟨ns, rfl⟩ := items_int h3
  have hlen : ns.length ≤ n := by
    unfold OpenLaw.pre at hc
    have h4 : (WTm.not (.lt (.lit (.int (n : Int))) (.len (.arg 0)))).holds [] { args := [.list (ns.map .int)] } = true := by
      have h4 := (holds_andW hc).1
      rw [hn] at h4
      exact h4
    have h5 := condW_of h4 (w_not (w_lt w_lit (w_len_list (w_arg rfl))))
    rw [List.length_map] at h5
    refine Nat.le_of_not_lt fun q => ?_
    have q' : (n : Int) < ((ns.length : Nat) : Int) := by omega
    first
      | (rw [decide_eq_true q'] at h5; exact absurd h5 (by decide))
      | (simp at h5; omega)
  cases hwl with
  | cons w1 w2 =>
    cases w2
    cases w1 with
    | list ho hall => exact ⟨_, _, ns, rfl, rfl, ho, ints_of_wellAll ns _ hall, hlen⟩

theorem post_true (l : OpenLaw) (args : List WData) : l.row.toRowW.claim.post args (.bool true) args = true :=
  postW_of (r := l.row.toRowW) (X := (true == true))
    (show WShape.has [] (.bool true) .bool = true by first | rfl | decide | simp [WShape.has, WShape.arms, WShape.armsAll])
    (show (WTm.eq .res (.lit (.bool true))).value [] { args := args, res := some (.bool true), after := args } = some (.bool (true == true)) from w_eq_bool (w_res rfl) w_lit) rfl

/-! ### the attachment: holds_open's last premise (the goal 'hc' behind k_head) from a wpAny of the law's body -/
/-- the same from a codeAny of the CALL (for a layer whose function contracts speak of calls) -/
theorem attach_call {l : OpenLaw} {n : Nat} {q : Program} {loose : List Str} {XP : (Str → Option Value) → Heap → Prop} {YP : World → Heap → Prop} {d : DefRec}
    (hn : l.most = some n) (hdf : d.params.defaults = [])
    (call : ∀ (w : World) (s₀ s₁ : Shared) (mg mb : Str → Option Value) (fa : Addr) (o : Obj) (pm cd doc : Value) (a : Addr) (vs : List Value) (ns : List Int),
      Ground q loose [] XP w s₀ mg mb s₁.heap → YP w s₁.heap →
      s₁.heap.get? fa = some o → o.data = .func (docDef d.name d.params d.body d.scope pm cd doc) → s₁.heap.CodeRec cd d.name → mg d.name = some (.ref fa) →
      s₁.heap.get? a = some { cls := .type "list", data := .seq vs.toArray } → IntsAre vs ns → ns.length ≤ n → s₁.gens = #[] →
      codeAny (model l.prog w) callerA (.call (.ref fa) ⟨[.ref a], []⟩) (fun r s' => r = .ok (.ret (.bool true)) ∧ OldK s₁.heap s'.heap ∧ s'.os = s₁.os ∧ AllBare s'.gens) s₁) :
    WalkO q loose XP YP l.row.toRowW d [] (fun f vs => PySem.call f vs) := by
  intro w s₀ s₁ mg mb G Y fa o pm cd doc dV kV ho hd hcd hD hmg hg args vals as hpre hlay hrd hwl hlo
  obtain rfl : dV = .none := Dflts.none hD hdf
  obtain rfl : kV = .none := Dflts.noKw hD
  obtain ⟨a, vs, ns, rfl, rfl, hobj, hints, hlen⟩ := script_of hn hpre hwl
  refine enter_call (codeAny_mono (call w s₀ s₁ mg mb fa o pm cd doc a vs ns G Y ho (fd_plain hd) hcd hmg hobj hints hlen hg) fun r s' hq => ?_)
  obtain ⟨rfl, h2, h3, h4⟩ := hq
  exact ⟨.inl ⟨.bool true, .bool true, [], rfl, fun _ => rfl, .bool true, post_true l _, fun _ => ⟨List.Pairwise.nil, fun _ hm => (nomatch hm)⟩⟩, h2, h3, h4⟩

/-! ### rules over ANY heap (no ledger) from facts about the written part K: the library's own take a ledger (News) for what they write -/
section
variable {prog : Program} {w : World} {A : Around} {E : Value → Shared → Prop} {s : Shared} {K : Frag}

/-! the whole heap as the ledger: makes every rule that writes through a ledger a rule over any heap -/
end
end Att

namespace L2
open PySem PySem.Spec PyProof.Rows

theorem vals_ints : ∀ {vs : List Value} {ns : List Int}, IntsAre vs ns → Vals (ns.map V.int) vs
  | _, _, .nil => .nil
  | _, _, .cons n t h => .cons ⟨t, rfl⟩ (vals_ints h)

/-- nothing is tracked but the script, known to the object (or it is an object of the module) -/
def Only (H : Hp) : Prop := ∀ b, H b = none ∨ ∃ o xs, H b = some (.frz o (.lst xs))

/-- THE HEAD: the law's promise, at the heap behind the top. F, the promise of the law's def, may use that base is part of the heap (so K.In base, base.Ns mainGlobals mg stand in Mod) -/
theorem law_call {P : Program} {w : World} {K : PySem.W.Frag} {mg mb : Str → Option Value} {CX : CXT} {k : Nat} {fa a : Addr} {fd : FuncData} {x : Str} {sp : Sp} {s₁ : Shared} {vs : List Value} {ns : List Int}
    (KX : K.In s₁.heap) (hns : s₁.heap.Ns mainGlobals mg) (hb : s₁.heap.Ns builtinsNs mb) (hbb : ∀ x : Str, x ≠ "__name__" → mb x = bootBuiltins x) (hlim : s₁.heap.NoLimit) (hg : s₁.gens = #[])
    (ha : s₁.heap.get? a = some { cls := .type "list", data := .seq vs.toArray }) (hi : IntsAre vs ns) (hl : ns.length ≤ sizeLine) (hr : Room k callerA)
    (F : ∀ base : Heap, K.In base → base.Ns mainGlobals mg → FnOk P w K mg base CX k fa fd [x] sp) (hbind : ∀ (s : Shared) (u : Value), BindsTo s fd ⟨[u], []⟩ [(x, u)])
    (hsp : ∀ H : Hp, Only H → SqL K H a (ns.map V.int) → sp [.ref a] H (fun v _ => v = .bl true) fun _ _ _ => False)
    (hCX : ∀ H e s', CX [] H s₁ (fun _ _ _ => False) e s' → False) :
    codeAny (model P w) callerA (.call (.ref fa) ⟨[.ref a], []⟩) (fun r s' => r = .ok (.ret (.bool true)) ∧ OldK s₁.heap s'.heap ∧ s'.os = s₁.os ∧ AllBare s'.gens) s₁ := by
  have rv := vals_ints hi
  have lenV := hi.length
  -- from an abstract heap in which nothing but the script may be tracked
  have core : ∀ H : Hp, Only H → SqL K H a (ns.map V.int) → HOk P w H s₁.heap → (∀ b, H b ≠ none → b = a) → (H a ≠ none → K.lookup a = none) →
      codeAny (model P w) callerA (.call (.ref fa) ⟨[.ref a], []⟩) (fun r s' => r = .ok (.ret (.bool true)) ∧ OldK s₁.heap s'.heap ∧ s'.os = s₁.os ∧ AllBare s'.gens) s₁ := by
    intro H hO hS hok hA hK
    have base_of : ∀ {b : Addr} {o : Obj}, s₁.heap.get? b = some o → H b = none → (hidT s₁.heap H).get? b = some o := fun e n => hidT_get e n
    have noA : ∀ {b : Addr} {o : Obj} {es : Array DictEntry} {ep : Nat}, s₁.heap.get? b = some o → o.data = .dict es ep → H b = none := fun {b o es ep} e d => by
      cases q : H b with
      | none => rfl
      | some u =>
        have e' : b = a := hA b (by rw [q]; simp)
        subst e'
        rw [ha] at e; cases e
        have d' : Data.seq vs.toArray _ = Data.dict es ep := d
        cases d'
    have nsK : ∀ {b : Addr} {m : Str → Option Value}, s₁.heap.Ns b m → (hidT s₁.heap H).Ns b m := fun {b m} ⟨o, es, ep, e, d, r⟩ => ⟨o, es, ep, base_of e (noA e d), d, r⟩
    have hKb : K.In (hidT s₁.heap H) := fun b o e => base_of (KX b o e) (by
      cases q : H b with
      | none => rfl
      | some u =>
        have e' : b = a := hA b (by rw [q]; simp)
        subst e'
        rw [hK (by rw [q]; simp)] at e; cases e)
    have hM : Mod K mg (hidT s₁.heap H) := ⟨hKb, nsK hns, ⟨mb, nsK hb, hbb⟩, let ⟨mc, h1, h2⟩ := hlim; ⟨mc, nsK h1, h2⟩⟩
    have e0 : Env0 P w K mg (hidT s₁.heap H) callerA [] s₁ H := ⟨rfl, hM, fun b o e => of_hidT e, Nat.le_of_eq (hidT_size _ _), trivial, fun b hb => absurd (show b ∈ ([] : List Addr) from hb) (by simp), hok, .of_eq hg⟩
    refine codeAny_mono ((F _ hKb (nsK hns)).run callerA [] s₁ H ⟨[.ref a], []⟩ [.ref a] [.ref a] _ _ hr e0 (hbind s₁ (.ref a)) (.cons rfl .nil) (hsp H hO hS)) fun r s' h => ?_
    cases r with
    | error e => exact (hCX H e s' h).elim
    | ok fl =>
      cases fl with
      | next => exact False.elim h
      | brk => exact False.elim h
      | cont => exact False.elim h
      | ret u =>
        obtain ⟨v, H', os, bare, un, hok', r', q⟩ := h
        have q' : v = .bl true := q
        subst q'
        obtain rfl : u = Value.bool true := r'
        refine ⟨rfl, OldK.of_keep fun b o e => ?_, os, bare⟩
        cases q : H b with
        | none => exact un.keep b o e q (by intro z; exact absurd (show b ∈ ([] : List Addr) from z) (by simp)) (by simp)
        | some u =>
          rcases hO b with z | ⟨ob, xs, z⟩
          · rw [q] at z; cases z
          · have z2 := un.frzs b ob _ z
            obtain ⟨e1, _⟩ := hok b _ z
            obtain ⟨e2, _⟩ := hok' b _ z2
            rw [e] at e1; cases e1
            exact e2
  cases hk : K.lookup a with
  | some o =>
    -- the script is one of the module's own objects
    have e := KX a o hk
    rw [ha] at e
    cases e
    refine core (fun _ => none) (fun _ => .inl rfl) (.inr ⟨_, vs.toArray, _, hk, rfl, rfl, rfl, by rw [List.size_toArray, lenV]; exact hl, by simpa using rv⟩) (fun b u z => by have z' : (none : Option HO) = some u := z; cases z') (fun b z => absurd rfl z) fun z => absurd rfl z
  | none =>
    refine core (fun b => if b = a then some (.frz { cls := .type "list", data := .seq vs.toArray } (.lst (ns.map V.int))) else none) (fun b => ?_) (.inl (.inr ⟨{ cls := .type "list", data := .seq vs.toArray }, if_pos rfl⟩)) (fun b u z => ?_) (fun b z => ?_) fun _ => hk
    · by_cases hb : b = a
      · exact .inr ⟨_, _, if_pos hb⟩
      · exact .inl (if_neg hb)
    · by_cases hb : b = a
      · have z' := (if_pos hb).symm.trans z
        cases z'
        subst hb
        exact ⟨ha, by rw [List.length_map]; exact hl, vs, _, rv, ha⟩
      · have z' := (if_neg hb).symm.trans z
        cases z'
    · by_cases hb : b = a
      · exact hb
      · exact absurd (if_neg hb) z
end L2

namespace L2
open PySem PySem.Spec PyProof.Rows

/-- the goal that k_head leaves (case hc), from the law's promise. F gives the function object fd (K's own) once, then the promise over every base -/
theorem walk_of {l : PySem.W.OpenLaw} {n k : Nat} {q : Program} {loose : List Str} {XP : (Str → Option Value) → Heap → Prop} {YP : World → Heap → Prop} {d : DefRec} {K : Params → PySem.W.Frag} {CX : World → CXT} {sp : World → Sp} {x : Str}
    (hn : l.most = some n) (hn2 : n ≤ sizeLine) (hdf : d.params.defaults = []) (hr : Room k callerA)
    (hY : ∀ (w : World) (h : Heap), YP w h → (K w.params).In h)
    (F : ∀ (w : World) (mg : Str → Option Value) (fa : Addr) (h : Heap), (K w.params).In h → h.Ns mainGlobals mg → mg d.name = some (.ref fa) →
      ∃ fd : FuncData, (∀ (s : Shared) (u : Value), BindsTo s fd ⟨[u], []⟩ [(x, u)]) ∧
        ∀ base : Heap, (K w.params).In base → base.Ns mainGlobals mg → FnOk l.prog w (K w.params) mg base (CX w) k fa fd [x] (sp w))
    (hsp : ∀ (w : World) (H : Hp) (a : Addr) (ns : List Int), ns.length ≤ n → Only H → SqL (K w.params) H a (ns.map V.int) → sp w [.ref a] H (fun v _ => v = .bl true) fun _ _ _ => False)
    (hCX : ∀ (w : World) (H : Hp) (s : Shared) (e : Value) (s' : Shared), CX w [] H s (fun _ _ _ => False) e s' → False) :
    PySem.W.WalkO q loose XP YP l.row.toRowW d [] (fun f vs => PySem.call f vs) := by
  refine Att.attach_call hn hdf fun w s₀ s₁ mg mb fa o pm cd doc a vs ns G Y ho hd hcd hmg hobj hints hlen hg => ?_
  have KX := hY w _ Y
  obtain ⟨fd, hb, hF⟩ := F w mg fa _ KX G.T.g hmg
  exact law_call KX G.T.g G.T.b G.T.builtins G.T.nolimit hg hobj hints (Nat.le_trans hlen hn2) hr hF hb (fun H hO hS => hsp w H a ns hlen hO hS) fun H e s' => hCX w H s₁ e s'
end L2

/-! SHORT WORDS over the layer: a def of the text, its body, what a loop and a test want. -/
namespace L2
open PySem PySem.Spec PyProof.Rows

/-! ### the text by places -/
/-- the j-th statement of a class's body -/
def inClass (s : Stmt) (j : Nat) : Stmt := match s with
  | .ClassDef _ _ _ body _ _ _ _ _ _ _ => body.getD j (.Pass ⟨0, 0, 0, 0⟩)
  | _ => .Pass ⟨0, 0, 0, 0⟩
def defArgs (s : Stmt) : Arguments := match s with
  | .FunctionDef _ a _ _ _ _ _ _ _ _ => a
  | _ => { posonlyargs := [], args := [], vararg := none, kwonlyargs := [], kw_defaults := [], kwarg := none, defaults := [] }
def defBody (s : Stmt) : List Stmt := match s with
  | .FunctionDef _ _ b _ _ _ _ _ _ _ => b
  | _ => []
def defScope (s : Stmt) : Scope := match s with
  | .FunctionDef _ _ _ _ _ _ sc _ _ _ => sc
  | _ => { kind := .function, names := [], isGenerator := false, isCoroutine := false }

/-! ### no exception leaves a def -/
abbrev CX0 : CXT := fun _ _ _ _ _ _ => False
abbrev E0 : XK := fun _ _ _ => False
theorem pass0 {X : Cx} : Passes CX0 X E0 := fun _ _ _ _ _ _ _ h => h.elim

/-! ### a def (or method) of the text as it stands behind the top -/
structure Fun (K : PySem.W.Frag) (x qual : Str) (st : Stmt) (f : Addr) (fd : FuncData) : Prop where
  ex : ∃ (oc : Value) (od : Option Addr) (kV doc pm : Value) (an : Option Addr) (cdv ct : Value) (osl : Array (Option Value)),
    fd = PySem.W.fnOf x qual (defArgs st) (defBody st) (defScope st) .none kV doc pm an cdv ct ∧ K.lookup f = some ⟨oc, od, .func fd, osl⟩ ∧ PySem.W.codeIn K cdv qual = true
  kp : PySem.W.keepIn K (.ref f) = true
section
variable {P : Program} {w : World} {K : PySem.W.Frag} {mg : Str → Option Value} {base : Heap}
/-- THE RULE for a def: its body as a term of rules, and the reading of that term -/
theorem Fun.ok {x qual : Str} {st : Stmt} {f : Addr} {fd : FuncData} {N ps : List Str} {k : Nat} {sp : Sp} (F : Fun K x qual st f fd) (S : FnScope N ps (defScope st)) (len : ∀ vs H Q E, sp vs H Q E → vs.length = ps.length)
    (hbody : ∀ (cdv : Value) (A : Around) (outer : List Env) (s : Shared) (H : Hp) (vs : List V) (Q : VK) (E : XK), Room k (A.deeper (envOfC qual (defScope st) s.heap.objs.size f cdv)) → sp vs H Q E →
      ∃ t, PSs (cxOf CX0 P w K mg base N qual (defScope st) f cdv A outer s H E).nox (defBody st) t ∧ t { nx := fun _ H' => Q .non H', rt := Q } (start N vs) H) : FnOk P w K mg base CX0 (k + 1) f fd ps sp := by
  obtain ⟨oc, od, kV, doc, pm, an, cdv, ct, osl, rfl, lk, hcd⟩ := F.ex
  refine fn_of lk hcd S len fun A outer s H vs Q E hr hsp => ?_
  obtain ⟨t, h, q⟩ := hbody cdv A outer s H vs Q E hr hsp
  exact ⟨t, h.nox, q⟩
/-- how its arguments bind (no defaults): h is «fun _ _ _ _ _ _ us hl => match us, hl with | [_, _], _ => rfl», one _ a parameter -/
theorem Fun.binds {x qual : Str} {st : Stmt} {f : Addr} {fd : FuncData} {ps : List Str} (F : Fun K x qual st f fd)
    (h : ∀ (kV doc pm : Value) (an : Option Addr) (cdv ct : Value) (us : List Value), us.length = ps.length → bindArgs (PySem.W.fnOf x qual (defArgs st) (defBody st) (defScope st) .none kV doc pm an cdv ct) ⟨us, []⟩ = pure (ps.zip us)) : Binds K fd ps [] := by
  obtain ⟨oc, od, kV, doc, pm, an, cdv, ct, osl, rfl, lk, hcd⟩ := F.ex
  exact .all (h kV doc pm an cdv ct)
theorem fun_mk {x qual : Str} {st : Stmt} {f : Addr} {oc : Value} {od an : Option Addr} {osl : Array (Option Value)} {kV doc pm cdv ct : Value} (l : K.lookup f = some ⟨oc, od, .func (PySem.W.fnOf x qual (defArgs st) (defBody st) (defScope st) .none kV doc pm an cdv ct), osl⟩)
    (c : PySem.W.codeIn K cdv qual = true) (k : PySem.W.keepIn K (.ref f) = true) : Fun K x qual st f (PySem.W.fnOf x qual (defArgs st) (defBody st) (defScope st) .none kV doc pm an cdv ct) := ⟨⟨oc, od, kV, doc, pm, an, cdv, ct, osl, rfl, l, c⟩, k⟩
end
/-! ### expressions in short: the name that stands in the i-th slot -/
section
variable {X : Cx}
end

/-! ### tests -/
/-! ### heaps -/
/-- all that was tracked is as it was -/
def Same (H H' : Hp) : Prop := ∀ b o, H b = some o → H' b = some o
theorem Same.refl (H : Hp) : Same H H := fun _ _ h => h
theorem Same.trans {H H1 H2 : Hp} (a : Same H H1) (b : Same H1 H2) : Same H H2 := fun c o h => b c o (a c o h)
theorem Same.free {H H' : Hp} (e : Same H H') {l : Addr} (h : H' l = Option.none) : H l = Option.none := by
  cases q : H l with
  | none => rfl
  | some o =>
    rw [e l o q] at h
    cases h
theorem Same.seq {K : PySem.W.Frag} {H H' : Hp} {a : Addr} {xs : List V} (e : Same H H') (h : SqL K H a xs) : SqL K H' a xs := by
  rcases h with (h | ⟨o, h⟩) | h
  · exact .inl (.inl (e _ _ h))
  · exact .inl (.inr ⟨o, e _ _ h⟩)
  · exact .inr h

end L2

set_option Elab.async false
set_option maxHeartbeats 4000000
namespace L2
open PySem PySem.Spec PyProof.Rows
def isStar : Expr → Bool
  | .Starred .. => true
  | _ => false
theorem star_of {e : Expr} {es : List Expr} {env : Env} (h : isStar e = false) : starEach (e :: es) env = (false, eval e env) :: starEach es env := by
  cases e <;> first | rfl | cases h
section
variable {X : Cx}
/-- isinstance(x, T), T a built-in type or an own class that stands as a value -/
def rIsInst (K : PySem.W.Frag) : List V → Hp → VK → Prop := fun xs H Q => ∃ x c t b, xs = [x, c] ∧ (∃ u, RelV c u ∧ (∀ z, RelV c z → z = u) ∧ PySem.W.kitOne K t u = some b) ∧ TyOf K H x t ∧ Q (.bl b) H
theorem call_isinst : CallR X (.builtin "isinstance") (rIsInst X.K) := by
  intro pins s σ H xs us Q I r h
  obtain ⟨x, c, t, b, rfl, ⟨u, rc, hu, e⟩, ty, q⟩ := h
  obtain ⟨u1, u2, rfl, r1, r2⟩ := vals2 r
  obtain rfl := hu _ r2
  exact isinst_ok I r1 ty e fun tk => ⟨.bl b, H, I.tok tk, rfl, q⟩
end
/-- all but p is as it was -/
def Kp (p : Addr) (H H' : Hp) : Prop := ∀ b o, H b = some o → b ≠ p → H' b = some o
theorem Kp.refl (p : Addr) (H : Hp) : Kp p H H := fun _ _ h _ => h
theorem Kp.trans {p : Addr} {H H1 H2 : Hp} (a : Kp p H H1) (b : Kp p H1 H2) : Kp p H H2 := fun c o h n => b c o (a c o h n) n
theorem Kp.upd {p : Addr} {H H1 : Hp} (a : Kp p H H1) {o : HO} : Kp p H (L2.upd H1 p o) := fun c u h n => by rw [upd_ne n]; exact a c u h n
theorem Kp.new {p q : Addr} {H H1 : Hp} (a : Kp p H H1) (hq : H1 q = none) {o : HO} : Kp p H (L2.upd H1 q o) := fun c u h n => by
  have z := a c u h n
  rw [upd_ne (ne_of_none z hq)]; exact z
/-- the draw's box -/
def BoxAt (H : Hp) (p : Addr) : Prop := ∃ a b c d : Int, H p = some (.lst [.int a, .int b, .int c, .int d])
theorem BoxAt.new {H : Hp} {p q : Addr} {o : HO} (h : BoxAt H p) (hq : H q = none) : BoxAt (L2.upd H q o) p := by
  obtain ⟨a, b, c, d, e⟩ := h
  exact ⟨a, b, c, d, by rw [upd_ne (ne_of_none e hq)]; exact e⟩
theorem BoxAt.ne {H : Hp} {p q : Addr} (h : BoxAt H p) (hq : H q = none) : p ≠ q := by
  obtain ⟨a, b, c, d, e⟩ := h
  exact ne_of_none e hq
structure Df (K : PySem.W.Frag) (mg : Str → Option Value) (x : Str) (f : Addr) (fd : FuncData) (ps : List Str) : Prop where
  hm : mg x = some (.ref f)
  kp : PySem.W.keepIn K (.ref f) = true
  b : Binds K fd ps []
end L2

namespace L2
open PySem PySem.Spec PyProof.Rows
/-- all but p is just as it was -/
def Oth (p : Addr) (H H' : Hp) : Prop := ∀ b, b ≠ p → H' b = H b
theorem Oth.refl (p : Addr) (H : Hp) : Oth p H H := fun _ _ => rfl
theorem Oth.trans {p : Addr} {H H1 H2 : Hp} (a : Oth p H H1) (b : Oth p H1 H2) : Oth p H H2 := fun c n => (b c n).trans (a c n)
theorem Oth.upd {p : Addr} {H H1 : Hp} (a : Oth p H H1) {o : HO} : Oth p H (L2.upd H1 p o) := fun c n => by rw [upd_ne n]; exact a c n
theorem Oth.kp {p : Addr} {H H1 : Hp} (a : Oth p H H1) : Kp p H H1 := fun c o h n => by rw [a c n]; exact h
/-- _law_cell_at's -/
def spCell (K : PySem.W.Frag) : Sp := fun vs H Q _ => ∃ (a : Addr) (k : Int) (ns : List Int), vs = [.ref a, .int k] ∧ SqL K H a (ns.map V.int) ∧ 0 ≤ k ∧ ∀ z : Int, Q (.int z) H
end L2

/-! A LIST COMPREHENSION over the layer: [elt for target in iter if test], elt and test raise nothing. -/
namespace L2
open PySem PySem.Spec PyProof.Rows
section
variable {prog : Program} {w : World} {A : Around} {R : Result → Shared → Prop} {s : Shared}
end

/-! ### the cells that the block sees -/
structure CompSc (X : Cx) (scope : Scope) : Prop where
  kind : scope.kind = .function
  nocell : ∀ y ∈ scope.names, y.2 ≠ .cell
  loc : ∀ y ∈ scope.names, y.2 = .local → scope.names.lookup y.1 = some .local
  fr : ∀ x, scope.names.lookup x = some .free → X.env.kindOf x = some .cell ∨ X.env.kindOf x = some .free
  fr2 : ∀ y ∈ scope.names, y.2 = .free → X.env.kindOf y.1 = some .cell ∨ X.env.kindOf y.1 = some .free
theorem mem_of_lookup {α β : Type} [BEq α] [LawfulBEq α] : ∀ {l : List (α × β)} {x : α} {b : β}, l.lookup x = some b → (x, b) ∈ l
  | [], _, _, h => by simp at h
  | (n, k) :: r, x, b, h => by
    cases hx : x == n with
    | true =>
      simp only [List.lookup_cons, hx] at h
      injection h with h
      have : x = n := by simpa using hx
      subst this; subst h
      exact List.mem_cons_self
    | false =>
      simp only [List.lookup_cons, hx] at h
      exact List.mem_cons_of_mem _ (mem_of_lookup h)
end L2

namespace L2
open PySem PySem.Spec PyProof.Rows
section
variable {X : Cx} {pins : List (Addr × Obj)} {σ : St} {H : Hp} {s : Shared} {scope : Scope} {Nc : List Str} {fp : List Addr} {C : Addr}
/-- one object that nobody tracks is changed -/
theorem Inv.but {h' : Heap} (I : Inv X pins σ H s) (hs : Heap.SameBut C s.heap h') (hn : H C = none) (h0 : X.s₀.heap.objs.size ≤ C) (hl : C ≠ X.env.locals) (hc : ∀ x c, X.env.cells.lookup x = some c → c ≠ C)
    (hp : ∀ p ∈ X.pn ++ pins, p.1 ≠ C) : Inv X pins σ H { s with heap := h' } := by
  refine I.call' (s' := { s with heap := h' }) (ch := [C]) rfl ⟨fun b o e _ _ hb => hs.extBut b o (by simpa using hb) e, fun b o e _ _ hb => ⟨o.slots, hs.extBut b o (by simpa using hb) e⟩, fun b o _ n _ => n, fun b o e hb => ⟨o, hs.extBut b o (by simpa using hb) e⟩,
    fun _ _ z => z, fun _ _ _ z => z, fun b ps z => ⟨#[], by simpa using z⟩⟩ (fun a o e => ?_) I.bare ?_
  · refine (I.hok a o e).stay (fun b u hb q => hs.extBut b u ?_ q) (fun _ z => z) fun _ _ z => z
    rcases hb with rfl | hb
    · exact fun z => by rw [z, hn] at e; cases e
    · exact fun z => by rw [z, hn] at hb; cases hb
  · intro b hb
    obtain rfl : b = C := by simpa using hb
    exact ⟨.inr h0, hl, hc, hp⟩
/-- the tests of a comprehension -/
def PTs (X : Cx) (ifs : List Expr) (t : TT) : Prop :=
  ∀ (pins : List (Addr × Obj)) (s : Shared) (σ : St) (H : Hp) (Q : Bool → Hp → Prop), Inv X pins σ H s → t σ H Q →
    wpAny (model X.prog X.w) X.A (forIn ifs true fun c r => if r = true then do let ok ← isTrue c X.env (eval c X.env); pure (ForInStep.yield ok) else pure (ForInStep.yield r)) (TP X pins σ Q) X.xe s
variable {elt iter target : Expr} {ifs : List Expr} {pos : Pos} {n : Nat} {caps : List Nat} {wi : TI} {g : TG} {tt : TT} {te : TE}
end
/-! ### rules whose reading names the written part, for use within a block: the part by its own name -/
section
variable {X : Cx} {K : PySem.W.Frag}
end
/-! ### the forms one uses -/
section
variable {K : PySem.W.Frag} {a D : Addr} {xs : List V} {n : Nat} {caps : List Nat} {g : TG} {tt : TT} {te : TE} {σ : St} {H1 : Hp} {Q : Hp → Prop}
end
end L2

/-! DATA: == and != of lists and tuples of plain things at any depth; max of a list of ints, with and without a default. -/
namespace L2
open PySem PySem.Spec PyProof.Rows
mutual
inductive DatV (K : PySem.W.Frag) (H : Hp) : V → PyData → Prop
  | non : DatV K H .non .none
  | bl (b : Bool) : DatV K H (.bl b) (.bool b)
  | int (i : Int) : DatV K H (.int i) (.int i)
  | str (x : Str) : DatV K H (.str x) (.str x)
  | lst {a : Addr} {xs : List V} {ds : List PyData} : SqL K H a xs → DatVs K H xs ds → DatV K H (.ref a) (.list ds)
  | tup {a : Addr} {xs : List V} {ds : List PyData} : SqT K H a xs → DatVs K H xs ds → DatV K H (.ref a) (.tuple ds)
inductive DatVs (K : PySem.W.Frag) (H : Hp) : List V → List PyData → Prop
  | nil : DatVs K H [] []
  | cons {x : V} {xs : List V} {d : PyData} {ds : List PyData} : DatV K H x d → DatVs K H xs ds → DatVs K H (x :: xs) (d :: ds)
end
section
variable {X : Cx} {pins : List (Addr × Obj)} {σ : St} {H : Hp} {s : Shared}
mutual
theorem reads_of (I : Inv X pins σ H s) : ∀ {v : V} {d : PyData} {u : Value}, DatV X.K H v d → RelV v u → ∃ as, Reads s.heap u d as
  | _, _, _, .non, r => by cases (show _ = Value.none from r); exact ⟨_, .none⟩
  | _, _, _, .bl b, r => by cases (show _ = Value.bool b from r); exact ⟨_, .bool b⟩
  | _, _, _, .int i, r => by obtain ⟨t, rfl⟩ := r; exact ⟨_, .int i t⟩
  | _, _, _, .str x, r => by obtain ⟨t, rfl⟩ := r; exact ⟨_, .str x t⟩
  | _, _, _, .lst (a := a) hq hs, r => by
    cases (show _ = Value.ref a from r)
    obtain ⟨its, rv, pl, _⟩ := I.list hq
    obtain ⟨o, n, e, c, _, dd⟩ := pl
    obtain ⟨as, ra⟩ := readsAll_of I hs rv
    exact ⟨_, .list e c dd (by simpa using ra)⟩
  | _, _, _, .tup (a := a) hq hs, r => by
    cases (show _ = Value.ref a from r)
    obtain ⟨its, rv, pl, _⟩ := I.tuple hq
    obtain ⟨o, e, c, n, dd⟩ := pl
    obtain ⟨as, ra⟩ := readsAll_of I hs rv
    exact ⟨_, .tuple e c dd (by simpa using ra)⟩
theorem readsAll_of (I : Inv X pins σ H s) : ∀ {xs : List V} {ds : List PyData} {us : List Value}, DatVs X.K H xs ds → Vals xs us → ∃ as, ReadsAll s.heap us ds as
  | _, _, _, .nil, .nil => ⟨_, .nil⟩
  | _, _, _, .cons h hs, .cons r rs => by
    obtain ⟨as, ra⟩ := reads_of I h r
    obtain ⟨bs, rb⟩ := readsAll_of I hs rs
    exact ⟨_, .cons ra rb⟩
end
def rEqD (K : PySem.W.Frag) (neg : Bool) : R2 := fun x y H Q => ∃ dx dy, DatV K H x dx ∧ DatV K H y dy ∧ dx.canLay0 = true ∧ dy.canLay0 = true ∧ min dx.depth dy.depth ≤ 64 ∧ Q (.bl (neg ^^ PyData.eqv dx dy)) H
theorem op_eqD (hu : X.A.units + 64 < cLine) : OpR X (compareOp .Eq) (rEqD X.K false) := by
  intro pins s σ H x y v u Q I rx ry h
  obtain ⟨dx, dy, h1, h2, c1, c2, hd, q⟩ := h
  obtain ⟨as, ra⟩ := reads_of I h1 rx
  obtain ⟨bs, rb⟩ := reads_of I h2 ry
  exact PySem.SeqAt.compareEq_reads ra rb c1 c2 (by omega) ⟨.bl (PyData.eqv dx dy), H, I, rfl, by simpa using q⟩
theorem op_neD (hu : X.A.units + 64 < cLine) : OpR X (compareOp .NotEq) (rEqD X.K true) := by
  intro pins s σ H x y v u Q I rx ry h
  obtain ⟨dx, dy, h1, h2, c1, c2, hd, q⟩ := h
  obtain ⟨as, ra⟩ := reads_of I h1 rx
  obtain ⟨bs, rb⟩ := reads_of I h2 ry
  exact PySem.SeqAt.compareNe_reads ra rb c1 c2 (by omega) ⟨.bl (!PyData.eqv dx dy), H, I, rfl, by simpa using q⟩
end

/-! ### max -/
section
variable {prog : Program} {w : World} {A : Around} {R : Result → Shared → Prop} {I : Addr} {fp wr : List Addr} {n : Nat} {P : Nat → Value → Prop} {St : Nat → Heap → Prop}
end
section
variable {X : Cx}
end
end L2

/-! TEXTS: the signs of a text walked, <= of texts, slices, join, split, strip; all of a list of truths. -/
namespace L2
open PySem PySem.Spec PyProof.Rows
section
variable {X : Cx} {tg : Expr}
end
section
variable {X : Cx}
/-- x[lo:hi] of a text -/
def rSlS : V → Option Int → Option Int → Hp → VK → Prop := fun x lo hi H Q => ∃ z, x = .str z ∧ z.length ≤ sizeLine ∧ Q (.str (Txt.slice z lo hi)) H
theorem part_of {v : Value} {o : Option Int} (p : IsPart v o) : ∃ q : Option (Int × Tok), v = partValue q ∧ q.map (·.1) = o := by
  cases p with
  | none => exact ⟨none, rfl, rfl⟩
  | int i t => exact ⟨some (i, t), rfl, rfl⟩
theorem sl_str : SlR X rSlS := by
  intro pins s σ H x v vl vu lo hi sl Q I rx hs pl pu h
  obtain ⟨z, rfl, hz, q⟩ := h
  obtain ⟨t, rfl⟩ := rx
  obtain ⟨ql, rfl, rfl⟩ := part_of pl
  obtain ⟨qu, rfl, rfl⟩ := part_of pu
  obtain ⟨o, ho, hc, hd⟩ := hs
  refine ⟨"str", _, F.slot_str_getitem.lookup, typeIs_str _ _ _, wpAny_getItem_str_slice (l := ql) (u := qu) (st := none) ⟨o, ho, hc, hd⟩ rfl (post_val_or_str ⟨Nat.le_trans (Txt.slice_le z _ _) hz, fun t' k => ?_⟩)⟩
  exact ⟨.str (Txt.slice z (ql.map (·.1)) (qu.map (·.1))), H, I.tok k, ⟨t', rfl⟩, q⟩
end
end L2

set_option Elab.async false
set_option maxHeartbeats 4000000
set_option linter.unusedVariables false
/-! COMPREHENSIONS, the list that grows being nobody else's -/
namespace L2
open PySem PySem.Spec PyProof.Rows
section
variable {X : Cx} {pins : List (Addr × Obj)} {σ : St} {H : Hp} {s : Shared} {scope : Scope} {Nc : List Str} {fp : List Addr} {C : Addr}
variable {elt iter target : Expr} {ifs : List Expr} {pos : Pos} {n : Nat} {caps : List Nat} {wi : TI} {g : TG} {tt : TT} {te : TE}
end
end L2

set_option Elab.async false
set_option maxHeartbeats 4000000
namespace L2
open PySem PySem.Spec PyProof.Rows

/-! ### lists of pairs as tables -/
section
variable {κ : Type} [DecidableEq κ]
def valV (kvs : List (κ × V)) (k : κ) : Option V := (kvs.find? fun kv => decide (kv.1 = k)).map (·.2)
/-- in its place, or at the end -/
def putK (kvs : List (κ × V)) (k : κ) (v : V) : List (κ × V) :=
  if (kvs.any fun kv => decide (kv.1 = k)) = true then kvs.map (fun kv => if kv.1 = k then (kv.1, v) else kv) else kvs ++ [(k, v)]
def dropK (kvs : List (κ × V)) (k : κ) : List (κ × V) := kvs.filter fun kv => decide (kv.1 ≠ k)

theorem valV_pos {p : κ × V} {r : List (κ × V)} {k : κ} (e : p.1 = k) : valV (p :: r) k = some p.2 := by simp [valV, List.find?_cons, e]
theorem valV_neg {p : κ × V} {r : List (κ × V)} {k : κ} (e : ¬ p.1 = k) : valV (p :: r) k = valV r k := by simp [valV, List.find?_cons, e]
theorem valV_any (k : κ) : ∀ kvs : List (κ × V), (kvs.any fun kv => decide (kv.1 = k)) = (valV kvs k).isSome
  | [] => rfl
  | p :: r => by
    rw [List.any_cons]
    by_cases e : p.1 = k
    · simp only [valV_pos e, decide_eq_true e, Bool.true_or, Option.isSome_some]
    · rw [valV_neg e, decide_eq_false e, Bool.false_or]; exact valV_any k r
theorem RelO.isSome_eq {o : Option V} {u : Option Value} (r : RelO o u) : o.isSome = u.isSome := by
  cases o with
  | none => cases u with
    | none => rfl
    | some _ => exact (show False from r).elim
  | some _ => cases u with
    | none => exact (show False from r).elim
    | some _ => rfl
theorem RelO.getD {o : Option V} {u : Option Value} {d : V} {d' : Value} (r : RelO o u) (rd : RelV d d') : RelV (o.getD d) (u.getD d') := by
  cases o with
  | none => cases u with
    | none => exact rd
    | some _ => exact (show False from r).elim
  | some _ => cases u with
    | none => exact (show False from r).elim
    | some _ => exact r

/-- raw tables of the same keys -/
theorem KV.val {kvs : List (κ × V)} {vs : List (κ × Value)} (r : KV kvs vs) (k : κ) : RelO (valV kvs k) (valueAt vs k) := by
  unfold KV at r
  induction r with
  | nil => exact True.intro
  | @cons p q ps qs h t ih =>
    obtain ⟨h1, h2⟩ := h
    by_cases e : p.1 = k
    · have e' : q.1 = k := h1.symm.trans e
      have b : valueAt (q :: qs) k = some q.2 := by simp [valueAt, List.find?_cons, e']
      rw [valV_pos e, b]; exact h2
    · have e' : ¬ q.1 = k := fun z => e (h1.trans z)
      have b : valueAt (q :: qs) k = valueAt qs k := by simp [valueAt, List.find?_cons, e']
      rw [valV_neg e, b]; exact ih
theorem KV.any {kvs : List (κ × V)} {vs : List (κ × Value)} (r : KV kvs vs) (k : κ) : (kvs.any fun kv => decide (kv.1 = k)) = vs.any fun kv => decide (kv.1 = k) := by
  unfold KV at r
  induction r with
  | nil => rfl
  | cons h t ih => rw [List.any_cons, List.any_cons, ih, h.1]
theorem KV.repl {kvs : List (κ × V)} {vs : List (κ × Value)} (r : KV kvs vs) (k : κ) {y : V} {u : Value} (ry : RelV y u) :
    KV (kvs.map fun kv => if kv.1 = k then (kv.1, y) else kv) (vs.map fun kv => if kv.1 = k then (kv.1, u) else kv) := by
  unfold KV at r ⊢
  induction r with
  | nil => exact .nil
  | @cons p q ps qs h t ih =>
    rw [List.map_cons, List.map_cons]
    refine .cons ?_ ih
    obtain ⟨h1, h2⟩ := h
    by_cases e : p.1 = k
    · rw [if_pos e, if_pos (h1.symm.trans e)]; exact ⟨h1, ry⟩
    · rw [if_neg e, if_neg (fun z => e (h1.trans z))]; exact ⟨h1, h2⟩
theorem KV.put {kvs : List (κ × V)} {vs : List (κ × Value)} (r : KV kvs vs) (k : κ) {y : V} {u : Value} (ry : RelV y u) : KV (putK kvs k y) (stored vs k u) := by
  unfold putK stored
  rw [r.any k]
  by_cases e : (vs.any fun kv => decide (kv.1 = k)) = true
  · rw [if_pos e, if_pos e]; exact r.repl k ry
  · rw [if_neg e, if_neg e]; exact Paired.snoc r ⟨rfl, ry⟩
theorem KV.drop {kvs : List (κ × V)} {vs : List (κ × Value)} (r : KV kvs vs) (k : κ) : KV (dropK kvs k) (without vs k) := by
  unfold KV at r ⊢
  unfold dropK without
  induction r with
  | nil => exact .nil
  | @cons p q ps qs h t ih =>
    obtain ⟨h1, h2⟩ := h
    rw [List.filter_cons, List.filter_cons]
    by_cases e : p.1 = k
    · have a : ¬ decide (p.1 ≠ k) = true := by simp [e]
      have b : ¬ decide (q.1 ≠ k) = true := by simp [h1.symm.trans e]
      rw [if_neg a, if_neg b]; exact ih
    · have e' : ¬ q.1 = k := fun z => e (h1.trans z)
      have a : decide (p.1 ≠ k) = true := by simp [e]
      have b : decide (q.1 ≠ k) = true := by simp [e']
      rw [if_pos a, if_pos b]; exact .cons ⟨h1, h2⟩ ih
theorem KV.length {kvs : List (κ × V)} {vs : List (κ × Value)} (r : KV kvs vs) : kvs.length = vs.length := Paired.length r
end

/-! ### a tracked dict, its keys ints and texts or tuples of these -/
/-- raw entries of a dict with tuple keys -/
abbrev KT (H : Hp) : List (List Key × V) → List (List Key × Addr × Value) → Prop := Paired fun p q => p.1 = q.1 ∧ H q.2.1 = some (.tup (p.1.map kV)) ∧ RelV p.2 q.2.2
theorem KT.val {H : Hp} {kvs : List (List Key × V)} {xs : List (List Key × Addr × Value)} (r : KT H kvs xs) (k : List Key) : RelO (valV kvs k) ((atKey xs k).map (·.2)) := by
  induction r with
  | nil => exact True.intro
  | @cons p q ps qs h t ih =>
    obtain ⟨h1, _, h2⟩ := h
    by_cases e : p.1 = k
    · have e' : q.1 = k := h1.symm.trans e
      have b : atKey (q :: qs) k = some q.2 := by simp [atKey, List.find?_cons, e']
      rw [valV_pos e, b]; exact h2
    · have e' : ¬ q.1 = k := fun z => e (h1.trans z)
      have b : atKey (q :: qs) k = atKey qs k := by simp [atKey, List.find?_cons, e']
      rw [valV_neg e, b]; exact ih
theorem KT.repl {H : Hp} {kvs : List (List Key × V)} {xs : List (List Key × Addr × Value)} (r : KT H kvs xs) (k : List Key) {y : V} {u : Value} (ry : RelV y u) :
    KT H (kvs.map fun kv => if kv.1 = k then (kv.1, y) else kv) (xs.map (putAt k u)) := by
  induction r with
  | nil => exact .nil
  | @cons p q ps qs h t ih =>
    rw [List.map_cons, List.map_cons]
    refine .cons ?_ ih
    obtain ⟨h1, h2, h3⟩ := h
    unfold putAt
    by_cases e : p.1 = k
    · rw [if_pos e, if_pos (h1.symm.trans e)]; exact ⟨h1, h2, ry⟩
    · rw [if_neg e, if_neg (fun z => e (h1.trans z))]; exact ⟨h1, h2, h3⟩
theorem KT.put {H : Hp} {kvs : List (List Key × V)} {xs : List (List Key × Addr × Value)} (r : KT H kvs xs) (k : List Key) {b : Addr} {y : V} {u : Value} (hb : H b = some (.tup (k.map kV))) (ry : RelV y u) :
    KT H (putK kvs k y) (storedH xs k b u) := by
  have e : (kvs.any fun kv => decide (kv.1 = k)) = (atKey xs k).isSome := by
    rw [valV_any, (r.val k).isSome_eq, Option.isSome_map]
  unfold putK storedH
  rw [e]
  by_cases q : (atKey xs k).isSome = true
  · rw [if_pos q, if_pos q]; exact r.repl k ry
  · rw [if_neg q, if_neg q]; exact Paired.snoc r ⟨rfl, hb, ry⟩
theorem KT.keeps {H H' : Hp} {kvs : List (List Key × V)} {xs : List (List Key × Addr × Value)} (r : KT H kvs xs) (ht : ∀ b ys, H b = some (.tup ys) → H' b = some (.tup ys)) : KT H' kvs xs :=
  Paired.mapP r fun _ _ z => ⟨z.1, ht _ _ z.2.1, z.2.2⟩

section
variable {P : Program} {w : World} {H : Hp} {h : Heap} {a : Addr}
end

/-- what the dict at a holds at the key y -/
def DGet (H : Hp) (a : Addr) (y : V) (r : Option V) : Prop :=
  (∃ kvs k, Rd H a (.dK kvs) ∧ y = kV k ∧ r = valV kvs k) ∨ ∃ kvs k b, Rd H a (.dT kvs) ∧ y = .ref b ∧ H b = some (.tup (k.map kV)) ∧ r = valV kvs k
/-- the heap behind a[y] = v -/
def DPut (H : Hp) (a : Addr) (y v : V) (H' : Hp) : Prop :=
  (∃ kvs k, H a = some (.dK kvs) ∧ y = kV k ∧ kvs.length < sizeLine ∧ H' = upd H a (.dK (putK kvs k v))) ∨
  ∃ kvs k b, H a = some (.dT kvs) ∧ y = .ref b ∧ H b = some (.tup (k.map kV)) ∧ kvs.length < sizeLine ∧ H' = upd H a (.dT (putK kvs k v))
theorem DGet.k {H : Hp} {a : Addr} {kvs : List (Key × V)} {k : Key} (e : H a = some (.dK kvs)) : DGet H a (kV k) (valV kvs k) := .inl ⟨kvs, k, .inl e, rfl, rfl⟩
theorem DGet.t {H : Hp} {a b : Addr} {kvs : List (List Key × V)} {k : List Key} (e : H a = some (.dT kvs)) (eb : H b = some (.tup (k.map kV))) : DGet H a (.ref b) (valV kvs k) := .inr ⟨kvs, k, b, .inl e, rfl, eb, rfl⟩
theorem DPut.k {H : Hp} {a : Addr} {kvs : List (Key × V)} {k : Key} {v : V} (e : H a = some (.dK kvs)) (hl : kvs.length < sizeLine) : DPut H a (kV k) v (upd H a (.dK (putK kvs k v))) := .inl ⟨kvs, k, e, rfl, hl, rfl⟩
theorem DPut.t {H : Hp} {a b : Addr} {kvs : List (List Key × V)} {k : List Key} {v : V} (e : H a = some (.dT kvs)) (eb : H b = some (.tup (k.map kV))) (hl : kvs.length < sizeLine) :
    DPut H a (.ref b) v (upd H a (.dT (putK kvs k v))) := .inr ⟨kvs, k, b, e, rfl, eb, hl, rfl⟩

section
variable {X : Cx} {pins : List (Addr × Obj)} {σ : St} {H : Hp} {s : Shared} {a : Addr} {y v : V} {u r : Value} {o : Option V} {A : Around} {E : Value → Shared → Prop}

end

section
variable {X : Cx} {pins : List (Addr × Obj)} {σ : St} {H : Hp} {s : Shared} {a : Addr} {kvs : List (Key × V)} {k : Key} {u : Value} {A : Around} {E : Value → Shared → Prop}
end

/-! ### readings and rules -/
section
variable {X : Cx} {o i e value : Expr} {pos pos' tpos : Pos} {td ty tv : TE}
end

/-! ### displays -/
section
variable {X : Cx} {pos : Pos}
end

/-! ### methods -/
/-- a method call o.m(e) of a built-in, with one argument: what must be seen of the text -/
structure M1 (X : Cx) (o : Expr) (m : Str) (apos : Pos) (e : Expr) (cpos : Pos) : Prop where
  base : attributeBase o m X.env (eval o X.env) = eval o X.env
  few : ((backTo cpos (starEach [e] X.env)).all (fun x => !x.1) && (backToKw cpos (keywordEach [] X.env)).all (fun x => x.1.isSome)
    && decide (([e] : List Expr).length + ([] : List Keyword).length + (if ([] : List Keyword).isEmpty then 0 else 1) < 30)) = true
  line : (apos.endLine == cpos.line) = true
  trees : backTo cpos (starEach [e] X.env) = [(false, eval e X.env)]
structure M2 (X : Cx) (o : Expr) (m : Str) (apos : Pos) (e f : Expr) (cpos : Pos) : Prop where
  base : attributeBase o m X.env (eval o X.env) = eval o X.env
  few : ((backTo cpos (starEach [e, f] X.env)).all (fun x => !x.1) && (backToKw cpos (keywordEach [] X.env)).all (fun x => x.1.isSome)
    && decide (([e, f] : List Expr).length + ([] : List Keyword).length + (if ([] : List Keyword).isEmpty then 0 else 1) < 30)) = true
  line : (apos.endLine == cpos.line) = true
  trees : backTo cpos (starEach [e, f] X.env) = [(false, eval e X.env), (false, eval f X.env)]

section
variable {X : Cx} {pins : List (Addr × Obj)} {σ : St} {H : Hp} {s : Shared} {a : Addr} {y d : V} {u r : Value} {o : Option V} {A : Around} {E : Value → Shared → Prop}
end

section
variable {X : Cx} {o e f : Expr} {apos cpos : Pos} {td ty tx : TE}
end

/-! ### dict(d): a copy -/
section
variable {X : Cx} {pins : List (Addr × Obj)} {σ : St} {H : Hp} {s : Shared} {a : Addr} {kvs : List (Key × V)} {A : Around} {E : Value → Shared → Prop}
end

section
variable {X : Cx} {pins : List (Addr × Obj)} {σ : St} {H : Hp} {s : Shared} {a : Addr} {y : V} {u : Value} {A : Around} {E : Value → Shared → Prop}
end
end L2
namespace L2
open PySem PySem.Spec PyProof.Rows

/-! ### a dict's pairs: keys that differ -/
section
variable {κ : Type} [DecidableEq κ]
end
end L2

set_option Elab.async false
set_option maxHeartbeats 4000000
set_option linter.unusedVariables false
/-! DICTS of ints and texts, walked: while a loop goes through one, it is held to its object; it may be read then. -/
namespace L2
open PySem PySem.Spec PyProof.Rows
/-- the object of a dict with these pairs, in this world -/
def DObj (w : World) (od : Obj) (kvs : List (Key × V)) : Prop := kvs.length ≤ sizeLine ∧ ∀ P : Program, ∃ vs, KV kvs vs ∧ od.IsDictOf (mixKind P w) vs
def fzH (w : World) (a : Addr) (od : Obj) (kvs : List (Key × V)) : HO := .ext fun h => h.get? a = some od ∧ DObj w od kvs ∧ (a == sysModules) = false
section
variable {X : Cx} {pins : List (Addr × Obj)} {σ : St} {H : Hp} {s : Shared} {a d : Addr} {od : Obj} {kvs : List (Key × V)} {k : Key} {y v : V} {u r : Value} {A : Around} {E : Value → Shared → Prop}
/-! ### the walk by keys -/
/-! ### the walk by pairs -/
/-! ### list(d) -/
/-! ### rules -/
end
end L2

set_option Elab.async false
set_option maxHeartbeats 4000000
set_option linter.unusedVariables false
/-! TREES: values as trees (tuples, lists that nobody changes), and a store of the objects that are changed. -/
namespace T2
open PySem L2

inductive T where
  | non | bl (b : Bool) | int (i : Int) | str (x : Str) | tup (ts : List T) | lst (ts : List T) | scr (ns : List Int) | ref (a : Addr) | ty (n : String)
inductive O where
  | lst (ts : List T) | dK (kvs : List (Key × T)) | dT (kvs : List (List Key × T)) | ins (C : Addr) (fs : List (Str × T))
  /-- a dict while it is walked -/
  | fK (w : World) (od : Obj) (vs : List (Key × V)) (kvs : List (Key × T))
  /-- an exception of an own class -/
  | exc (C : Addr) (fs : List (Str × T))
abbrev Sto := Addr → Option O
def xObj (C t0 : Addr) (dx : Option Addr) : Obj := { cls := .ref C, dict := dx, data := .fields #[.ref t0, .none, .none, .none, .bool false, .none] }
def xH (C a : Addr) (dx : Option Addr) : HO := .ext fun h => ∃ t0, h.get? a = some (xObj C t0 dx)
def put (S : Sto) (a : Addr) (o : O) : Sto := fun b => if b = a then some o else S b
theorem put_same {S : Sto} {a : Addr} {o : O} : put S a o a = some o := by unfold put; rw [if_pos rfl]
theorem put_ne {S : Sto} {a b : Addr} {o : O} (h : b ≠ a) : put S a o b = S b := by unfold put; rw [if_neg h]
theorem put_put {S : Sto} {a : Addr} {o u : O} : put (put S a o) a u = put S a u := by
  funext b; unfold put; split <;> rfl

abbrev Fg := PySem.W.Frag
/-- the script: read, never changed -/
def Scr (K : Fg) (H : Hp) (S : Sto) (p : Addr) (ns : List Int) : Prop := (S p = none ∧ ∃ o, H p = some (.frz o (.lst (ns.map V.int)))) ∨ SqL K (fun _ => none) p (ns.map V.int)
mutual
inductive Rp (K : Fg) (H : Hp) (S : Sto) : T → V → Prop
  | non : Rp K H S .non .non
  | bl {b} : Rp K H S (.bl b) (.bl b)
  | int {i} : Rp K H S (.int i) (.int i)
  | str {x} : Rp K H S (.str x) (.str x)
  | ty {n} : Rp K H S (.ty n) (.ty n)
  | ref {a} : Rp K H S (.ref a) (.ref a)
  | tup {p ts vs} : S p = none → H p = some (.tup vs) → Rps K H S ts vs → Rp K H S (.tup ts) (.ref p)
  | lst {p ts vs} : S p = none → H p = some (.lst vs) → Rps K H S ts vs → Rp K H S (.lst ts) (.ref p)
  | scr {p ns} : Scr K H S p ns → Rp K H S (.scr ns) (.ref p)
inductive Rps (K : Fg) (H : Hp) (S : Sto) : List T → List V → Prop
  | nil : Rps K H S [] []
  | cons {t v ts vs} : Rp K H S t v → Rps K H S ts vs → Rps K H S (t :: ts) (v :: vs)
end
/-- what is not tracked stays -/
def Fr (H : Hp) (S : Sto) (H' : Hp) (S' : Sto) : Prop := ∀ a o, H a = some o → S a = none → H' a = some o ∧ S' a = none
theorem Fr.refl {H S} : Fr H S H S := fun _ _ h n => ⟨h, n⟩
theorem Fr.trans {H S H1 S1 H2 S2} (f : Fr H S H1 S1) (g : Fr H1 S1 H2 S2) : Fr H S H2 S2 := fun a o h n => by
  obtain ⟨h1, n1⟩ := f a o h n
  exact g a o h1 n1
section
variable {K : Fg} {H H' : Hp} {S S' : Sto}
theorem Scr.fr {p ns} (h : Scr K H S p ns) (f : Fr H S H' S') : Scr K H' S' p ns := by
  rcases h with ⟨n, o, e⟩ | h
  · obtain ⟨e', n'⟩ := f p _ e n
    exact .inl ⟨n', o, e'⟩
  · exact .inr h
theorem Scr.sq {p ns} (h : Scr K H S p ns) : SqL K H p (ns.map V.int) := by
  rcases h with ⟨_, o, e⟩ | h
  · exact .inl (.inr ⟨o, e⟩)
  · rcases h with (h | ⟨o, h⟩) | h
    · cases h
    · cases h
    · exact .inr h
mutual
theorem Rp.fr (f : Fr H S H' S') : ∀ {t v}, Rp K H S t v → Rp K H' S' t v
  | _, _, .non => .non
  | _, _, .bl => .bl
  | _, _, .int => .int
  | _, _, .str => .str
  | _, _, .ty => .ty
  | _, _, .ref => .ref
  | _, _, .tup n h r => .tup (f _ _ h n).2 (f _ _ h n).1 (Rps.fr f r)
  | _, _, .lst n h r => .lst (f _ _ h n).2 (f _ _ h n).1 (Rps.fr f r)
  | _, _, .scr h => .scr (h.fr f)
theorem Rps.fr (f : Fr H S H' S') : ∀ {ts vs}, Rps K H S ts vs → Rps K H' S' ts vs
  | _, _, .nil => .nil
  | _, _, .cons a b => .cons (Rp.fr f a) (Rps.fr f b)
end
theorem Rps.length : ∀ {ts vs}, Rps K H S ts vs → vs.length = ts.length
  | _, _, .nil => rfl
  | _, _, .cons _ b => by simp [Rps.length b]
theorem Rps.append : ∀ {ts vs us ws}, Rps K H S ts vs → Rps K H S us ws → Rps K H S (ts ++ us) (vs ++ ws)
  | _, _, _, _, .nil, r => r
  | _, _, _, _, .cons a b, r => .cons a (Rps.append b r)
theorem Rps.drop : ∀ {ts vs} (n : Nat), Rps K H S ts vs → Rps K H S (ts.drop n) (vs.drop n)
  | _, _, 0, r => r
  | _, _, _ + 1, .nil => .nil
  | _, _, n + 1, .cons _ b => Rps.drop n b
theorem Rps.take : ∀ {ts vs} (n : Nat), Rps K H S ts vs → Rps K H S (ts.take n) (vs.take n)
  | _, _, 0, _ => .nil
  | _, _, _ + 1, .nil => .nil
  | _, _, n + 1, .cons a b => .cons a (Rps.take n b)
theorem Rps.set {t v} (r : Rp K H S t v) : ∀ {ts vs} (i : Nat), Rps K H S ts vs → Rps K H S (ts.set i t) (vs.set i v)
  | _, _, _, .nil => .nil
  | _, _, 0, .cons _ b => .cons r b
  | _, _, i + 1, .cons a b => .cons a (Rps.set r i b)
theorem Rps.get : ∀ {ts vs} {i : Nat} {t}, Rps K H S ts vs → ts[i]? = some t → ∃ v, vs[i]? = some v ∧ Rp K H S t v
  | _, _, _, _, .nil, e => by simp at e
  | _, _, 0, _, .cons a _, e => by simp at e; subst e; exact ⟨_, rfl, a⟩
  | _, _, i + 1, _, .cons _ b, e => by
    obtain ⟨v, h1, h2⟩ := Rps.get (i := i) b (by simpa using e)
    exact ⟨v, by simpa using h1, h2⟩
theorem Rps.ints {ns : List Int} : Rps K H S (ns.map T.int) (ns.map V.int) := by
  induction ns with
  | nil => exact .nil
  | cons a l ih => exact .cons .int ih
theorem Rps.strs {ns : List Str} : Rps K H S (ns.map T.str) (ns.map V.str) := by
  induction ns with
  | nil => exact .nil
  | cons a l ih => exact .cons .str ih
theorem Rps.reverse {ts vs} (r : Rps K H S ts vs) : Rps K H S ts.reverse vs.reverse := by
  induction r using Rps.rec (motive_1 := fun _ _ _ => True) with
  | nil => exact .nil
  | cons a b _ ih => simp only [List.reverse_cons]; exact ih.append (.cons a .nil)
  | _ => trivial
end
/-- what stands at a tracked address -/
inductive ORp (K : Fg) (H : Hp) (S : Sto) (a : Addr) : O → Prop
  | lst {ts vs} : H a = some (.lst vs) → Rps K H S ts vs → ORp K H S a (.lst ts)
  | dK {kvs kts} : H a = some (.dK kvs) → Paired (fun (p : Key × T) (q : Key × V) => p.1 = q.1 ∧ Rp K H S p.2 q.2) kts kvs → ORp K H S a (.dK kts)
  | dT {kvs kts} : H a = some (.dT kvs) → Paired (fun (p : List Key × T) (q : List Key × V) => p.1 = q.1 ∧ Rp K H S p.2 q.2) kts kvs → ORp K H S a (.dT kts)
  | fK {w od kvs kts} : H a = some (fzH w a od kvs) → Paired (fun (p : Key × T) (q : Key × V) => p.1 = q.1 ∧ Rp K H S p.2 q.2) kts kvs → ORp K H S a (.fK w od kvs kts)
  | ins {C dx fs fts} : H a = some (.ins C dx fs) → Paired (fun (p : Str × T) (q : Str × V) => p.1 = q.1 ∧ Rp K H S p.2 q.2) fts fs → ORp K H S a (.ins C fts)
  | exc0 {C} : H a = some (xH C a none) → ORp K H S a (.exc C [])
  | exc {C dx fs fts} : fts ≠ [] → H a = some (xH C a (some dx)) → S dx = none → H dx = some (.xd fs) → Paired (fun (p : Str × T) (q : Str × V) => p.1 = q.1 ∧ Rp K H S p.2 q.2) fts fs → ORp K H S a (.exc C fts)
def SRp (K : Fg) (H : Hp) (S : Sto) : Prop := ∀ a o, S a = some o → ORp K H S a o
section
variable {K : Fg} {H H' : Hp} {S S' : Sto} {a : Addr} {o : O}
theorem ORp.some (r : ORp K H S a o) : ∃ u, H a = some u := by cases r <;> exact ⟨_, ‹H a = some _›⟩
theorem SRp.fresh (s : SRp K H S) (h : H a = none) : S a = none := by
  cases e : S a with
  | none => rfl
  | some o => obtain ⟨u, q⟩ := (s a o e).some; rw [h] at q; cases q
/-- the same objects, elsewhere things may have changed -/
theorem ORp.fr (r : ORp K H S a o) (f : Fr H S H' S') (h : H' a = H a) : ORp K H' S' a o := by
  cases r with
  | lst e q => exact .lst (h.trans e) (q.fr f)
  | dK e q => exact .dK (h.trans e) (Paired.mapP q fun _ _ z => ⟨z.1, z.2.fr f⟩)
  | dT e q => exact .dT (h.trans e) (Paired.mapP q fun _ _ z => ⟨z.1, z.2.fr f⟩)
  | fK e q => exact .fK (h.trans e) (Paired.mapP q fun _ _ z => ⟨z.1, z.2.fr f⟩)
  | ins e q => exact .ins (h.trans e) (Paired.mapP q fun _ _ z => ⟨z.1, z.2.fr f⟩)
  | exc0 e => exact .exc0 (h.trans e)
  | exc ne e n ed q => exact .exc ne (h.trans e) (f _ _ ed n).2 (f _ _ ed n).1 (Paired.mapP q fun _ _ z => ⟨z.1, z.2.fr f⟩)
/-- a new object, not tracked -/
theorem Fr.new {p : Addr} {u : HO} (h : H p = none) : Fr H S (upd H p u) S := fun a o e n => ⟨by rw [upd_ne (ne_of_none e h)]; exact e, n⟩
theorem SRp.new {p : Addr} {u : HO} (s : SRp K H S) (h : H p = none) : SRp K (upd H p u) S := fun a o e => by
  obtain ⟨x, hx⟩ := (s a o e).some
  exact (s a o e).fr (Fr.new h) (upd_ne (ne_of_none hx h))
/-- a new object, tracked -/
theorem Fr.newT {p : Addr} {u : HO} {o : O} (h : H p = none) : Fr H S (upd H p u) (put S p o) := fun a _ e n =>
  ⟨by rw [upd_ne (ne_of_none e h)]; exact e, by rw [put_ne (ne_of_none e h)]; exact n⟩
theorem SRp.newT {p : Addr} {u : HO} {o : O} (s : SRp K H S) (h : H p = none) (n : ORp K (upd H p u) (put S p o) p o) : SRp K (upd H p u) (put S p o) := fun a o' e => by
  by_cases ha : a = p
  · subst ha; rw [put_same] at e; cases e; exact n
  · rw [put_ne ha] at e
    exact (s a o' e).fr (Fr.newT h) (upd_ne ha)
/-- a tracked object is changed -/
theorem Fr.write {p : Addr} {u : HO} {o : O} (h : S p ≠ none) : Fr H S (upd H p u) (put S p o) := fun a _ e n =>
  have ne : a ≠ p := fun z => by subst z; exact h n
  ⟨by rw [upd_ne ne]; exact e, by rw [put_ne ne]; exact n⟩
theorem SRp.write {p : Addr} {u : HO} {o : O} (s : SRp K H S) (h : S p ≠ none) (n : ORp K (upd H p u) (put S p o) p o) : SRp K (upd H p u) (put S p o) := fun a o' e => by
  by_cases ha : a = p
  · subst ha; rw [put_same] at e; cases e; exact n
  · rw [put_ne ha] at e
    exact (s a o' e).fr (Fr.write h) (upd_ne ha)
/-- forgetting -/
def Le (S0 S : Sto) : Prop := ∀ a o, S0 a = some o → S a = some o
theorem Le.refl {S} : Le S S := fun _ _ h => h
theorem Le.none {S0 S : Sto} (l : Le S0 S) {a : Addr} (h : S a = none) : S0 a = none := by
  cases e : S0 a with
  | none => rfl
  | some o => rw [l a o e] at h; cases h
theorem Fr.le {S0 : Sto} (l : Le S0 S) : Fr H S H S0 := fun _ _ h n => ⟨h, l.none n⟩
theorem SRp.le {S0 : Sto} (s : SRp K H S) (l : Le S0 S) : SRp K H S0 := fun a o e => (s a o (l a o e)).fr (Fr.le l) rfl
end
/-! ### readings over trees -/
abbrev StT := List (Option T)
abbrev WE := StT → Sto → (T → Sto → Prop) → Prop
abbrev WT := StT → Sto → (Bool → Sto → Prop) → Prop
abbrev WA := StT → Sto → (List T → Sto → Prop) → Prop
structure EndsT where
  nx : StT → Sto → Prop
  rt : T → Sto → Prop
  bk : StT → Sto → Prop := fun _ _ => False
  ct : StT → Sto → Prop := fun _ _ => False
abbrev WS := EndsT → StT → Sto → Prop
/-- the names' values -/
def Cov (K : Fg) (H : Hp) (S : Sto) (σ : St) (σt : StT) : Prop := σt.length = σ.length ∧ ∀ (i : Nat) (t : T), σt[i]? = some (some t) → ∃ v : V, σ[i]? = some (some v) ∧ Rp K H S t v
theorem Cov.fr {K H S H' S' σ σt} (c : Cov K H S σ σt) (f : Fr H S H' S') : Cov K H' S' σ σt := ⟨c.1, fun i t e => by
  obtain ⟨v, h, r⟩ := c.2 i t e
  exact ⟨v, h, r.fr f⟩⟩
theorem Cov.set {K H S σ σt t v} (c : Cov K H S σ σt) (r : Rp K H S t v) (i : Nat) : Cov K H S (σ.set i (some v)) (σt.set i (some t)) := by
  refine ⟨by simp [c.1], fun j u e => ?_⟩
  by_cases h : i = j
  · subst h
    by_cases hl : i < σt.length
    · rw [List.getElem?_set_self hl] at e
      cases e
      exact ⟨v, List.getElem?_set_self (by rw [← c.1]; exact hl), r⟩
    · rw [List.getElem?_eq_none (by simp; omega)] at e; cases e
  · rw [List.getElem?_set_ne h] at e ⊢
    exact c.2 j u e
/-- behind an expression -/
abbrev Bh (K : Fg) (H : Hp) (S : Sto) (Qt : T → Sto → Prop) (Q : VK) : Prop := ∀ v H' t S', Fr H S H' S' → SRp K H' S' → Rp K H' S' t v → Qt t S' → Q v H'
def lE (K : Fg) (w : WE) : TE := fun σ H Q => ∃ S σt Qt, SRp K H S ∧ Cov K H S σ σt ∧ w σt S Qt ∧ Bh K H S Qt Q
def lT (K : Fg) (w : WT) : TT := fun σ H Q => ∃ S σt Qt, SRp K H S ∧ Cov K H S σ σt ∧ w σt S Qt ∧ ∀ b H' S', Fr H S H' S' → SRp K H' S' → Qt b S' → Q b H'
def lA (K : Fg) (w : WA) : TA := fun σ H Q => ∃ S σt Qt, SRp K H S ∧ Cov K H S σ σt ∧ w σt S Qt ∧ ∀ vs H' ts S', Fr H S H' S' → SRp K H' S' → Rps K H' S' ts vs → Qt ts S' → Q vs H'
structure EndsOk (K : Fg) (H : Hp) (S : Sto) (Dt : EndsT) (D : Ends) : Prop where
  nx : ∀ σ' H' σt' S', Fr H S H' S' → SRp K H' S' → Cov K H' S' σ' σt' → Dt.nx σt' S' → D.nx σ' H'
  rt : ∀ v H' t S', Fr H S H' S' → SRp K H' S' → Rp K H' S' t v → Dt.rt t S' → D.rt v H'
  bk : ∀ σ' H' σt' S', Fr H S H' S' → SRp K H' S' → Cov K H' S' σ' σt' → Dt.bk σt' S' → D.bk σ' H'
  ct : ∀ σ' H' σt' S', Fr H S H' S' → SRp K H' S' → Cov K H' S' σ' σt' → Dt.ct σt' S' → D.ct σ' H'
theorem EndsOk.fr {K H S H' S' Dt D} (e : EndsOk K H S Dt D) (f : Fr H S H' S') : EndsOk K H' S' Dt D :=
  ⟨fun σ' H2 σt' S2 g => e.nx σ' H2 σt' S2 (f.trans g), fun v H2 t S2 g => e.rt v H2 t S2 (f.trans g), fun σ' H2 σt' S2 g => e.bk σ' H2 σt' S2 (f.trans g), fun σ' H2 σt' S2 g => e.ct σ' H2 σt' S2 (f.trans g)⟩
def lS (K : Fg) (w : WS) : TS := fun D σ H => ∃ S σt Dt, SRp K H S ∧ Cov K H S σ σt ∧ w Dt σt S ∧ EndsOk K H S Dt D

def QE (K : Fg) (X : Cx) (e : Expr) (w : WE) : Prop := PE X e (lE K w)
def QT (K : Fg) (X : Cx) (e : Expr) (w : WT) : Prop := PT X e (lT K w)
def QW (K : Fg) (X : Cx) (e : Expr) (w : WT) : Prop := PW X e (lT K w)
def QA (K : Fg) (X : Cx) (es : List Expr) (w : WA) : Prop := PA X es (lA K w)
def QS (K : Fg) (X : Cx) (st : Stmt) (w : WS) : Prop := PS X st (lS K w)
def QSs (K : Fg) (X : Cx) (st : List Stmt) (w : WS) : Prop := PSs X st (lS K w)
theorem PE.of {X : Cx} {e : Expr} {t t' : TE} (h : PE X e t) (i : ∀ σ H Q, t' σ H Q → t σ H Q) : PE X e t' := fun pins s σ H Q I q => h pins s σ H Q I (i σ H Q q)
theorem PT.of {X : Cx} {e : Expr} {t t' : TT} (h : PT X e t) (i : ∀ σ H Q, t' σ H Q → t σ H Q) : PT X e t' := fun pins s σ H Q I q => h pins s σ H Q I (i σ H Q q)
theorem PW.of {X : Cx} {e : Expr} {t t' : TT} (h : PW X e t) (i : ∀ σ H Q, t' σ H Q → t σ H Q) : PW X e t' := fun wh pins s σ H Q I q => h wh pins s σ H Q I (i σ H Q q)
theorem PA.of {X : Cx} {e : List Expr} {t t' : TA} (h : PA X e t) (i : ∀ σ H Q, t' σ H Q → t σ H Q) : PA X e t' := fun p pins s σ H Q I q => h p pins s σ H Q I (i σ H Q q)
theorem PS.of {X : Cx} {e : Stmt} {t t' : TS} (h : PS X e t) (i : ∀ D σ H, t' D σ H → t D σ H) : PS X e t' := fun pins s σ H D I q => h pins s σ H D I (i D σ H q)
theorem PSs.of {X : Cx} {e : List Stmt} {t t' : TS} (h : PSs X e t) (i : ∀ D σ H, t' D σ H → t D σ H) : PSs X e t' := fun pins s σ H D I q => h pins s σ H D I (i D σ H q)
section
variable {K : Fg} {X : Cx} {a b c e : Expr} {wa wb wc : WE} {pos : Pos}
/-! names, constants -/
def wV (i : Nat) : WE := fun σ S Q => ∃ t, σ[i]? = some (some t) ∧ Q t S
def wC (t : T) : WE := fun _ S Q => Q t S
theorem q_var {i : Nat} {x : Str} (h : PE X (.Name x pos) (tVar i)) : QE K X (.Name x pos) (wV i) := PE.of h fun σ H Q ⟨S, σt, Qt, s, c, ⟨t, e, q⟩, hq⟩ => by
  obtain ⟨v, e2, r⟩ := c.2 i t e
  exact ⟨v, e2, hq v H t S .refl s r q⟩
theorem q_int {i j} : QE K X (.Constant (.int i) j pos) (wC (.int i)) := PE.of pe_int fun σ H Q ⟨S, σt, Qt, s, c, q, hq⟩ => hq _ H _ S .refl s .int q
theorem q_bl {i j} : QE K X (.Constant (.bool i) j pos) (wC (.bl i)) := PE.of pe_bl fun σ H Q ⟨S, σt, Qt, s, c, q, hq⟩ => hq _ H _ S .refl s .bl q
theorem q_str {x j} : QE K X (.Constant (.str x) j pos) (wC (.str x)) := PE.of pe_str fun σ H Q ⟨S, σt, Qt, s, c, q, hq⟩ => hq _ H _ S .refl s .str q
theorem q_glob {x : Str} {t : T} {v : V} (h : PE X (.Name x pos) (tC v)) (r : ∀ H S, Rp K H S t v) : QE K X (.Name x pos) (wC t) := PE.of h fun σ H Q ⟨S, σt, Qt, s, c, q, hq⟩ => hq _ H _ S .refl s (r _ _) q
/-! operations of two values -/
abbrev G2 := T → T → Sto → (T → Sto → Prop) → Prop
def l2 (K : Fg) (g : G2) : R2 := fun x y H Q => ∃ S tx ty Qt, SRp K H S ∧ Rp K H S tx x ∧ Rp K H S ty y ∧ g tx ty S Qt ∧ Bh K H S Qt Q
def w2 (g : G2) (wa wb : WE) : WE := fun σ S Q => wa σ S fun x S1 => wb σ S1 fun y S2 => g x y S2 Q
theorem l2_of {g : G2} {σ H Q} (h : lE K (w2 g wa wb) σ H Q) : tOp (l2 K g) (lE K wa) (lE K wb) σ H Q := by
  obtain ⟨S, σt, Qt, s, c, q, hq⟩ := h
  refine ⟨S, σt, _, s, c, q, fun x H1 tx S1 f1 s1 r1 q1 => ?_⟩
  refine ⟨S1, σt, _, s1, c.fr f1, q1, fun y H2 ty S2 f2 s2 r2 q2 => ?_⟩
  exact ⟨S2, tx, ty, Qt, s2, r1.fr f2, r2, q2, fun v H' t S' f => hq v H' t S' ((f1.trans f2).trans f)⟩
theorem q_op {op : Operator} {g : G2} (ho : OpR X (binaryOp op) (l2 K g)) (ha : QE K X a wa) (hb : QE K X b wb) : QE K X (.BinOp a op b pos) (w2 g wa wb) := PE.of (pe_op ho ha hb) fun _ _ _ h => l2_of h
theorem q_cmp {op : CmpOp} {g : G2} (ho : OpR X (compareOp op) (l2 K g)) (ha : QE K X a wa) (hb : QE K X b wb) (hm : behindInMarks op b = false) : QE K X (.Compare a [op] [b] pos) (w2 g wa wb) := PE.of (pe_cmpR ho ha hb hm) fun _ _ _ h => l2_of h
/-- a value as a test: a bool -/
def wB (w : WE) : WT := fun σ S Q => w σ S fun x S1 => ∃ k, x = .bl k ∧ Q k S1
theorem lB_of {w : WE} {σ H Q} (h : lT K (wB w) σ H Q) : tTest (lE K w) σ H Q := by
  obtain ⟨S, σt, Qt, s, c, q, hq⟩ := h
  refine ⟨S, σt, _, s, c, q, fun x H1 tx S1 f1 s1 r1 q1 => ?_⟩
  obtain ⟨k, rfl, q1⟩ := q1
  cases r1
  exact ⟨k, rfl, hq k H1 S1 f1 s1 q1⟩
theorem q_tcmp {op : CmpOp} {g : G2} (ho : OpR X (compareOp op) (l2 K g)) (ha : QE K X a wa) (hb : QE K X b wb) (hm : behindInMarks op b = false) : QT K X (.Compare a [op] [b] pos) (wB (w2 g wa wb)) :=
  PT.of (pt_cmpR ho ha hb hm) fun σ H Q h => by
    obtain ⟨S, σt, Qt, s, c, q, hq⟩ := h
    exact l2_of ⟨S, σt, _, s, c, q, fun v H' t S' f s' r ⟨k, e, q'⟩ => by subst e; cases r; exact ⟨k, rfl, hq k H' S' f s' q'⟩⟩
def wChain (g g' : G2) (wa wb wc : WE) : WE := fun σ S Q => wa σ S fun x S1 => wb σ S1 fun y S2 => g x y S2 fun z S3 => ∃ k, z = .bl k ∧ if k = true then wc σ S3 fun u S4 => g' y u S4 Q else Q (.bl false) S3
/-! tests -/
theorem q_tval (h : QE K X e wa) (he : ∀ whole, isTrue e X.env whole = (do let v ← whole; standAt e.pos; holding [v] (truthy v)) := by intro _; rfl) : QT K X e (wB wa) := PT.of (pt_val h he) fun _ _ _ h => lB_of h
def wAnd (t u : WT) : WT := fun σ S Q => t σ S fun c S1 => if c = true then u σ S1 Q else Q false S1
def wOr (t u : WT) : WT := fun σ S Q => t σ S fun c S1 => if c = true then Q true S1 else u σ S1 Q
def wNot (t : WT) : WT := fun σ S Q => t σ S fun c S1 => Q (!c) S1
variable {ta tb : WT} {rest : List Expr}
theorem q_or1 (ha : QT K X a ta) : QW K X (.BoolOp .Or [a] pos) ta := pw_or1 ha
theorem q_or (ha : QT K X a ta) (hb : QW K X (.BoolOp .Or (b :: rest) pos) tb) : QW K X (.BoolOp .Or (a :: b :: rest) pos) (wOr ta tb) := PW.of (pw_or ha hb) fun σ H Q ⟨S, σt, Qt, s, c, q, hq⟩ => by
  refine ⟨S, σt, _, s, c, q, fun k H1 S1 f1 s1 q1 => ?_⟩
  cases k with
  | false => exact ⟨S1, σt, _, s1, c.fr f1, q1, fun b H' S' f => hq b H' S' (f1.trans f)⟩
  | true => exact hq true H1 S1 f1 s1 q1
theorem q_tW (h : QW K X e ta) : QT K X e ta := h _
theorem q_tnot (ha : QT K X a ta) : QT K X (.UnaryOp .Not a pos) (wNot ta) := PT.of (pt_not ha) fun σ H Q ⟨S, σt, Qt, s, c, q, hq⟩ => ⟨S, σt, _, s, c, q, fun k H1 S1 f1 s1 q1 => hq _ H1 S1 f1 s1 q1⟩
/-! as values -/
def wAndV (wa wb : WE) : WE := fun σ S Q => wa σ S fun x S1 => ∃ k, x = .bl k ∧ if k = true then wb σ S1 Q else Q (.bl false) S1
def wOrV (wa wb : WE) : WE := fun σ S Q => wa σ S fun x S1 => ∃ k, x = .bl k ∧ if k = true then Q (.bl true) S1 else wb σ S1 Q
def wNotV (wa : WE) : WE := fun σ S Q => wa σ S fun x S1 => ∃ k, x = .bl k ∧ Q (.bl (!k)) S1
theorem q_one {op} (h : QE K X a wa) : QE K X (.BoolOp op [a] pos) wa := pe_one h
theorem q_andV (ha : QE K X a wa) (hb : QE K X (.BoolOp .And (b :: rest) pos) wb) : QE K X (.BoolOp .And (a :: b :: rest) pos) (wAndV wa wb) := PE.of (pe_and ha hb) fun σ H Q ⟨S, σt, Qt, s, c, q, hq⟩ => by
  refine ⟨S, σt, _, s, c, q, fun x H1 tx S1 f1 s1 r1 q1 => ?_⟩
  obtain ⟨k, rfl, q1⟩ := q1
  cases r1
  refine ⟨k, rfl, ?_⟩
  cases k with
  | true => exact ⟨S1, σt, _, s1, c.fr f1, q1, fun v H' t S' f => hq v H' t S' (f1.trans f)⟩
  | false => exact hq _ H1 _ S1 f1 s1 .bl q1
theorem q_notV (ha : QE K X a wa) : QE K X (.UnaryOp .Not a pos) (wNotV wa) := PE.of (pe_not ha) fun σ H Q ⟨S, σt, Qt, s, c, q, hq⟩ => by
  refine ⟨S, σt, _, s, c, q, fun x H1 tx S1 f1 s1 r1 q1 => ?_⟩
  obtain ⟨k, rfl, q1⟩ := q1
  cases r1
  exact ⟨k, rfl, hq _ H1 _ S1 f1 s1 .bl q1⟩
def wIf (t : WT) (wa wb : WE) : WE := fun σ S Q => t σ S fun c S1 => if c = true then wa σ S1 Q else wb σ S1 Q
/-! argument lists, displays -/
def wNil : WA := fun _ S Q => Q [] S
def wCons (wa : WE) (wr : WA) : WA := fun σ S Q => wa σ S fun x S1 => wr σ S1 fun xs S2 => Q (x :: xs) S2
variable {es : List Expr} {wr : WA}
theorem qa_nil : QA K X [] wNil := PA.of pa_nil fun σ H Q ⟨S, σt, Qt, s, c, q, hq⟩ => hq [] H [] S .refl s .nil q
theorem qa_cons (ha : QE K X e wa) (hr : QA K X es wr) (hs : starEach (e :: es) X.env = (false, eval e X.env) :: starEach es X.env := by rfl) : QA K X (e :: es) (wCons wa wr) := PA.of (pa_cons ha hr hs) fun σ H Q ⟨S, σt, Qt, s, c, q, hq⟩ => by
  refine ⟨S, σt, _, s, c, q, fun x H1 tx S1 f1 s1 r1 q1 => ?_⟩
  exact ⟨S1, σt, _, s1, c.fr f1, q1, fun vs H2 ts S2 f2 s2 r2 q2 => hq _ H2 _ S2 (f1.trans f2) s2 (.cons (r1.fr f2) r2) q2⟩
def wTup (wr : WA) : WE := fun σ S Q => wr σ S fun ts S1 => ts.length ≤ sizeLine ∧ Q (.tup ts) S1
/-- a new list: kept as a value, or tracked -/
def wLst (wr : WA) : WE := fun σ S Q => wr σ S fun ts S1 => ts.length ≤ sizeLine ∧ Q (.lst ts) S1
def wLstT (wr : WA) : WE := fun σ S Q => wr σ S fun ts S1 => ts.length ≤ sizeLine ∧ ∀ p, S1 p = none → Q (.ref p) (put S1 p (.lst ts))
theorem q_lst (h : QA K X es wr) : QE K X (.List es pos) (wLst wr) := PE.of (pe_lst h) fun σ H Q ⟨S, σt, Qt, s, c, q, hq⟩ => by
  refine ⟨S, σt, _, s, c, q, fun vs H1 ts S1 f1 s1 r1 q1 => ?_⟩
  refine ⟨by rw [r1.length]; exact q1.1, fun p hp => hq _ _ (.lst ts) S1 (f1.trans (Fr.new hp)) (s1.new hp) (.lst (s1.fresh hp) upd_same (r1.fr (Fr.new hp))) q1.2⟩
end
/-! ### statements -/
section
variable {K : Fg} {X : Cx} {e : Expr} {we : WE} {st : Stmt} {rest : List Stmt} {w u : WS} {pos : Pos}
def wNext : WS := fun D σ S => D.nx σ S
def wSeq (w u : WS) : WS := fun D σ S => w { D with nx := u D } σ S
theorem qs_nil : QSs K X [] wNext := PSs.of pss_nil fun D σ H ⟨S, σt, Dt, s, c, q, he⟩ => he.nx σ H σt S .refl s c q
theorem qs_cons (h1 : QS K X st w) (h2 : QSs K X rest u) : QSs K X (st :: rest) (wSeq w u) := PSs.of (pss_cons h1 h2) fun D σ H ⟨S, σt, Dt, s, c, q, he⟩ =>
  ⟨S, σt, { Dt with nx := u Dt }, s, c, q, ⟨fun _ _ σt' S' f s' c' q' => ⟨S', σt', Dt, s', c', q', he.fr f⟩, he.rt, he.bk, he.ct⟩⟩
theorem qs_one (h1 : QS K X st w) : QSs K X [st] w := pss_one h1
def wBreak : WS := fun D σ S => D.bk σ S
def wCont : WS := fun D σ S => D.ct σ S
def wDrop (we : WE) : WS := fun D σ S => we σ S fun _ S1 => D.nx σ S1
theorem q_expr (he : QE K X e we) (hs : swapsWith e none pos.line X.env = pure false := by rfl) : QS K X (.Expr e pos) (wDrop we) := PS.of (ps_expr he hs) fun D σ H ⟨S, σt, Dt, s, c, q, he⟩ =>
  ⟨S, σt, _, s, c, q, fun _ H1 _ S1 f1 s1 _ q1 => he.nx σ H1 σt S1 f1 s1 (c.fr f1) q1⟩
def wRet (we : WE) : WS := fun D σ S => we σ S D.rt
theorem q_ret (he : QE K X e we) : QS K X (.Return (some e) pos) (wRet we) := PS.of (ps_ret he) fun D σ H ⟨S, σt, Dt, s, c, q, he⟩ => ⟨S, σt, _, s, c, q, he.rt⟩
def wRetN : WS := fun D _ S => D.rt .non S
def wIfS (t : WT) (w u : WS) : WS := fun D σ S => t σ S fun b S1 => if b = true then w D σ S1 else u D σ S1
theorem q_if {c : Expr} {a b : List Stmt} {t : WT} (hc : QT K X c t) (ha : QSs K X a w) (hb : QSs K X b u) : QS K X (.If c a b pos) (wIfS t w u) := PS.of (ps_if hc ha hb) fun D σ H ⟨S, σt, Dt, s, c, q, he⟩ => by
  refine ⟨S, σt, _, s, c, q, fun k H1 S1 f1 s1 q1 => ?_⟩
  cases k with
  | true => exact ⟨S1, σt, Dt, s1, c.fr f1, q1, he.fr f1⟩
  | false => exact ⟨S1, σt, Dt, s1, c.fr f1, q1, he.fr f1⟩
/-! targets -/
abbrev WG := T → StT → Sto → (StT → Sto → Prop) → Prop
abbrev WGs := List T → StT → Sto → (StT → Sto → Prop) → Prop
def lG (K : Fg) (g : WG) : TG := fun v σ H Q => ∃ S t σt Qt, SRp K H S ∧ Rp K H S t v ∧ Cov K H S σ σt ∧ g t σt S Qt ∧ ∀ σ' H' σt' S', Fr H S H' S' → SRp K H' S' → Cov K H' S' σ' σt' → Qt σt' S' → Q σ' H'
def lGs (K : Fg) (g : WGs) : TGs := fun vs σ H Q => ∃ S ts σt Qt, SRp K H S ∧ Rps K H S ts vs ∧ Cov K H S σ σt ∧ g ts σt S Qt ∧ ∀ σ' H' σt' S', Fr H S H' S' → SRp K H' S' → Cov K H' S' σ' σt' → Qt σt' S' → Q σ' H'
def QG (K : Fg) (X : Cx) (tg : Expr) (g : WG) : Prop := PG X tg (lG K g)
def QGs (K : Fg) (X : Cx) (tg : List Expr) (g : WGs) : Prop := PGs X tg (lGs K g)
theorem PG.of {X : Cx} {e : Expr} {t t' : TG} (h : PG X e t) (i : ∀ v σ H Q, t' v σ H Q → t v σ H Q) : PG X e t' := fun pins s σ H v u Q I r q => h pins s σ H v u Q I r (i v σ H Q q)
theorem PGs.of {X : Cx} {e : List Expr} {t t' : TGs} (h : PGs X e t) (i : ∀ v σ H Q, t' v σ H Q → t v σ H Q) : PGs X e t' := fun pins s σ H v u Q I r q => h pins s σ H v u Q I r (i v σ H Q q)
def wgN (i : Nat) : WG := fun t σ S Q => Q (σ.set i (some t)) S
theorem qg_name {i : Nat} {x : Str} (h : PG X (.Name x pos) (gName i)) : QG K X (.Name x pos) (wgN i) := PG.of h fun v σ H Q ⟨S, t, σt, Qt, s, r, c, q, hq⟩ => hq _ H _ S .refl s (c.set r i) q
def wgNil : WGs := fun ts σ S Q => ts = [] ∧ Q σ S
def wgCons (g : WG) (h : WGs) : WGs := fun ts σ S Q => ∃ t r, ts = t :: r ∧ g t σ S fun σ' S' => h r σ' S' Q
variable {tg : Expr} {tgs : List Expr} {g : WG} {gs : WGs}
def wgTup (n : Nat) (g : WGs) : WG := fun t σ S Q => ∃ ts, t = .tup ts ∧ ts.length = n ∧ g ts σ S Q
def wAsg (we : WE) (g : WG) : WS := fun D σ S => we σ S fun t S1 => g t σ S1 D.nx
/-- x = e -/
theorem q_set {i : Nat} {x : Str} {pos' : Pos} (hN : X.N.Nodup) (hi : X.N[i]? = some x) (hx : Loc X.env.scope x) (he : QE K X e we) (hs : swapsWith e (some (.Name x pos')) pos.line X.env = pure false := by rfl)
    (hf : X.fn x = true ∨ X.env.scope.names.lookup x = some .local := by first | exact .inl rfl | exact .inr rfl | assumption) : QS K X (.Assign [.Name x pos'] e pos) (wAsg we (wgN i)) := PS.of (ps_set hN hi hx he hs hf) fun D σ H h => by
  obtain ⟨S, σt, Dt, s, c, q, he⟩ := h
  exact ⟨S, σt, _, s, c, q, fun v H1 t S1 f1 s1 r1 q1 => he.nx _ H1 _ S1 f1 s1 ((c.fr f1).set r1 i) q1⟩
end
end T2

set_option Elab.async false
set_option maxHeartbeats 4000000
set_option linter.unusedVariables false
namespace T2
open PySem PySem.Spec PyProof.Rows L2
/-! ### what a def promises, over trees -/
abbrev WSp := List T → Sto → (T → Sto → Prop) → Prop
def lSp (K : Fg) (w : WSp) : Sp := fun vs H Q _ => ∃ S ts Qt, SRp K H S ∧ Rps K H S ts vs ∧ w ts S Qt ∧ Bh K H S Qt Q
def startT (N : List Str) (ts : List T) : StT := ts.map some ++ List.replicate (N.length - ts.length) none
theorem cov_start {K : Fg} {H : Hp} {S : Sto} {N : List Str} {ts : List T} {vs : List V} (r : Rps K H S ts vs) : Cov K H S (L2.start N vs) (startT N ts) := by
  have l := r.length
  refine ⟨by unfold L2.start startT; simp [l], fun i t e => ?_⟩
  unfold startT at e
  by_cases hi : i < ts.length
  · rw [List.getElem?_append_left (by simpa using hi), List.getElem?_map] at e
    cases q : ts[i]? with
    | none => rw [q] at e; cases e
    | some a =>
      rw [q] at e; cases e
      obtain ⟨v, hv, rv⟩ := r.get q
      refine ⟨v, ?_, rv⟩
      unfold L2.start
      rw [List.getElem?_append_left (by simp; omega), List.getElem?_map, hv]; rfl
  · rw [List.getElem?_append_right (by simpa using hi), List.getElem?_replicate] at e
    split at e <;> cases e
/-- at a def's end: what nobody needs is forgotten; a new list may become a value -/
def Fin (Q : T → Sto → Prop) (t : T) (S : Sto) : Prop := (∃ S0, Le S0 S ∧ Q t S0) ∨ ∃ p ts S0, t = .ref p ∧ S p = some (.lst ts) ∧ Le S0 S ∧ S0 p = none ∧ Q (.lst ts) S0
theorem Fin.mk {Q : T → Sto → Prop} {t : T} {S : Sto} (h : Q t S) : Fin Q t S := .inl ⟨S, .refl, h⟩
theorem Fin.le {Q : T → Sto → Prop} {t : T} {S S0 : Sto} (l : Le S0 S) (h : Q t S0) : Fin Q t S := .inl ⟨S0, l, h⟩
theorem Fin.frz {Q : T → Sto → Prop} {p : Addr} {ts : List T} {S S0 : Sto} (e : S p = some (.lst ts)) (l : Le S0 S) (n : S0 p = none) (h : Q (.lst ts) S0) : Fin Q (.ref p) S := .inr ⟨p, ts, S0, rfl, e, l, n, h⟩
theorem Fin.ends {K : Fg} {H H' : Hp} {S S' : Sto} {Qt : T → Sto → Prop} {Q : VK} (b : Bh K H S Qt Q) {v : V} {t : T} (f : Fr H S H' S') (s : SRp K H' S') (r : Rp K H' S' t v) (q : Fin Qt t S') : Q v H' := by
  rcases q with ⟨S0, l, q⟩ | ⟨p, ts, S0, rfl, e, l, n, q⟩
  · exact b v H' t S0 (f.trans (Fr.le l)) (s.le l) (r.fr (Fr.le l)) q
  · cases r
    cases s p _ e with
    | lst hp rs => exact b _ H' (.lst ts) S0 (f.trans (Fr.le l)) (s.le l) (.lst n hp (rs.fr (Fr.le l))) q
section
variable {P : Program} {w : World} {K : Fg} {mg : Str → Option Value} {base : Heap}
/-- THE RULE for a def, over trees -/
theorem ok_def {x qual : Str} {st : Stmt} {f : Addr} {fd : FuncData} {N ps : List Str} {k : Nat} {wsp : WSp} (F : Fun K x qual st f fd) (Sc : FnScope N ps (defScope st)) (len : ∀ ts S Q, wsp ts S Q → ts.length = ps.length)
    (hbody : ∀ (cdv : Value) (A : Around) (outer : List Env) (s : Shared) (H : Hp) (E : XK), Room k (A.deeper (envOfC qual (defScope st) s.heap.objs.size f cdv)) →
      ∃ u, QSs K (cxOf CX0 P w K mg base N qual (defScope st) f cdv A outer s H E).nox (defBody st) u ∧ ∀ ts S Q, wsp ts S Q → u { nx := fun _ S' => Fin Q .non S', rt := Fin Q } (startT N ts) S) : FnOk P w K mg base CX0 (k + 1) f fd ps (lSp K wsp) := by
  refine Fun.ok F Sc (fun vs H Q E ⟨S, ts, Qt, s, r, q, _⟩ => by rw [r.length]; exact len _ _ _ q) fun cdv A outer s H vs Q E hr ⟨S, ts, Qt, sr, r, q, b⟩ => ?_
  obtain ⟨u, hu, hq⟩ := hbody cdv A outer s H E hr
  refine ⟨_, hu, S, startT N ts, _, sr, cov_start r, hq ts S Qt q, ⟨fun _ H' _ S' f s' _ q' => Fin.ends b f s' .non q', fun v H' t S' f s' r' q' => Fin.ends b f s' r' q', fun _ _ _ _ _ _ _ q' => q'.elim, fun _ _ _ _ _ _ _ q' => q'.elim⟩⟩
end
/-! ### calls -/
section
variable {K : Fg} {X : Cx} {k : Nat} {f C : Addr} {fd : FuncData} {ps : List Str} {wsp : WSp} {dts : List T} {dvs : List V} {ds : List Value} {x m : Str} {p pos apos : Pos} {e o : Expr} {es : List Expr} {wa : WE} {wr : WA}
def wCall (wsp : WSp) (dts : List T) (wr : WA) : WE := fun σ S Q => wr σ S fun ts S1 => wsp (ts ++ dts) S1 Q
theorem lCall_of {σ H Q} (hd : ∀ H S, Rps K H S dts dvs) (h : lE K (wCall wsp dts wr) σ H Q) : tCall (lSp K wsp) dvs E0 (lA K wr) σ H Q := by
  obtain ⟨S, σt, Qt, s, c, q, hq⟩ := h
  refine ⟨S, σt, _, s, c, q, fun vs H1 ts S1 f1 s1 r1 q1 => ?_⟩
  exact ⟨S1, _, Qt, s1, r1.append (hd _ _), q1, fun v H' t S' f => hq v H' t S' (f1.trans f)⟩
theorem q_call (hd : ∀ H S, Rps K H S dts dvs) (hp : PE X e (tCall (lSp K wsp) dvs E0 (lA K wr))) : QE K X e (wCall wsp dts wr) := PE.of hp fun _ _ _ h => lCall_of hd h
end
theorem look_some {K : Fg} {H : Hp} {S : Sto} {m : Str} {t : T} : ∀ {fts : List (Str × T)} {fs : List (Str × V)}, Paired (fun (p : Str × T) (q : Str × V) => p.1 = q.1 ∧ Rp K H S p.2 q.2) fts fs → fts.lookup m = some t → ∃ v, fs.lookup m = some v ∧ Rp K H S t v
  | _, _, .nil, h => by cases h
  | (a, b) :: l, (c, d) :: l', .cons ⟨e, r⟩ ps, h => by
    simp only at e; subst e
    rw [List.lookup_cons] at h ⊢
    by_cases z : (m == a) = true
    · rw [z] at h ⊢; cases h; exact ⟨d, rfl, r⟩
    · simp only [Bool.not_eq_true] at z
      rw [z] at h ⊢
      exact look_some ps h
theorem Paired.len {α β : Type} {F : α → β → Prop} : ∀ {l : List α} {l' : List β}, Paired F l l' → l'.length = l.length
  | _, _, .nil => rfl
  | _, _, .cons _ t => by simp [Paired.len t]
section
variable {K : Fg} {X : Cx} {CX : CXT} {k : Nat} {f : Addr} {fd : FuncData} {ps : List Str} {sp : Sp} {wsp : WSp} {dts : List T} {dvs : List V} {ds : List Value} {E : XK} {x m : Str} {p pos apos : Pos} {e o : Expr} {es : List Expr} {wa : WE} {wr : WA} {ta : TE} {t : TA} {G : Addr → Prop}
/-! fields -/
end
end T2

set_option Elab.async false
set_option maxHeartbeats 4000000
set_option linter.unusedVariables false
namespace T2
open PySem PySem.Spec PyProof.Rows L2
/-! ### lists as they stand -/
def viewL (S : Sto) : T → Option (List T)
  | .lst ts => some ts
  | .scr ns => some (ns.map T.int)
  | .ref a => match S a with
    | some (.lst ts) => some ts
    | _ => none
  | _ => none
def viewR (S : Sto) : T → Option (List T)
  | .lst ts => some ts
  | .ref a => match S a with
    | some (.lst ts) => some ts
    | _ => none
  | _ => none
theorem viewR_h {K H S t v ts} (s : SRp K H S) (r : Rp K H S t v) (e : viewR S t = some ts) : ∃ p vs, v = .ref p ∧ H p = some (.lst vs) ∧ Rps K H S ts vs := by
  cases r with
  | lst n h q => cases e; exact ⟨_, _, rfl, h, q⟩
  | ref =>
    rename_i a
    simp only [viewR] at e
    cases q : S a with
    | none => rw [q] at e; cases e
    | some o =>
      rw [q] at e
      cases o with
      | lst us => cases e; cases s a _ q with
        | lst h rs => exact ⟨a, _, rfl, h, rs⟩
      | _ => cases e
  | _ => cases e
theorem viewL_sq {K H S t v ts} (s : SRp K H S) (r : Rp K H S t v) (e : viewL S t = some ts) : ∃ p vs, v = .ref p ∧ SqL K H p vs ∧ Rps K H S ts vs := by
  cases r with
  | scr h => cases e; exact ⟨_, _, rfl, h.sq, Rps.ints⟩
  | lst n h q => cases e; exact ⟨_, _, rfl, SqL.of h, q⟩
  | ref =>
    obtain ⟨p, vs, e1, e2, e3⟩ := viewR_h s (Rp.ref (K := K) (H := H) (S := S)) (show viewR S (.ref _) = some ts from e)
    exact ⟨p, vs, e1, SqL.of e2, e3⟩
  | _ => cases e
/-- a new list: a value, or tracked -/
def newL (tr : Bool) (ts : List T) (S : Sto) (Q : T → Sto → Prop) : Prop := match tr with
  | false => Q (.lst ts) S
  | true => ∀ p, S p = none → Q (.ref p) (put S p (.lst ts))
theorem newL_v {K H S ts vs tr Qt} {Q : VK} (s : SRp K H S) (r : Rps K H S ts vs) (n : newL tr ts S Qt) (b : Bh K H S Qt Q) : ∀ p, H p = none → Q (.ref p) (upd H p (.lst vs)) := fun p hp => by
  cases tr with
  | false => exact b _ _ (.lst ts) S (Fr.new hp) (s.new hp) (.lst (s.fresh hp) upd_same (r.fr (Fr.new hp))) n
  | true => exact b _ _ (.ref p) _ (Fr.newT hp) (s.newT hp (.lst upd_same (r.fr (Fr.newT hp)))) .ref (n p (s.fresh hp))
section
variable {K : Fg} {X : Cx}
/-- operations of ints -/
def gI (C : Int → Int → Prop) (f : Int → Int → T) : G2 := fun x y S Q => match x, y with
  | .int i, .int j => C i j ∧ Q (f i j) S
  | _, _ => False
theorem gI_ok {f : Value → Value → Sem Value} {C : Int → Int → Prop} {g : Int → Int → Int} (h : OpR X f (rI C fun i j => .int (g i j))) : OpR X f (l2 K (gI C fun i j => .int (g i j))) := by
  intro pins s σ H x y v u Q I rx ry ⟨S, tx, ty, Qt, sr, hx, hy, hg, b⟩
  cases hx <;> first | exact hg.elim | skip
  cases hy <;> first | exact hg.elim | skip
  exact h pins s σ H _ _ v u Q I rx ry ⟨_, _, rfl, rfl, hg.1, b _ H _ S .refl sr .int hg.2⟩
def gSub : G2 := gI (fun _ _ => True) fun i j => .int (i - j)
def gDiv : G2 := gI (fun _ j => 0 < j ∧ j < 18446744073709551616) fun i j => .int (i / j)
def gMod : G2 := gI (fun _ j => 0 < j) fun i j => .int (i % j)
def gPow : G2 := gI CPow fun i j => .int (i ^ j.toNat)
def gShr : G2 := gI (fun _ j => 0 ≤ j) fun i j => .int (i / 2 ^ j.toNat)
theorem o_mod : OpR X (binaryOp .Mod) (l2 K gMod) := gI_ok op_mod
theorem o_pow : OpR X (binaryOp .Pow) (l2 K gPow) := gI_ok op_pow
/-- + of ints, texts, lists -/
def gAdd (tr : Bool) : G2 := fun x y S Q => match x, y with
  | .int i, .int j => Q (.int (i + j)) S
  | .str a, .str c => a.length + c.length ≤ sizeLine ∧ Q (.str (a ++ c)) S
  | x, y => ∃ ts us, viewR S x = some ts ∧ viewR S y = some us ∧ ts.length + us.length ≤ sizeLine ∧ newL tr (ts ++ us) S Q
theorem o_add (tr : Bool) : OpR X (binaryOp .Add) (l2 K (gAdd tr)) := by
  intro pins s σ H x y v u Q I rx ry ⟨S, tx, ty, Qt, sr, hx, hy, hg, b⟩
  have lists : (∃ ts us, viewR S tx = some ts ∧ viewR S ty = some us ∧ ts.length + us.length ≤ sizeLine ∧ newL tr (ts ++ us) S Qt) → wpAny (model X.prog X.w) X.A (binaryOp .Add v u) (EP X pins σ Q) X.xe s := by
    rintro ⟨ts, us, e1, e2, hz, n⟩
    obtain ⟨p, vs, rfl, h1, r1⟩ := viewR_h sr hx e1
    obtain ⟨q, ws, rfl, h2, r2⟩ := viewR_h sr hy e2
    exact op_cat pins s σ H _ _ v u Q I rx ry ⟨p, q, vs, ws, rfl, rfl, h1, h2, by rw [r1.length, r2.length]; exact hz, newL_v sr (r1.append r2) n b⟩
  cases tx with
  | int i =>
    cases ty with
    | int j => cases hx; cases hy; exact op_add pins s σ H _ _ v u Q I rx ry ⟨i, j, rfl, rfl, b _ H _ S .refl sr .int hg⟩
    | _ => exact lists hg
  | str a =>
    cases ty with
    | str c => cases hx; cases hy; exact op_add_str pins s σ H _ _ v u Q I rx ry ⟨a, c, rfl, rfl, hg.1, b _ H _ S .refl sr .str hg.2⟩
    | _ => exact lists hg
  | _ => exact lists hg
/-- * of ints, of a list by an int -/
def gMul (tr : Bool) : G2 := fun x y S Q => match x, y with
  | .int i, .int j => CMul i j ∧ Q (.int (i * j)) S
  | x, .int k => ∃ ts, viewR S x = some ts ∧ -(2 ^ 63) ≤ k ∧ k < 2 ^ 63 ∧ ts.length * k.toNat ≤ sizeLine ∧ newL tr (List.replicate k.toNat ts).flatten S Q
  | _, _ => False
/-! ### == at any depth -/
mutual
def datT : T → Option PyData
  | .non => some .none
  | .bl b => some (.bool b)
  | .int i => some (.int i)
  | .str x => some (.str x)
  | .tup ts => (datsT ts).map .tuple
  | .lst ts => (datsT ts).map .list
  | .scr ns => some (.list (ns.map .int))
  | _ => none
def datsT : List T → Option (List PyData)
  | [] => some []
  | t :: ts => match datT t, datsT ts with
    | some d, some ds => some (d :: ds)
    | _, _ => none
end
def datS (S : Sto) (t : T) : Option PyData := match t with
  | .ref a => match S a with
    | some (.lst ts) => (datsT ts).map .list
    | _ => none
  | t => datT t
theorem dat_ints {H : Hp} {ns : List Int} : DatVs K H (ns.map V.int) (ns.map PyData.int) := by
  induction ns with
  | nil => exact .nil
  | cons a l ih => exact .cons (.int a) ih
mutual
theorem datT_ok {H S} : ∀ {t v d}, Rp K H S t v → datT t = some d → DatV K H v d
  | _, _, _, .non, e => by simp only [datT] at e; cases e; exact .non
  | _, _, _, .bl, e => by simp only [datT] at e; cases e; exact .bl _
  | _, _, _, .int, e => by simp only [datT] at e; cases e; exact .int _
  | _, _, _, .str, e => by simp only [datT] at e; cases e; exact .str _
  | _, _, _, .ty, e => by simp [datT] at e
  | _, _, _, .ref, e => by simp [datT] at e
  | _, _, _, .tup n h r, e => by
    simp only [datT, Option.map_eq_some_iff] at e
    obtain ⟨ds, e, rfl⟩ := e
    exact .tup (SqT.of h) (datsT_ok r e)
  | _, _, _, .lst n h r, e => by
    simp only [datT, Option.map_eq_some_iff] at e
    obtain ⟨ds, e, rfl⟩ := e
    exact .lst (SqL.of h) (datsT_ok r e)
  | _, _, _, .scr h, e => by simp only [datT] at e; cases e; exact .lst h.sq dat_ints
theorem datsT_ok {H S} : ∀ {ts vs ds}, Rps K H S ts vs → datsT ts = some ds → DatVs K H vs ds
  | _, _, _, .nil, e => by simp only [datsT] at e; cases e; exact .nil
  | _, _, _, .cons (t := t) (ts := ts) a r, e => by
    simp only [datsT] at e
    cases h1 : datT t with
    | none => rw [h1] at e; cases e
    | some d =>
      cases h2 : datsT ts with
      | none => rw [h1, h2] at e; cases e
      | some dl => rw [h1, h2] at e; cases e; exact .cons (datT_ok a h1) (datsT_ok r h2)
end
theorem datS_ok {H S t v d} (s : SRp K H S) (r : Rp K H S t v) (e : datS S t = some d) : DatV K H v d := by
  cases t with
  | ref a =>
    cases r
    simp only [datS] at e
    cases q : S a with
    | none => rw [q] at e; cases e
    | some o =>
      rw [q] at e
      cases o with
      | lst us =>
        simp only [Option.map_eq_some_iff] at e
        obtain ⟨ds, e, rfl⟩ := e
        cases s a _ q with
        | lst h rs => exact .lst (SqL.of h) (datsT_ok rs e)
      | _ => cases e
  | _ => exact datT_ok r e
/-- == (neg: !=) -/
def gEq (neg : Bool) : G2 := fun x y S Q => match x, y with
  | .int i, .int j => Q (.bl (neg ^^ decide (i = j))) S
  | .str i, .str j => Q (.bl (neg ^^ decide (i = j))) S
  | .bl i, .bl j => Q (.bl (neg ^^ decide (i = j))) S
  | x, y => ∃ dx dy, datS S x = some dx ∧ datS S y = some dy ∧ dx.canLay0 = true ∧ dy.canLay0 = true ∧ min dx.depth dy.depth ≤ 64 ∧ Q (.bl (neg ^^ PyData.eqv dx dy)) S
theorem o_eq (hK : X.K = K) (hu : X.A.units + 64 < cLine) : OpR X (compareOp .Eq) (l2 K (gEq false)) := by
  subst hK
  intro pins s σ H x y v u Q I rx ry ⟨S, tx, ty, Qt, sr, hx, hy, hg, b⟩
  have deep : (∃ dx dy, datS S tx = some dx ∧ datS S ty = some dy ∧ dx.canLay0 = true ∧ dy.canLay0 = true ∧ min dx.depth dy.depth ≤ 64 ∧ Qt (.bl (false ^^ PyData.eqv dx dy)) S) → wpAny (model X.prog X.w) X.A (compareOp .Eq v u) (EP X pins σ Q) X.xe s := by
    rintro ⟨dx, dy, e1, e2, c1, c2, hd, q⟩
    exact op_eqD hu pins s σ H _ _ v u Q I rx ry ⟨dx, dy, datS_ok sr hx e1, datS_ok sr hy e2, c1, c2, hd, b _ H _ S .refl sr .bl q⟩
  cases tx with
  | int i =>
    cases ty with
    | int j => cases hx; cases hy; exact op_eq pins s σ H _ _ v u Q I rx ry ⟨rfl, b _ H _ S .refl sr .bl (by simpa [gEq] using hg)⟩
    | _ => exact deep hg
  | str i =>
    cases ty with
    | str j => cases hx; cases hy; exact op_eq pins s σ H _ _ v u Q I rx ry ⟨rfl, b _ H _ S .refl sr .bl (by simpa [gEq] using hg)⟩
    | _ => exact deep hg
  | bl i =>
    cases ty with
    | bl j => cases hx; cases hy; exact op_eq pins s σ H _ _ v u Q I rx ry ⟨rfl, b _ H _ S .refl sr .bl (by simpa [gEq] using hg)⟩
    | _ => exact deep hg
  | _ => exact deep hg
theorem o_ne (hK : X.K = K) (hu : X.A.units + 64 < cLine) : OpR X (compareOp .NotEq) (l2 K (gEq true)) := by
  subst hK
  intro pins s σ H x y v u Q I rx ry ⟨S, tx, ty, Qt, sr, hx, hy, hg, b⟩
  have deep : (∃ dx dy, datS S tx = some dx ∧ datS S ty = some dy ∧ dx.canLay0 = true ∧ dy.canLay0 = true ∧ min dx.depth dy.depth ≤ 64 ∧ Qt (.bl (true ^^ PyData.eqv dx dy)) S) → wpAny (model X.prog X.w) X.A (compareOp .NotEq v u) (EP X pins σ Q) X.xe s := by
    rintro ⟨dx, dy, e1, e2, c1, c2, hd, q⟩
    exact op_neD hu pins s σ H _ _ v u Q I rx ry ⟨dx, dy, datS_ok sr hx e1, datS_ok sr hy e2, c1, c2, hd, b _ H _ S .refl sr .bl q⟩
  cases tx with
  | int i =>
    cases ty with
    | int j => cases hx; cases hy; exact op_ne pins s σ H _ _ v u Q I rx ry ⟨rfl, b _ H _ S .refl sr .bl (by simpa [gEq] using hg)⟩
    | _ => exact deep hg
  | str i =>
    cases ty with
    | str j => cases hx; cases hy; exact op_ne pins s σ H _ _ v u Q I rx ry ⟨rfl, b _ H _ S .refl sr .bl (by simpa [gEq] using hg)⟩
    | _ => exact deep hg
  | bl i =>
    cases ty with
    | bl j => cases hx; cases hy; exact op_ne pins s σ H _ _ v u Q I rx ry ⟨rfl, b _ H _ S .refl sr .bl (by simpa [gEq] using hg)⟩
    | _ => exact deep hg
  | _ => exact deep hg
/-! ### < and its like -/
def ltS (a c : Str) : Bool := decide (a.cps.toList < c.cps.toList)
def gLt : G2 := fun x y S Q => match x, y with
  | .int i, .int j => Q (.bl (decide (i < j))) S
  | .str a, .str c => Q (.bl (ltS a c)) S
  | _, _ => False
def gLe : G2 := fun x y S Q => match x, y with
  | .int i, .int j => Q (.bl (decide (i ≤ j))) S
  | .str a, .str c => Q (.bl (!ltS c a)) S
  | _, _ => False
def gGt : G2 := fun x y S Q => match x, y with
  | .int i, .int j => Q (.bl (decide (j < i))) S
  | _, _ => False
def gGe : G2 := fun x y S Q => match x, y with
  | .int i, .int j => Q (.bl (decide (j ≤ i))) S
  | _, _ => False
theorem o_lt : OpR X (compareOp .Lt) (l2 K gLt) := by
  intro pins s σ H x y v u Q I rx ry ⟨S, tx, ty, Qt, sr, hx, hy, hg, b⟩
  cases hx <;> first | exact hg.elim | skip
  · cases hy <;> first | exact hg.elim | skip
    exact op_lt pins s σ H _ _ v u Q I rx ry ⟨_, _, rfl, rfl, b _ H _ S .refl sr .bl hg⟩
  · cases hy <;> first | exact hg.elim | skip
    exact op_lt_str pins s σ H _ _ v u Q I rx ry ⟨_, _, rfl, rfl, b _ H _ S .refl sr .bl hg⟩
/-! ### is None -/
def isN : T → Bool
  | .non => true
  | _ => false
def gIs (neg : Bool) : G2 := fun x y S Q => match y with
  | .non => Q (.bl (neg ^^ isN x)) S
  | _ => False
/-! ### - -/
def wNeg (wa : WE) : WE := fun σ S Q => wa σ S fun x S1 => match x with
  | .int i => Q (.int (-i)) S1
  | _ => False
/-! ### items -/
def ixT (S : Sto) (x y : T) : Option T := match x, y with
  | .tup ts, .int i => atI ts i
  | .str z, .int i => if z.length ≤ sizeLine then (atI z.cps.toList i).map fun c => .str ⟨#[c]⟩ else none
  | x, .int i => (viewL S x).bind fun ts => atI ts i
  | _, _ => none
def gIx : G2 := fun x y S Q => ∃ r, ixT S x y = some r ∧ Q r S
theorem atI_rp {H S ts vs i t} (r : Rps K H S ts vs) (e : atI ts i = some t) : ∃ v, atI vs i = some v ∧ Rp K H S t v := by
  unfold atI at e ⊢
  rw [r.length]
  cases q : ixN ts.length i with
  | none => rw [q] at e; cases e
  | some j =>
    rw [q] at e
    simp only [Option.bind_some] at e ⊢
    exact r.get e
theorem i_ix (hK : X.K = K) : IxR X (l2 K gIx) := by
  subst hK
  intro value slice pins s σ H x y v u Q I rx ry ⟨S, tx, ty, Qt, sr, hx, hy, ⟨r, e, q⟩, b⟩ hs
  have lists : ∀ i, ty = .int i → (viewL S tx).bind (fun ts => atI ts i) = some r → wpAny (model X.prog X.w) X.A (subscriptTail value slice v u) (EP X pins σ Q) X.xe s := by
    rintro i rfl e
    cases hy
    cases h1 : viewL S tx with
    | none => rw [h1] at e; cases e
    | some ts =>
      rw [h1] at e
      obtain ⟨p, vs, rfl, hq, rs⟩ := viewL_sq sr hx h1
      obtain ⟨w', e2, r2⟩ := atI_rp rs e
      exact ix_list value slice pins s σ H _ _ v u Q I rx ry ⟨p, vs, i, w', rfl, rfl, hq, e2, b _ H _ S .refl sr r2 q⟩ hs
  cases ty with
  | int i =>
    cases tx with
    | tup ts =>
      cases hy
      cases hx with
      | tup n hp rs =>
        obtain ⟨w', e2, r2⟩ := atI_rp rs (show atI ts i = some r from e)
        exact ix_tup value slice pins s σ H _ _ v u Q I rx ry ⟨_, _, i, w', rfl, rfl, SqT.of hp, e2, b _ H _ S .refl sr r2 q⟩ hs
    | str z =>
      cases hy
      cases hx
      simp only [ixT] at e
      split at e
      · next hz =>
        simp only [Option.map_eq_some_iff] at e
        obtain ⟨c, e, rfl⟩ := e
        exact ix_str value slice pins s σ H _ _ v u Q I rx ry ⟨z, i, c, rfl, rfl, hz, e, b _ H _ S .refl sr .str q⟩ hs
      · cases e
    | _ => exact lists i rfl e
  | _ => cases tx <;> simp [ixT] at e
theorem q_ix {a c : Expr} {wa wc : WE} {pos : Pos} (hK : X.K = K) (ha : QE K X a wa) (hc : QE K X c wc) (hs : PlainIx c) : QE K X (.Subscript a c pos) (w2 gIx wa wc) := PE.of (pe_ix (i_ix hK) ha hc hs) fun _ _ _ h => l2_of h
/-! ### slices -/
abbrev WO := StT → Sto → (Option Int → Sto → Prop) → Prop
def lO (K : Fg) (w : WO) : TO := fun σ H Q => ∃ S σt Qt, SRp K H S ∧ Cov K H S σ σt ∧ w σt S Qt ∧ ∀ b H' S', Fr H S H' S' → SRp K H' S' → Qt b S' → Q b H'
def QO (K : Fg) (X : Cx) (e : Option Expr) (w : WO) : Prop := PO X e (lO K w)
theorem PO.of {e : Option Expr} {t t' : TO} (h : PO X e t) (i : ∀ σ H Q, t' σ H Q → t σ H Q) : PO X e t' := fun pins s σ H Q I q => h pins s σ H Q I (i σ H Q q)
def woN : WO := fun _ S Q => Q none S
def woS (wa : WE) : WO := fun σ S Q => wa σ S fun x S1 => match x with
  | .int i => Q (some i) S1
  | _ => False
theorem qo_none : QO K X none woN := PO.of po_none fun σ H Q ⟨S, σt, Qt, s, c, q, hq⟩ => hq none H S .refl s q
theorem qo_some {e : Expr} {wa : WE} (h : QE K X e wa) : QO K X (some e) (woS wa) := PO.of (po_some h) fun σ H Q ⟨S, σt, Qt, s, c, q, hq⟩ => by
  refine ⟨S, σt, _, s, c, q, fun x H1 tx S1 f1 s1 r1 q1 => ?_⟩
  cases r1 <;> first | exact q1.elim | skip
  exact ⟨_, rfl, hq _ H1 S1 f1 s1 q1⟩
def cutT (ts : List T) (lo hi : Option Int) : List T := (ts.drop (HT.sIx ts.length 0 lo)).take (HT.sIx ts.length ts.length hi - HT.sIx ts.length 0 lo)
theorem cut_rp {H S ts vs lo hi} (r : Rps K H S ts vs) : Rps K H S (cutT ts lo hi) (cutV vs lo hi) := by
  unfold cutT cutV
  rw [r.length]
  exact (r.drop _).take _
def gSl (tr : Bool) (x : T) (lo hi : Option Int) (S : Sto) (Q : T → Sto → Prop) : Prop := match x with
  | .str z => z.length ≤ sizeLine ∧ Q (.str (Txt.slice z lo hi)) S
  | x => ∃ ts, viewL S x = some ts ∧ newL tr (cutT ts lo hi) S Q
def l3 (K : Fg) (g : T → Option Int → Option Int → Sto → (T → Sto → Prop) → Prop) : V → Option Int → Option Int → Hp → VK → Prop := fun x lo hi H Q => ∃ S tx Qt, SRp K H S ∧ Rp K H S tx x ∧ g tx lo hi S Qt ∧ Bh K H S Qt Q
theorem s_sl (tr : Bool) (hK : X.K = K) : SlR X (l3 K (gSl tr)) := by
  subst hK
  intro pins s σ H x v vl vu lo hi sl Q I rx hs pl pu ⟨S, tx, Qt, sr, hx, hg, b⟩
  have lists : (∃ ts, viewL S tx = some ts ∧ newL tr (cutT ts lo hi) S Qt) → rSlL X.K x lo hi H Q := by
    rintro ⟨ts, e, n⟩
    obtain ⟨p, vs, rfl, hq, rs⟩ := viewL_sq sr hx e
    exact ⟨p, vs, rfl, hq, newL_v sr (cut_rp rs) n b⟩
  cases tx with
  | str z => cases hx; exact sl_str pins s σ H _ v vl vu lo hi sl Q I rx hs pl pu ⟨z, rfl, hg.1, b _ H _ S .refl sr .str hg.2⟩
  | _ => exact sl_list pins s σ H _ v vl vu lo hi sl Q I rx hs pl pu (lists hg)
def wSl (tr : Bool) (wa : WE) (wl wh : WO) : WE := fun σ S Q => wa σ S fun x S1 => wl σ S1 fun l S2 => wh σ S2 fun h S3 => gSl tr x l h S3 Q
theorem q_slice (tr : Bool) {e : Expr} {lo hi : Option Expr} {wa : WE} {wl wh : WO} {p2 pos : Pos} (hK : X.K = K) (he : QE K X e wa) (hl : QO K X lo wl) (hu : QO K X hi wh) : QE K X (.Subscript e (.Slice lo hi none p2) pos) (wSl tr wa wl wh) :=
  PE.of (pe_slice (s_sl tr hK) he hl hu) fun σ H Q ⟨S, σt, Qt, s, c, q, hq⟩ => by
    refine ⟨S, σt, _, s, c, q, fun x H1 tx S1 f1 s1 r1 q1 => ?_⟩
    refine ⟨S1, σt, _, s1, c.fr f1, q1, fun l H2 S2 f2 s2 q2 => ?_⟩
    refine ⟨S2, σt, _, s2, c.fr (f1.trans f2), q2, fun h H3 S3 f3 s3 q3 => ?_⟩
    exact ⟨S3, tx, Qt, s3, (r1.fr f2).fr f3, q3, fun v H' t S' f => hq v H' t S' (((f1.trans f2).trans f3).trans f)⟩
end
end T2

set_option Elab.async false
set_option maxHeartbeats 4000000
set_option linter.unusedVariables false
namespace T2
open PySem PySem.Spec PyProof.Rows L2
/-! ### loops -/
/-- what a loop walks: the items, and what must hold of the store at each turn -/
structure Src where
  items : List T
  grd : Sto → Prop
abbrev WI := StT → Sto → (Src → Sto → Prop) → Prop
structure Iter (K : Fg) (J : It) (src : Src) (H1 : Hp) (S1 : Sto) : Prop where
  go : ∀ H S i, Fr H1 S1 H S → SRp K H S → src.grd S → i < src.items.length → J.go i H
  yld : ∀ H S i x H', Fr H1 S1 H S → SRp K H S → src.grd S → i < src.items.length → J.yld i H x H' → ∃ t, src.items[i]? = some t ∧ Fr H S H' S ∧ SRp K H' S ∧ Rp K H' S t x
  stop : ∀ H S, Fr H1 S1 H S → SRp K H S → src.grd S → J.stop src.items.length H
def lI (K : Fg) (w : WI) : TI := fun σ H R => ∃ S σt Rt, SRp K H S ∧ Cov K H S σ σt ∧ w σt S Rt ∧ ∀ J H1 src S1, Fr H S H1 S1 → SRp K H1 S1 → Iter K J src H1 S1 → Rt src S1 → R J H1
def QI (K : Fg) (X : Cx) (tg iter : Expr) (w : WI) : Prop := PI X tg iter (lI K w)
section
variable {K : Fg} {X : Cx} {tg : Expr}
theorem PI.of {e : Expr} {t t' : TI} (h : PI X tg e t) (i : ∀ σ H Q, t' σ H Q → t σ H Q) : PI X tg e t' := fun pins s σ H Q I q => h pins s σ H Q I (i σ H Q q)
theorem drop_at {α : Type} {l : List α} {i : Nat} {t : α} (h : l[i]? = some t) : l.drop i = t :: l.drop (i + 1) := by
  obtain ⟨hl, e⟩ := List.getElem?_eq_some_iff.mp h
  rw [← e]; exact List.drop_eq_getElem_cons hl
def forT (grd : Sto → Prop) (g : WG) (wb : WS) (D : EndsT) : List T → StT → Sto → Prop
  | [], σ, S => grd S ∧ D.nx σ S
  | t :: ts, σ, S => grd S ∧ g t σ S fun σ2 S2 => wb { nx := forT grd g wb D ts, rt := D.rt, bk := D.nx, ct := forT grd g wb D ts } σ2 S2
def wFor (wi : WI) (g : WG) (wb : WS) : WS := fun D σ S => wi σ S fun src S1 => forT src.grd g wb D src.items σ S1
theorem lFor_of {wi : WI} {g : WG} {wb : WS} {D σ H} (h : lS K (wFor wi g wb) D σ H) : tFor (lI K wi) (lG K g) (lS K wb) D σ H := by
  obtain ⟨S, σt, Dt, s, c, q, he⟩ := h
  refine ⟨S, σt, _, s, c, q, fun J H1 src S1 f1 s1 it q1 => ?_⟩
  refine ⟨fun i m σ H => m = src.items.length - i ∧ i ≤ src.items.length ∧ ∃ S σt, Fr H1 S1 H S ∧ SRp K H S ∧ Cov K H S σ σt ∧ forT src.grd g wb Dt (src.items.drop i) σt S,
    ⟨_, rfl, Nat.zero_le _, S1, σt, .refl, s1, c.fr f1, by simpa using q1⟩, ?_⟩
  rintro i m σ H ⟨rfl, hi, S2, σt2, f2, s2, c2, q2⟩
  by_cases hl : i < src.items.length
  · have e1 : src.items[i]? = some src.items[i] := by simp [hl]
    rw [drop_at e1] at q2
    obtain ⟨hg, q2⟩ := q2
    refine .inr ⟨it.go H S2 i f2 s2 hg hl, fun σ' H' => ∃ S σt, Fr H1 S1 H' S ∧ SRp K H' S ∧ Cov K H' S σ' σt ∧ forT src.grd g wb Dt (src.items.drop (i + 1)) σt S, fun σ' H' n => ⟨src.items.length - (i + 1), by omega, rfl, hl, n⟩, fun x H' y => ?_⟩
    obtain ⟨t, et, f3, s3, r3⟩ := it.yld H S2 i x H' f2 s2 hg hl y
    rw [e1] at et; cases et
    refine ⟨S2, _, σt2, _, s3, r3, c2.fr f3, q2, fun σ4 H4 σt4 S4 f4 s4 c4 q4 => ?_⟩
    have fA := (f2.trans f3).trans f4
    refine ⟨S4, σt4, _, s4, c4, q4, ⟨fun σ' H' σt' S' f s' c' q' => ⟨S', σt', fA.trans f, s', c', q'⟩, fun v H' t S' f => he.rt v H' t S' ((f1.trans fA).trans f), fun σ' H' σt' S' f => he.nx σ' H' σt' S' ((f1.trans fA).trans f), fun σ' H' σt' S' f s' c' q' => ⟨S', σt', fA.trans f, s', c', q'⟩⟩⟩
  · have e : i = src.items.length := by omega
    subst e
    rw [List.drop_eq_nil_of_le (Nat.le_refl _)] at q2
    exact .inl ⟨it.stop H S2 f2 s2 q2.1, he.nx σ H σt2 S2 (f1.trans f2) s2 c2 q2.2⟩
theorem q_for {iter : Expr} {body : List Stmt} {wi : WI} {g : WG} {wb : WS} {pos : Pos} (hp : PassesOwn (model X.prog X.w) X.A X.env X.xe) (hc : X.calm = true) (hi : QI K X tg iter wi) (hg : QG K X tg g) (hb : QSs K X body wb)
    (hs : ∀ x, foldedSetIterable iter X.env x = pure x := by intro _; rfl) : QS K X (.For tg iter body [] pos) (wFor wi g wb) := PS.of (ps_for hp hc hi hg hb hs) fun _ _ _ h => lFor_of h
/-- over a list -/
def liveOk (t : T) (ts : List T) (S : Sto) : Prop := match t with
  | .ref a => S a = some (.lst ts)
  | _ => True
def wiL (wa : WE) : WI := fun σ S R => wa σ S fun x S1 => ∃ ts, viewL S1 x = some ts ∧ R ⟨ts, liveOk x ts⟩ S1
/-- over a range -/
def rangeT (lo : Int) (n : Nat) : List T := (List.range n).map fun (i : Nat) => T.int (lo + i)
theorem iter_range {lo : Int} {n : Nat} {H1 S1} : Iter K (Itr lo n) ⟨rangeT lo n, fun _ => True⟩ H1 S1 := by
  refine ⟨fun H S i f s g hl => by simpa [rangeT, Itr] using hl, fun H S i y H' f s g hl hy => ?_, fun H S f s g => by simp [rangeT, Itr]⟩
  obtain ⟨rfl, rfl⟩ := hy
  have hl' : i < n := by simpa [rangeT] using hl
  exact ⟨.int (lo + i), by simp [rangeT, hl'], .refl, s, .int⟩
def wiR1 (wa : WE) : WI := fun σ S R => wa σ S fun x S1 => match x with
  | .int j => -(2 ^ 62) ≤ j ∧ j < 2 ^ 62 ∧ R ⟨rangeT 0 j.toNat, fun _ => True⟩ S1
  | _ => False
theorem qi_range1 {a : Expr} {wa : WE} {p pos : Pos} (hg : Gl X "range") (hm : X.mg "range" = none) (ha : QE K X a wa) (hs : starEach [a] X.env = [(false, eval a X.env)] := by rfl) (hs' : starEach [a] X.env = (false, eval a X.env) :: starEach [] X.env := by rfl) :
    QI K X tg (.Call (.Name "range" p) [a] [] pos) (wiR1 wa) :=
  PI.of (pi_range1 hg hm (pa_cons ha pa_nil hs') hs) fun σ H R ⟨S, σt, Rt, s, c, q, hq⟩ => by
    refine ⟨S, σt, _, s, c, q, fun x H1 tx S1 f1 s1 r1 q1 => ?_⟩
    cases r1 <;> first | exact q1.elim | skip
    exact ⟨_, rfl, q1.1, q1.2.1, hq _ H1 _ S1 f1 s1 iter_range q1.2.2⟩
/-- over a text -/
def signsT (z : Str) : List T := z.cps.toList.map fun c => T.str ⟨#[c]⟩
def wiS (wa : WE) : WI := fun σ S R => wa σ S fun x S1 => match x with
  | .str z => R ⟨signsT z, fun _ => True⟩ S1
  | _ => False
/-! ### while -/
/-! ### comprehensions -/
def QTs (K : Fg) (X : Cx) (ifs : List Expr) (w : WT) : Prop := PTs X ifs (lT K w)
def wTrue : WT := fun _ S Q => Q true S
def compStT (n : Nat) (caps : List Nat) (σ : StT) : StT := List.replicate n none ++ caps.map fun i => (σ[i]?).join
def compT (grd : Sto → Prop) (g : WG) (tt : WT) (te : WE) (Q : List T → Sto → Prop) : List T → List T → StT → Sto → Prop
  | [], acc, _, S => grd S ∧ Q acc S
  | x :: xs, acc, σ, S => grd S ∧ g x σ S fun σ2 S2 => tt σ2 S2 fun b S3 => if b = true then te σ2 S3 fun y S4 => acc.length < sizeLine ∧ compT grd g tt te Q xs (acc ++ [y]) σ2 S4 else compT grd g tt te Q xs acc σ2 S3
def wComp (tr : Bool) (wi : WI) (n : Nat) (caps : List Nat) (g : WG) (tt : WT) (te : WE) : WE := fun σ S Q => wi σ S fun src S1 => compT src.grd g tt te (fun ts S2 => newL tr ts S2 Q) src.items [] (compStT n caps σ) S1
mutual
theorem Rp.chg {H S D φ o} (e : H D = some (.ext φ)) : ∀ {t v}, Rp K H S t v → Rp K (upd H D o) S t v
  | _, _, .non => .non
  | _, _, .bl => .bl
  | _, _, .int => .int
  | _, _, .str => .str
  | _, _, .ty => .ty
  | _, _, .ref => .ref
  | _, _, .tup n h r => .tup n (by rw [upd_ne (ne_of h e (by intro z; cases z))]; exact h) (Rps.chg e r)
  | _, _, .lst n h r => .lst n (by rw [upd_ne (ne_of h e (by intro z; cases z))]; exact h) (Rps.chg e r)
  | _, _, .scr h => .scr (by
      rcases h with ⟨n, o', h⟩ | h
      · exact .inl ⟨n, o', by rw [upd_ne (ne_of h e (by intro z; cases z))]; exact h⟩
      · exact .inr h)
theorem Rps.chg {H S D φ o} (e : H D = some (.ext φ)) : ∀ {ts vs}, Rps K H S ts vs → Rps K (upd H D o) S ts vs
  | _, _, .nil => .nil
  | _, _, .cons a b => .cons (Rp.chg e a) (Rps.chg e b)
end
theorem SRp.chg {H S D φ o} (e : H D = some (.ext φ)) (n : S D = none) (s : SRp K H S) : SRp K (upd H D o) S := fun a o' h => by
  have ha : a ≠ D := fun z => by rw [z, n] at h; cases h
  cases s a o' h with
  | lst h' r => exact .lst (by rw [upd_ne ha]; exact h') (Rps.chg e r)
  | dK h' r => exact .dK (by rw [upd_ne ha]; exact h') (Paired.mapP r fun _ _ z => ⟨z.1, Rp.chg e z.2⟩)
  | dT h' r => exact .dT (by rw [upd_ne ha]; exact h') (Paired.mapP r fun _ _ z => ⟨z.1, Rp.chg e z.2⟩)
  | fK h' r => exact .fK (by rw [upd_ne ha]; exact h') (Paired.mapP r fun _ _ z => ⟨z.1, Rp.chg e z.2⟩)
  | ins h' r => exact .ins (by rw [upd_ne ha]; exact h') (Paired.mapP r fun _ _ z => ⟨z.1, Rp.chg e z.2⟩)
  | exc0 h' => exact .exc0 (by rw [upd_ne ha]; exact h')
  | exc ne h' nd hd r => exact .exc ne (by rw [upd_ne ha]; exact h') nd (by rw [upd_ne (ne_of hd e (by intro z; cases z))]; exact hd) (Paired.mapP r fun _ _ z => ⟨z.1, Rp.chg e z.2⟩)
theorem Cov.chg {H S D φ o σ σt} (e : H D = some (.ext φ)) (c : Cov K H S σ σt) : Cov K (upd H D o) S σ σt := ⟨c.1, fun i t h => by
  obtain ⟨v, h1, r⟩ := c.2 i t h
  exact ⟨v, h1, Rp.chg e r⟩⟩
theorem Fr.at {H S H1 S1 D o} (f : Fr H1 S1 H S) (hD : H1 D = none) : Fr H1 S1 (upd H D o) S := fun a u h n => by
  rw [upd_ne (ne_of_none h hD)]; exact f a u h n
mutual
theorem Rp.trk {H S D φ o p} (e : H D = some (.ext φ)) : ∀ {t v}, Rp K H S t v → Rp K (upd H D o) (put S D p) t v
  | _, _, .non => .non
  | _, _, .bl => .bl
  | _, _, .int => .int
  | _, _, .str => .str
  | _, _, .ty => .ty
  | _, _, .ref => .ref
  | _, _, .tup n h r => .tup (by rw [put_ne (ne_of h e (by intro z; cases z))]; exact n) (by rw [upd_ne (ne_of h e (by intro z; cases z))]; exact h) (Rps.trk e r)
  | _, _, .lst n h r => .lst (by rw [put_ne (ne_of h e (by intro z; cases z))]; exact n) (by rw [upd_ne (ne_of h e (by intro z; cases z))]; exact h) (Rps.trk e r)
  | _, _, .scr h => .scr (by
      rcases h with ⟨n, o', h⟩ | h
      · exact .inl ⟨by rw [put_ne (ne_of h e (by intro z; cases z))]; exact n, o', by rw [upd_ne (ne_of h e (by intro z; cases z))]; exact h⟩
      · exact .inr h)
theorem Rps.trk {H S D φ o p} (e : H D = some (.ext φ)) : ∀ {ts vs}, Rps K H S ts vs → Rps K (upd H D o) (put S D p) ts vs
  | _, _, .nil => .nil
  | _, _, .cons a b => .cons (Rp.trk e a) (Rps.trk e b)
end
theorem SRp.trk {H S D φ zs acc} (e : H D = some (.ext φ)) (s : SRp K H S) (r : Rps K H S acc zs) : SRp K (upd H D (.lst zs)) (put S D (.lst acc)) := fun a o' h => by
  by_cases ha : a = D
  · subst ha; rw [put_same] at h; cases h; exact .lst upd_same (Rps.trk e r)
  · rw [put_ne ha] at h
    cases s a o' h with
    | lst h' r => exact .lst (by rw [upd_ne ha]; exact h') (Rps.trk e r)
    | dK h' r => exact .dK (by rw [upd_ne ha]; exact h') (Paired.mapP r fun _ _ z => ⟨z.1, Rp.trk e z.2⟩)
    | dT h' r => exact .dT (by rw [upd_ne ha]; exact h') (Paired.mapP r fun _ _ z => ⟨z.1, Rp.trk e z.2⟩)
    | fK h' r => exact .fK (by rw [upd_ne ha]; exact h') (Paired.mapP r fun _ _ z => ⟨z.1, Rp.trk e z.2⟩)
    | ins h' r => exact .ins (by rw [upd_ne ha]; exact h') (Paired.mapP r fun _ _ z => ⟨z.1, Rp.trk e z.2⟩)
    | exc0 h' => exact .exc0 (by rw [upd_ne ha]; exact h')
    | exc ne h' nd hd r => exact .exc ne (by rw [upd_ne ha]; exact h') (by rw [put_ne (ne_of hd e (by intro z; cases z))]; exact nd) (by rw [upd_ne (ne_of hd e (by intro z; cases z))]; exact hd) (Paired.mapP r fun _ _ z => ⟨z.1, Rp.trk e z.2⟩)
end
end T2

set_option Elab.async false
set_option maxHeartbeats 4000000
set_option linter.unusedVariables false
namespace L2
open PySem PySem.Spec PyProof.Rows
section
variable {X : Cx}
end
end L2
namespace T2
open PySem PySem.Spec PyProof.Rows L2
section
variable {K : Fg} {X : Cx}
/-! ### in -/
def flatT : T → Bool
  | .non => true
  | .bl _ => true
  | .int _ => true
  | .str _ => true
  | _ => false
def eqF : T → T → Bool
  | .non, .non => true
  | .bl a, .bl b => a == b
  | .bl a, .int b => (if a then 1 else 0) == b
  | .int a, .bl b => a == (if b then 1 else 0)
  | .int a, .int b => a == b
  | .str a, .str b => a == b
  | _, _ => false
/-- x in y (neg: not in) -/
def gIn (neg : Bool) : G2 := fun x y S Q => match x, y with
  | .str i, .str j => Q (.bl (neg ^^ !(Builtin.Str.occurrences j i 0 j.length 1).isEmpty)) S
  | x, .tup ts => flatT x = true ∧ ts.all flatT = true ∧ Q (.bl (neg ^^ ts.any fun y => eqF y x)) S
  | x, y => ∃ ts, viewL S y = some ts ∧ flatT x = true ∧ ts.all flatT = true ∧ Q (.bl (neg ^^ ts.any fun y => eqF y x)) S
/-! ### calls of built-in functions -/
abbrev GC := List T → Sto → (T → Sto → Prop) → Prop
def lC (K : Fg) (g : GC) : List V → Hp → VK → Prop := fun xs H Q => ∃ S ts Qt, SRp K H S ∧ Rps K H S ts xs ∧ g ts S Qt ∧ Bh K H S Qt Q
def wCB (g : GC) (wr : WA) : WE := fun σ S Q => wr σ S fun ts S1 => g ts S1 Q
theorem lCB_of {g : GC} {wr : WA} {σ H Q} (h : lE K (wCB g wr) σ H Q) : tCB (lC K g) (lA K wr) σ H Q := by
  obtain ⟨S, σt, Qt, s, c, q, hq⟩ := h
  refine ⟨S, σt, _, s, c, q, fun vs H1 ts S1 f1 s1 r1 q1 => ?_⟩
  exact ⟨S1, ts, Qt, s1, r1, q1, fun v H' t S' f => hq v H' t S' (f1.trans f)⟩
theorem q_cb {g : GC} {wr : WA} {e : Expr} (hp : PE X e (tCB (lC K g) (lA K wr))) : QE K X e (wCB g wr) := PE.of hp fun _ _ _ h => lCB_of h
/-- len -/
def lenT (S : Sto) : T → Option Int
  | .str z => if z.length ≤ sizeLine then some z.length else none
  | .tup ts => some ts.length
  | t => (viewL S t).map fun ts => ts.length
def gLen : GC := fun ts S Q => match ts with
  | [x] => ∃ n, lenT S x = some n ∧ Q (.int n) S
  | _ => False
theorem c_len (hK : X.K = K) : CallR X (.builtin "len") (lC K gLen) := by
  subst hK
  intro pins s σ H xs us Q I r ⟨S, ts, Qt, sr, rs, hg, b⟩
  cases rs with
  | nil => exact hg.elim
  | cons a l =>
    cases l with
    | cons _ _ => exact hg.elim
    | nil =>
      obtain ⟨n, e, q⟩ := hg
      rename_i t v
      have lists : (viewL S t).map (fun ts => (ts.length : Int)) = some n → wpAny (model X.prog X.w) X.A (call (.builtin "len") us) (EP X pins σ Q) X.xe s := by
        intro e3
        rw [Option.map_eq_some_iff] at e3
        obtain ⟨ts, e3, rfl⟩ := e3
        obtain ⟨p, vs, rfl, hq, rs⟩ := viewL_sq sr a e3
        exact call_len_seq pins s σ H _ us Q I r ⟨p, vs, rfl, .inl hq, by rw [rs.length]; exact b _ H _ S .refl sr .int q⟩
      cases t with
      | str z =>
        cases a
        simp only [lenT] at e
        split at e
        · next hz => cases e; exact call_len_str pins s σ H _ us Q I r ⟨z, rfl, hz, b _ H _ S .refl sr .int q⟩
        · cases e
      | tup ts =>
        cases a with
        | tup n' hp rs => cases e; exact call_len_seq pins s σ H _ us Q I r ⟨_, _, rfl, .inr (SqT.of hp), by rw [rs.length]; exact b _ H _ S .refl sr .int q⟩
      | _ => exact lists e
/-- isinstance(x, c) -/
def tyT (S : Sto) : T → Option Value
  | .non => some (.type "NoneType")
  | .bl _ => some (.type "bool")
  | .int _ => some (.type "int")
  | .str _ => some (.type "str")
  | .tup _ => some (.type "tuple")
  | .lst _ => some (.type "list")
  | .ref a => match S a with
    | some (.lst _) => some (.type "list")
    | some (.dK _) => some (.type "dict")
    | some (.dT _) => some (.type "dict")
    | _ => none
  | _ => none
def gIsi (K : Fg) : GC := fun ts S Q => match ts with
  | [x, .ty n] => ∃ t b, tyT S x = some t ∧ PySem.W.kitOne K t (.type n) = some b ∧ Q (.bl b) S
  | _ => False
theorem tyT_ok {H S t v ty} (s : SRp K H S) (r : Rp K H S t v) (e : tyT S t = some ty) : TyOf K H v ty := by
  cases r with
  | non => cases e; exact .non
  | bl => cases e; exact .bl _
  | int => cases e; exact .int _
  | str => cases e; exact .str _
  | tup n h _ => cases e; exact .tup h
  | lst n h _ => cases e; exact .lst h
  | ty => cases e
  | scr _ => cases e
  | ref =>
    rename_i a
    simp only [tyT] at e
    cases q : S a with
    | none => rw [q] at e; cases e
    | some o =>
      rw [q] at e
      cases o with
      | lst us => cases e; cases s a _ q with
        | lst h rs => exact .lst h
      | dK us => cases e; cases s a _ q with
        | dK h rs => exact .dK h
      | dT us => cases e; cases s a _ q with
        | dT h rs => exact .dT h
      | fK _ _ _ _ => cases e
      | ins _ _ => cases e
      | exc _ _ => cases e
theorem c_isi (hK : X.K = K) : CallR X (.builtin "isinstance") (lC K (gIsi K)) := by
  subst hK
  intro pins s σ H xs us Q I r ⟨S, ts, Qt, sr, rs, hg, b⟩
  cases rs with
  | nil => exact hg.elim
  | cons a l =>
    cases l with
    | nil => exact hg.elim
    | cons a2 l2 =>
      cases l2 with
      | cons _ _ => cases a2 <;> exact hg.elim
      | nil =>
        cases a2 <;> first | exact hg.elim | skip
        obtain ⟨t, k, e, hk, q⟩ := hg
        exact call_isinst pins s σ H _ us Q I r ⟨_, _, t, k, rfl, ⟨_, rfl, fun z h => h, hk⟩, tyT_ok sr a e, b _ H _ S .refl sr .bl q⟩
/-- list(x): a copy of a list or of a tuple -/
def gList (tr : Bool) : GC := fun ts S Q => match ts with
  | [.tup us] => newL tr us S Q
  | [x] => ∃ us, viewL S x = some us ∧ newL tr us S Q
  | _ => False
def gMin : GC := fun ts S Q => match ts with
  | [.int i, .int j] => Q (.int (if j < i then j else i)) S
  | _ => False
def gInt : GC := fun ts S Q => match ts with
  | [.int i] => Q (.int i) S
  | [.bl k] => Q (.int (if k then 1 else 0)) S
  | _ => False
/-! ### methods of built-in things -/
abbrev GM := T → List T → Sto → (T → Sto → Prop) → Prop
def tyM (ty : String) (S : Sto) (x : T) : Prop := match x with
  | .str _ => ty = "str"
  | .lst _ => ty = "list"
  | .ref a => match S a with
    | some (.lst _) => ty = "list"
    | some (.dK _) => ty = "dict"
    | some (.dT _) => ty = "dict"
    | _ => False
  | _ => False
def wBM (ty : String) (g : GM) (wa : WE) (wr : WA) : WE := fun σ S Q => wa σ S fun x S1 => tyM ty S1 x ∧ wr σ S1 fun ts S2 => g x ts S2 Q
/-- texts -/
def gSplit (tr : Bool) : GM := fun x ts S Q => match x, ts with
  | .str a, [.str c] => c.length ≠ 0 ∧ a.length ≤ 1000 ∧ newL tr ((Txt.split a c).map T.str) S Q
  | _, _ => False
def gStrip : GM := fun x ts S Q => match x, ts with
  | .str a, [.str c] => a.length ≤ sizeLine ∧ Q (.str (Txt.stripChars a c)) S
  | _, _ => False
def gStarts : GM := fun x ts S Q => match x, ts with
  | .str a, [.str c] => Q (.bl (Txt.startswith a c)) S
  | _, _ => False
def gReverse : GM := fun x ts S Q => match x, ts with
  | .ref a, [] => ∃ us, S a = some (.lst us) ∧ Q .non (put S a (.lst us.reverse))
  | _, _ => False
/-! ### x[i] = v of a list -/
abbrev GS := T → T → T → Sto → (Sto → Prop) → Prop
def gSetL : GS := fun o i v S Q => match o, i with
  | .ref a, .int k => ∃ us j, S a = some (.lst us) ∧ ixN us.length k = some j ∧ Q (put S a (.lst (us.set j v)))
  | _, _ => False
/-- x[k] = v, k written -/
def gSetN (k : Nat) : GS := fun o i v S Q => match o, i with
  | .ref a, .int j => j = k ∧ ∃ us, S a = some (.lst us) ∧ k < us.length ∧ Q (put S a (.lst (us.set k v)))
  | _, _ => False
def wgS (wo wi : WE) (g : GS) : WG := fun t σ S Q => wo σ S fun o S1 => wi σ S1 fun i S2 => g o i t S2 fun S3 => Q σ S3
end
end T2

set_option Elab.async false
set_option maxHeartbeats 4000000
set_option linter.unusedVariables false
namespace T2
open PySem PySem.Spec PyProof.Rows L2
/-! ### what one shows of loops -/
theorem for_rangeT {grd : Sto → Prop} {g : WG} {wb : WS} {D : EndsT} {lo : Int} {n : Nat} {σ : StT} {S : Sto} (Iv : Nat → StT → Sto → Prop) (h0 : Iv 0 σ S)
    (step : ∀ k σ S (N : StT → Sto → Prop), k < n → Iv k σ S → (∀ σ' S', Iv (k + 1) σ' S' → N σ' S') → grd S ∧ g (.int (lo + k)) σ S fun σ2 S2 => wb { nx := N, rt := D.rt, bk := D.nx, ct := N } σ2 S2)
    (done : ∀ σ S, Iv n σ S → grd S ∧ D.nx σ S) : forT grd g wb D (rangeT lo n) σ S := by
  unfold rangeT
  have main : ∀ (m k : Nat) σ S, k + m = n → Iv k σ S → forT grd g wb D ((List.range' k m).map fun (i : Nat) => T.int (lo + i)) σ S := by
    intro m
    induction m with
    | zero => intro k σ S e iv; rw [show k = n by omega] at iv; exact done σ S iv
    | succ m ih =>
      intro k σ S e iv
      rw [List.range'_succ, List.map_cons]
      exact step k σ S _ (by omega) iv fun σ' S' iv' => ih (k + 1) σ' S' (by omega) iv'
  rw [List.range_eq_range']
  exact main n 0 σ S (by omega) h0
/-! ### steps: what one shows, from the outside in -/
section
variable {σ : StT} {S S0 : Sto} {D : EndsT} {Q : T → Sto → Prop} {B : Bool → Sto → Prop} {L : List T → Sto → Prop} {t x y z : T} {p : Addr}
theorem i_seq {w u : WS} (h : w { D with nx := u D } σ S) : wSeq w u D σ S := h
theorem i_next (h : D.nx σ S) : wNext D σ S := h
theorem i_break (h : D.bk σ S) : wBreak D σ S := h
theorem i_cont (h : D.ct σ S) : wCont D σ S := h
theorem i_drop {w : WE} (h : w σ S fun _ S1 => D.nx σ S1) : wDrop w D σ S := h
theorem i_ret {w : WE} (h : w σ S D.rt) : wRet w D σ S := h
theorem i_retN (h : D.rt .non S) : wRetN D σ S := h
theorem i_ifS {t : WT} {w u : WS} (h : t σ S fun b S1 => if b = true then w D σ S1 else u D σ S1) : wIfS t w u D σ S := h
theorem i_asg {w : WE} {g : WG} (h : w σ S fun t S1 => g t σ S1 D.nx) : wAsg w g D σ S := h
theorem i_gN2 {i : Nat} {σ2 : StT} {Q : StT → Sto → Prop} (e : σ.set i (some t) = σ2) (h : Q σ2 S) : wgN i t σ S Q := by subst e; exact h
theorem i_gS {wo wi : WE} {g : GS} {Q : StT → Sto → Prop} (h : wo σ S fun o S1 => wi σ S1 fun i S2 => g o i t S2 fun S3 => Q σ S3) : wgS wo wi g t σ S Q := h
theorem i_gT {n : Nat} {g : WGs} {ts : List T} {Q : StT → Sto → Prop} (l : ts.length = n) (h : g ts σ S Q) : wgTup n g (.tup ts) σ S Q := ⟨ts, rfl, l, h⟩
theorem i_gCons {g : WG} {h : WGs} {ts : List T} {Q : StT → Sto → Prop} (q : g t σ S fun σ' S' => h ts σ' S' Q) : wgCons g h (t :: ts) σ S Q := ⟨t, ts, rfl, q⟩
theorem i_gNil {Q : StT → Sto → Prop} (q : Q σ S) : wgNil [] σ S Q := ⟨rfl, q⟩
theorem i_for {wi : WI} {g : WG} {wb : WS} (h : wi σ S fun src S1 => forT src.grd g wb D src.items σ S1) : wFor wi g wb D σ S := h
theorem i_V {i : Nat} (e : σ[i]? = some (some t)) (h : Q t S) : wV i σ S Q := ⟨t, e, h⟩
theorem i_C (h : Q t S) : wC t σ S Q := h
theorem i_2 {g : G2} {wa wb : WE} (h : wa σ S fun x S1 => wb σ S1 fun y S2 => g x y S2 Q) : w2 g wa wb σ S Q := h
theorem i_B {w : WE} (h : w σ S fun x S1 => ∃ k, x = .bl k ∧ B k S1) : wB w σ S B := h
theorem i_bl {k : Bool} {C : Bool → Prop} (h : C k) : ∃ k', T.bl k = .bl k' ∧ C k' := ⟨k, rfl, h⟩
theorem i_chain {g g' : G2} {wa wb wc : WE} (h : wa σ S fun x S1 => wb σ S1 fun y S2 => g x y S2 fun z S3 => ∃ k, z = .bl k ∧ if k = true then wc σ S3 fun u S4 => g' y u S4 Q else Q (.bl false) S3) : wChain g g' wa wb wc σ S Q := h
theorem i_and {t u : WT} (h : t σ S fun c S1 => if c = true then u σ S1 B else B false S1) : wAnd t u σ S B := h
theorem i_or {t u : WT} (h : t σ S fun c S1 => if c = true then B true S1 else u σ S1 B) : wOr t u σ S B := h
theorem i_not {t : WT} (h : t σ S fun c S1 => B (!c) S1) : wNot t σ S B := h
theorem i_true (h : B true S) : wTrue σ S B := h
theorem i_andV {wa wb : WE} (h : wa σ S fun x S1 => ∃ k, x = .bl k ∧ if k = true then wb σ S1 Q else Q (.bl false) S1) : wAndV wa wb σ S Q := h
theorem i_orV {wa wb : WE} (h : wa σ S fun x S1 => ∃ k, x = .bl k ∧ if k = true then Q (.bl true) S1 else wb σ S1 Q) : wOrV wa wb σ S Q := h
theorem i_notV {wa : WE} (h : wa σ S fun x S1 => ∃ k, x = .bl k ∧ Q (.bl (!k)) S1) : wNotV wa σ S Q := h
theorem i_if {t : WT} {wa wb : WE} (h : t σ S fun c S1 => if c = true then wa σ S1 Q else wb σ S1 Q) : wIf t wa wb σ S Q := h
theorem i_nil (h : L [] S) : wNil σ S L := h
theorem i_cons {wa : WE} {wr : WA} (h : wa σ S fun x S1 => wr σ S1 fun xs S2 => L (x :: xs) S2) : wCons wa wr σ S L := h
theorem i_tup {wr : WA} (h : wr σ S fun ts S1 => ts.length ≤ sizeLine ∧ Q (.tup ts) S1) : wTup wr σ S Q := h
theorem i_lst {wr : WA} (h : wr σ S fun ts S1 => ts.length ≤ sizeLine ∧ Q (.lst ts) S1) : wLst wr σ S Q := h
theorem i_lstT {wr : WA} (h : wr σ S fun ts S1 => ts.length ≤ sizeLine ∧ ∀ p, S1 p = none → Q (.ref p) (put S1 p (.lst ts))) : wLstT wr σ S Q := h
theorem i_call {w : WSp} {dts : List T} {wr : WA} (h : wr σ S fun ts S1 => w (ts ++ dts) S1 Q) : wCall w dts wr σ S Q := h
theorem i_cb {g : GC} {wr : WA} (h : wr σ S fun ts S1 => g ts S1 Q) : wCB g wr σ S Q := h
theorem i_bm {ty : String} {g : GM} {wa : WE} {wr : WA} (h : wa σ S fun x S1 => tyM ty S1 x ∧ wr σ S1 fun ts S2 => g x ts S2 Q) : wBM ty g wa wr σ S Q := h
theorem i_neg {wa : WE} (h : wa σ S fun x S1 => match x with | .int i => Q (.int (-i)) S1 | _ => False) : wNeg wa σ S Q := h
theorem i_sl {tr : Bool} {wa : WE} {wl wh : WO} (h : wa σ S fun x S1 => wl σ S1 fun l S2 => wh σ S2 fun h S3 => gSl tr x l h S3 Q) : wSl tr wa wl wh σ S Q := h
theorem i_oN {O' : Option Int → Sto → Prop} (h : O' none S) : woN σ S O' := h
theorem i_oS {wa : WE} {O' : Option Int → Sto → Prop} (h : wa σ S fun x S1 => match x with | .int i => O' (some i) S1 | _ => False) : woS wa σ S O' := h
theorem i_comp {tr : Bool} {wi : WI} {n : Nat} {caps : List Nat} {g : WG} {tt : WT} {te : WE} (h : wi σ S fun src S1 => compT src.grd g tt te (fun ts S2 => newL tr ts S2 Q) src.items [] (compStT n caps σ) S1) : wComp tr wi n caps g tt te σ S Q := h
theorem i_newF {ts : List T} (h : Q (.lst ts) S) : newL false ts S Q := h
variable {R : Src → Sto → Prop}
theorem i_iL {wa : WE} (h : wa σ S fun x S1 => ∃ ts, viewL S1 x = some ts ∧ R ⟨ts, liveOk x ts⟩ S1) : wiL wa σ S R := h
theorem i_iR1 {wa : WE} (h : wa σ S fun x S1 => match x with | .int j => -(2 ^ 62) ≤ j ∧ j < 2 ^ 62 ∧ R ⟨rangeT 0 j.toNat, fun _ => True⟩ S1 | _ => False) : wiR1 wa σ S R := h
theorem i_iS {wa : WE} (h : wa σ S fun x S1 => match x with | .str z => R ⟨signsT z, fun _ => True⟩ S1 | _ => False) : wiS wa σ S R := h
/-! operations on what is known -/
variable {i j : Int} {a c : Str} {ts us : List T}
theorem g_sub (h : Q (.int (i - j)) S) : gSub (.int i) (.int j) S Q := ⟨trivial, h⟩
theorem g_div (h0 : 0 < j) (h1 : j < 18446744073709551616) (h : Q (.int (i / j)) S) : gDiv (.int i) (.int j) S Q := ⟨⟨h0, h1⟩, h⟩
theorem g_mod (h0 : 0 < j) (h : Q (.int (i % j)) S) : gMod (.int i) (.int j) S Q := ⟨h0, h⟩
theorem g_pow (h0 : 0 ≤ j) (h1 : j ≤ 1000000) (h2 : i.natAbs < 2 ^ 64) (h : Q (.int (i ^ j.toNat)) S) : gPow (.int i) (.int j) S Q := ⟨⟨h0, h1, h2⟩, h⟩
theorem g_shr (h0 : 0 ≤ j) (h : Q (.int (i / 2 ^ j.toNat)) S) : gShr (.int i) (.int j) S Q := ⟨h0, h⟩
theorem g_addI {tr : Bool} (h : Q (.int (i + j)) S) : gAdd tr (.int i) (.int j) S Q := h
theorem g_addS {tr : Bool} (h0 : a.length + c.length ≤ sizeLine) (h : Q (.str (a ++ c)) S) : gAdd tr (.str a) (.str c) S Q := ⟨h0, h⟩
theorem g_addL {tr : Bool} (e1 : viewR S x = some ts) (e2 : viewR S y = some us) (hz : ts.length + us.length ≤ sizeLine) (h : newL tr (ts ++ us) S Q) : gAdd tr x y S Q := by
  cases x <;> first | (cases e1; done) | exact ⟨ts, us, e1, e2, hz, h⟩
theorem g_mulI {tr : Bool} (h0 : CMul i j) (h : Q (.int (i * j)) S) : gMul tr (.int i) (.int j) S Q := ⟨h0, h⟩
theorem g_eqI {n : Bool} (h : Q (.bl (n ^^ decide (i = j))) S) : gEq n (.int i) (.int j) S Q := h
theorem g_eqS {n : Bool} (h : Q (.bl (n ^^ decide (a = c))) S) : gEq n (.str a) (.str c) S Q := h
theorem g_eqB {n k l : Bool} (h : Q (.bl (n ^^ decide (k = l))) S) : gEq n (.bl k) (.bl l) S Q := h
theorem g_ltI (h : Q (.bl (decide (i < j))) S) : gLt (.int i) (.int j) S Q := h
theorem g_leI (h : Q (.bl (decide (i ≤ j))) S) : gLe (.int i) (.int j) S Q := h
theorem g_gtI (h : Q (.bl (decide (j < i))) S) : gGt (.int i) (.int j) S Q := h
theorem g_geI (h : Q (.bl (decide (j ≤ i))) S) : gGe (.int i) (.int j) S Q := h
theorem g_ltS (h : Q (.bl (ltS a c)) S) : gLt (.str a) (.str c) S Q := h
theorem g_leS (h : Q (.bl (!ltS c a)) S) : gLe (.str a) (.str c) S Q := h
theorem g_is {n : Bool} (h : Q (.bl (n ^^ isN x)) S) : gIs n x .non S Q := h
theorem g_ixT (e : atI ts i = some t) (h : Q t S) : gIx (.tup ts) (.int i) S Q := ⟨t, e, h⟩
theorem g_ixL (e : atI ts i = some t) (h : Q t S) : gIx (.lst ts) (.int i) S Q := ⟨t, e, h⟩
theorem g_ixR (e : S p = some (.lst ts)) (e2 : atI ts i = some t) (h : Q t S) : gIx (.ref p) (.int i) S Q := ⟨t, by simp only [ixT, viewL, e, Option.bind_some]; exact e2, h⟩
theorem g_ixS {d : Nat} (hz : a.length ≤ sizeLine) (e : atI a.cps.toList i = some d) (h : Q (.str ⟨#[d]⟩) S) : gIx (.str a) (.int i) S Q := ⟨_, by simp only [ixT, if_pos hz, e, Option.map_some], h⟩
theorem g_slS {tr : Bool} {lo hi : Option Int} (hz : a.length ≤ sizeLine) (h : Q (.str (Txt.slice a lo hi)) S) : gSl tr (.str a) lo hi S Q := ⟨hz, h⟩
theorem g_slL {tr : Bool} {lo hi : Option Int} (h : newL tr (cutT ts lo hi) S Q) : gSl tr (.lst ts) lo hi S Q := ⟨ts, rfl, h⟩
theorem g_slC {tr : Bool} {lo hi : Option Int} {ns : List Int} (h : newL tr (cutT (ns.map T.int) lo hi) S Q) : gSl tr (.scr ns) lo hi S Q := ⟨_, rfl, h⟩
theorem g_slR {tr : Bool} {lo hi : Option Int} (e : S p = some (.lst ts)) (h : newL tr (cutT ts lo hi) S Q) : gSl tr (.ref p) lo hi S Q := ⟨ts, by simp only [viewL, e], h⟩
theorem g_setP {Q : Sto → Prop} {k : Nat} (e : ixN ts.length i = some k) (h : Q (put S p (.lst (ts.set k t)))) : gSetL (.ref p) (.int i) t (put S p (.lst ts)) Q := ⟨ts, k, put_same, e, by rw [put_put]; exact h⟩
theorem g_set {Q : Sto → Prop} {k : Nat} (e : S p = some (.lst ts)) (e2 : ixN ts.length i = some k) (h : Q (put S p (.lst (ts.set k t)))) : gSetL (.ref p) (.int i) t S Q := ⟨ts, k, e, e2, h⟩
theorem atI_in {α : Type} {ls : List α} (h0 : 0 ≤ i) (h1 : i < ls.length) : ∃ z, atI ls i = some z ∧ z ∈ ls := by
  have hj : i.toNat < ls.length := by omega
  refine ⟨ls[i.toNat], ?_, List.getElem_mem hj⟩
  have e : ((i.toNat : Nat) : Int) = i := by omega
  have := atI_nat (xs := ls) (j := i.toNat) (v := ls[i.toNat]) (by simp [hj])
  rw [e] at this
  exact this
theorem atI_map {α β : Type} {ls : List α} (f : α → β) : atI (ls.map f) i = (atI ls i).map f := by
  unfold atI
  rw [List.length_map]
  cases ixN ls.length i with
  | none => rfl
  | some j => simp [List.getElem?_map]
theorem atI_zero {α : Type} {a : α} {l : List α} : atI (a :: l) 0 = some a := by
  unfold atI ixN
  rw [if_pos (Int.le_refl 0), if_pos (by simp only [List.length_cons]; omega)]
  rfl
theorem g_ixL0 (h : Q x S) : gIx (.lst (x :: ts)) (.int 0) S Q := ⟨x, atI_zero, h⟩
theorem g_ixM {α : Type} {f : α → T} {ls : List α} (h0 : 0 ≤ i) (h1 : i < ls.length) (h : ∀ z, z ∈ ls → atI ls i = some z → Q (f z) S) : gIx (.lst (ls.map f)) (.int i) S Q := by
  obtain ⟨z, e, hz⟩ := atI_in h0 h1
  exact ⟨f z, by simp only [ixT, viewL, Option.bind_some, atI_map, e, Option.map_some], h z hz e⟩
theorem g_ixC {ns : List Int} (h0 : 0 ≤ i) (h1 : i < ns.length) (h : ∀ z, z ∈ ns → atI ns i = some z → Q (.int z) S) : gIx (.scr ns) (.int i) S Q := by
  obtain ⟨z, e, hz⟩ := atI_in h0 h1
  exact ⟨.int z, by simp only [ixT, viewL, Option.bind_some, atI_map, e, Option.map_some], h z hz e⟩
theorem g_ixMR {α : Type} {f : α → T} {ls : List α} (e : S p = some (.lst (ls.map f))) (h0 : 0 ≤ i) (h1 : i < ls.length) (h : ∀ z, z ∈ ls → atI ls i = some z → Q (f z) S) : gIx (.ref p) (.int i) S Q := by
  obtain ⟨z, e', hz⟩ := atI_in h0 h1
  exact ⟨f z, by simp only [ixT, viewL, e, Option.bind_some, atI_map, e', Option.map_some], h z hz e'⟩
theorem g_setNP {Q : Sto → Prop} {k : Nat} (e0 : i = k) (hk : k < ts.length) (e : ts.set k t = us) (h : Q (put S p (.lst us))) : gSetN k (.ref p) (.int i) t (put S p (.lst ts)) Q := ⟨e0, ts, put_same, hk, by rw [put_put, e]; exact h⟩
theorem g_setN {Q : Sto → Prop} {k : Nat} (e1 : S p = some (.lst ts)) (e0 : i = k) (hk : k < ts.length) (e : ts.set k t = us) (h : Q (put S p (.lst us))) : gSetN k (.ref p) (.int i) t S Q := ⟨e0, ts, e1, hk, by rw [e]; exact h⟩
theorem g_inT {n : Bool} (f : flatT x = true) (f2 : ts.all flatT = true) (h : Q (.bl (n ^^ ts.any fun y => eqF y x)) S) : gIn n x (.tup ts) S Q := by cases x <;> exact ⟨f, f2, h⟩
theorem g_inL {n : Bool} (f : flatT x = true) (f2 : ts.all flatT = true) (h : Q (.bl (n ^^ ts.any fun y => eqF y x)) S) : gIn n x (.lst ts) S Q := by cases x <;> exact ⟨ts, rfl, f, f2, h⟩
theorem g_inR {n : Bool} (e : S p = some (.lst ts)) (f : flatT x = true) (f2 : ts.all flatT = true) (h : Q (.bl (n ^^ ts.any fun y => eqF y x)) S) : gIn n x (.ref p) S Q := by
  cases x <;> exact ⟨ts, by simp only [viewL, e], f, f2, h⟩
theorem g_lenS (hz : a.length ≤ sizeLine) (h : Q (.int a.length) S) : gLen [.str a] S Q := ⟨_, if_pos hz, h⟩
theorem g_lenT (h : Q (.int ts.length) S) : gLen [.tup ts] S Q := ⟨_, rfl, h⟩
theorem g_lenL (h : Q (.int ts.length) S) : gLen [.lst ts] S Q := ⟨_, rfl, h⟩
theorem g_lenM {α : Type} {f : α → T} {ls : List α} (h : Q (.int ls.length) S) : gLen [.lst (ls.map f)] S Q := ⟨_, by simp [lenT, viewL], h⟩
theorem g_lenC {ns : List Int} (h : Q (.int ns.length) S) : gLen [.scr ns] S Q := ⟨_, by simp [lenT, viewL], h⟩
theorem g_lenR (e : S p = some (.lst ts)) (h : Q (.int ts.length) S) : gLen [.ref p] S Q := ⟨_, by simp only [lenT, viewL, e, Option.map_some], h⟩
theorem g_isi {K : Fg} {n : String} {v : Value} {b : Bool} (e : tyT S x = some v) (k : PySem.W.kitOne K v (.type n) = some b) (h : Q (.bl b) S) : gIsi K [x, .ty n] S Q := ⟨v, b, e, k, h⟩
theorem g_min (h : Q (.int (if j < i then j else i)) S) : gMin [.int i, .int j] S Q := h
theorem g_intB {k : Bool} (h : Q (.int (if k then 1 else 0)) S) : gInt [.bl k] S Q := h
theorem g_listL {tr : Bool} (h : newL tr ts S Q) : gList tr [.lst ts] S Q := ⟨ts, rfl, h⟩
theorem g_listR {tr : Bool} (e : S p = some (.lst ts)) (h : newL tr ts S Q) : gList tr [.ref p] S Q := ⟨ts, by simp only [viewL, e], h⟩
theorem g_split {tr : Bool} (h0 : c.length ≠ 0) (h1 : a.length ≤ 1000) (h : newL tr ((Txt.split a c).map T.str) S Q) : gSplit tr (.str a) [.str c] S Q := ⟨h0, h1, h⟩
theorem g_strip (h0 : a.length ≤ sizeLine) (h : Q (.str (Txt.stripChars a c)) S) : gStrip (.str a) [.str c] S Q := ⟨h0, h⟩
theorem g_starts (h : Q (.bl (Txt.startswith a c)) S) : gStarts (.str a) [.str c] S Q := h
theorem g_reverse (e : S p = some (.lst ts)) (h : Q .non (put S p (.lst ts.reverse))) : gReverse (.ref p) [] S Q := ⟨ts, e, h⟩
theorem m_str {Q : Prop} (h : Q) : tyM "str" S (.str a) ∧ Q := ⟨rfl, h⟩
theorem m_lst {Q : Prop} (h : Q) : tyM "list" S (.lst ts) ∧ Q := ⟨rfl, h⟩
theorem m_ref {Q : Prop} (e : S p = some (.lst ts)) (h : Q) : tyM "list" S (.ref p) ∧ Q := ⟨by simp only [tyM, e], h⟩
theorem v_lst {A : List T → Prop} (h : A ts) : ∃ us, viewL S (.lst ts) = some us ∧ A us := ⟨ts, rfl, h⟩
theorem v_scr {A : List T → Prop} {ns : List Int} (h : A (ns.map T.int)) : ∃ us, viewL S (.scr ns) = some us ∧ A us := ⟨_, rfl, h⟩
theorem v_ref {A : List T → Prop} (e : S p = some (.lst ts)) (h : A ts) : ∃ us, viewL S (.ref p) = some us ∧ A us := ⟨ts, by simp only [viewL, e], h⟩
theorem z_le {ts : List T} {n : Nat} {Q : Prop} (e : ts.length ≤ sizeLine) (h : Q) : ts.length ≤ sizeLine ∧ Q := ⟨e, h⟩
theorem g_ixSP (hz : a.length ≤ sizeLine) (h0 : 0 ≤ i) (h1 : i < a.length) (h : ∀ d, d ∈ a.cps.toList → atI a.cps.toList i = some d → Q (.str ⟨#[d]⟩) S) : gIx (.str a) (.int i) S Q := by
  obtain ⟨d, e, hd⟩ := atI_in (ls := a.cps.toList) h0 (by simpa [Str.length] using h1)
  exact g_ixS hz e (h d hd e)
theorem g_lenMR {α : Type} {f : α → T} {ls : List α} (e : S p = some (.lst (ls.map f))) (h : Q (.int ls.length) S) : gLen [.ref p] S Q := ⟨_, by simp only [lenT, viewL, e, Option.map_some, List.length_map], h⟩
theorem Le.put {o : O} (h : S p = Option.none) : Le S (T2.put S p o) := fun a u e => by
  have : a ≠ p := fun z => by rw [z, h] at e; cases e
  rw [put_ne this]; exact e
theorem Le.trans {S1 S2 S3 : Sto} (a : Le S1 S2) (b : Le S2 S3) : Le S1 S3 := fun c o h => b c o (a c o h)
theorem any_eqS (z : Str) (ws : List Str) : ((ws.map T.str).any fun y => eqF y (.str z)) = decide (z ∈ ws) := by
  induction ws with
  | nil => rfl
  | cons a l ih =>
    rw [List.map_cons, List.any_cons, ih, Bool.eq_iff_iff]
    simp only [eqF, Bool.or_eq_true, beq_iff_eq, decide_eq_true_eq, List.mem_cons]
    constructor
    · rintro (h | h)
      · exact .inl h.symm
      · exact .inr h
    · rintro (h | h)
      · exact .inl h.symm
      · exact .inr h
theorem all_flatS (ws : List Str) : (ws.map T.str).all flatT = true := by
  induction ws with
  | nil => rfl
  | cons a l ih => rw [List.map_cons, List.all_cons, ih]; rfl
theorem g_inSR {n : Bool} {ws : List Str} {zz : Str} (e : S p = some (.lst (ws.map T.str))) (h : Q (.bl (n ^^ decide (zz ∈ ws))) S) : gIn n (.str zz) (.ref p) S Q := g_inR e rfl (all_flatS ws) (by rw [any_eqS]; exact h)
theorem g_inSL {n : Bool} {ws : List Str} {zz : Str} (h : Q (.bl (n ^^ decide (zz ∈ ws))) S) : gIn n (.str zz) (.lst (ws.map T.str)) S Q := g_inL rfl (all_flatS ws) (by rw [any_eqS]; exact h)
def cutG {α : Type} (ls : List α) (lo hi : Option Int) : List α := (ls.drop (HT.sIx ls.length 0 lo)).take (HT.sIx ls.length ls.length hi - HT.sIx ls.length 0 lo)
theorem cutT_map {α : Type} {f : α → T} {ls : List α} {lo hi : Option Int} : cutT (ls.map f) lo hi = (cutG ls lo hi).map f := by
  unfold cutT cutG
  rw [List.length_map, List.map_take, List.map_drop]
theorem g_slM {tr : Bool} {α : Type} {f : α → T} {ls : List α} {lo hi : Option Int} (h : newL tr ((cutG ls lo hi).map f) S Q) : gSl tr (.lst (ls.map f)) lo hi S Q := g_slL (by rw [cutT_map]; exact h)
theorem i_rng {A : Prop} (h0 : -(2 ^ 62) ≤ j) (h1 : j < 2 ^ 62) (h : A) : -(2 ^ 62) ≤ j ∧ j < 2 ^ 62 ∧ A := ⟨h0, h1, h⟩
theorem ifT {A C : Prop} (h : A) : if true = true then A else C := by rw [if_pos rfl]; exact h
theorem ifF {A C : Prop} (h : C) : if false = true then A else C := by rw [if_neg Bool.false_ne_true]; exact h
theorem ifNT {A C : Prop} (h : C) : if (!true) = true then A else C := ifF h
theorem ifNF {A C : Prop} (h : A) : if (!false) = true then A else C := ifT h
theorem ifB {b : Bool} {A C : Prop} (h1 : b = true → A) (h2 : b = false → C) : if b = true then A else C := by
  cases b with
  | true => exact ifT (h1 rfl)
  | false => exact ifF (h2 rfl)
end
end T2

set_option Elab.async false
set_option maxHeartbeats 4000000
set_option linter.unusedVariables false
/-! TEXTS as lists of codes -/
namespace Tm
open PySem PySem.Spec PyProof.Rows
abbrev tl (x : Str) : List Nat := x.cps.toList
theorem ext {x y : Str} (h : tl x = tl y) : x = y := by cases x; cases y; simp only [tl] at h; rw [Array.toList_inj.mp h]
theorem len (x : Str) : (tl x).length = x.length := by simp [tl, Str.length]
theorem empty : tl ("" : Str) = [] := by decide +kernel
theorem len_one (d : Nat) : Str.length ⟨#[d]⟩ = 1 := rfl
theorem len_blank : Str.length (Str.ofString " ") = 1 := by decide +kernel
theorem len_empty : Str.length (Str.ofString "") = 0 := by decide +kernel
/-! tails -/
end Tm

set_option Elab.async false
set_option maxHeartbeats 4000000
set_option linter.all false
namespace T2
open PySem PySem.Spec PyProof.Rows L2
/-! ### the rules in closed form (so that the judgements may be sealed) -/
section
variable {K : Fg} {X : Cx} {k : Nat} {f : Addr} {fd : FuncData} {ps : List Str} {wsp : WSp} {x m : Str} {p pos apos cpos : Pos} {e o : Expr} {es : List Expr} {wa wb : WE} {wr : WA} {id ty : String} {g : GC} {gm : GM} {i : Nat}
theorem Q_var (i : Nat) (hN : X.N[i]? = some x := by rfl) (hv : Vis X.env.scope x := by first | exact Or.inl rfl | exact Or.inr (Or.inl rfl) | exact Or.inr (Or.inr rfl)) (hd : (x == ("__debug__" : Str)) = false := by decide)
    (hcd : (x == ("__classdict__" : Str)) = false := by decide) : QE K X (.Name x pos) (wV i) := q_var (pe_var hN hv hd hcd)
theorem Q_ty {n : String} (hg : Gl X x) (hm : X.mg x = none) (hv : bootBuiltins x = some (.type n)) (hn : x ≠ "__name__" := by decide) (hd : (x == ("__debug__" : Str)) = false := by decide) : QE K X (.Name x pos) (wC (.ty n)) :=
  q_glob (pe_bltn (v := .ty n) hg hm hv rfl hn hd) fun _ _ => .ty
theorem Q_call (F : FnOk X.prog X.w X.K X.mg X.base CX0 k f fd ps (lSp K wsp)) (D : Df X.K X.mg x f fd ps) (hr : Room k X.A) (hg : Gl X x) (ha : QA K X (e :: es) wr)
    (hdb : (x == ("__debug__" : Str)) = false := by decide) (he : starEach (e :: es) X.env = (false, eval e X.env) :: starEach es X.env := by rfl) (hpl : (backTo pos (starEach es X.env)).any (·.1) = false := by rfl) :
    QE K X (.Call (.Name x p) (e :: es) [] pos) (wCall wsp [] wr) := q_call (dvs := []) (fun _ _ => .nil) (pe_call F hr hg D.hm D.kp D.b .nil pass0 ha hdb he hpl)
theorem Q_cb (hc : CallR X (.builtin id) (lC K g)) (hg : Gl X x) (hm : X.mg x = none) (hv : bootBuiltins x = some (.builtin id)) (ha : QA K X (e :: es) wr) (hn : x ≠ "__name__" := by decide) (hdb : (x == ("__debug__" : Str)) = false := by decide)
    (he : starEach (e :: es) X.env = (false, eval e X.env) :: starEach es X.env := by rfl) (hpl : (backTo pos (starEach es X.env)).any (·.1) = false := by rfl) : QE K X (.Call (.Name x p) (e :: es) [] pos) (wCB g wr) := q_cb (pe_callB hc hg hm hv ha hn hdb he hpl)
theorem Q_gname {y : Str} {i : Nat} (hN : X.N.Nodup) (hi : X.N[i]? = some y) (hx : Loc X.env.scope y) (hf : X.fn y = true ∨ X.env.scope.names.lookup y = some .local := by first | exact .inl rfl | exact .inr rfl | assumption) : QG K X (.Name y pos) (wgN i) := qg_name (pg_name hN hi hx hf)
end
end T2

set_option Elab.async false
set_option maxHeartbeats 4000000
set_option linter.unusedVariables false
/-! ### dicts of ints and texts, over trees -/
namespace T2
open PySem PySem.Spec PyProof.Rows L2
section
variable {κ : Type} [DecidableEq κ]
variable {K : Fg} {H : Hp} {S : Sto}
end
section
variable {K : Fg} {X : Cx} {H : Hp} {S : Sto}
/-! reading -/
/-! writing -/
/-! walks -/
/-! held no longer -/
end
end T2

set_option Elab.async false
set_option maxHeartbeats 4000000
set_option linter.all false
/-! ### objects: the rules in closed form, and their steps -/
namespace T2
open PySem PySem.Spec PyProof.Rows L2
section
variable {K : Fg} {X : Cx} {k : Nat} {f C : Addr} {fd : FuncData} {ps : List Str} {wsp : WSp} {x m fl : Str} {p pos apos cpos pos' : Pos} {e o value : Expr} {es : List Expr} {wa wv : WE} {wr : WA} {G : Addr → Prop}
/-- a def with defaults -/
structure FunD (K : Fg) (x qual : Str) (st : Stmt) (f : Addr) (fd : FuncData) : Prop where
  ex : ∃ (oc : Value) (od : Option Addr) (dV kV doc pm : Value) (an : Option Addr) (cdv ct : Value) (osl : Array (Option Value)),
    fd = PySem.W.fnOf x qual (defArgs st) (defBody st) (defScope st) dV kV doc pm an cdv ct ∧ K.lookup f = some ⟨oc, od, .func fd, osl⟩ ∧ PySem.W.codeIn K cdv qual = true
theorem ok_defD {P : Program} {w : World} {mg : Str → Option Value} {base : Heap} {x qual : Str} {st : Stmt} {N : List Str} (F : FunD K x qual st f fd) (Sc : FnScope N ps (defScope st)) (len : ∀ ts S Q, wsp ts S Q → ts.length = ps.length)
    (hbody : ∀ (cdv : Value) (A : Around) (outer : List Env) (s : Shared) (H : Hp) (E : XK), Room k (A.deeper (envOfC qual (defScope st) s.heap.objs.size f cdv)) →
      ∃ u, QSs K (cxOf CX0 P w K mg base N qual (defScope st) f cdv A outer s H E).nox (defBody st) u ∧ ∀ ts S Q, wsp ts S Q → u { nx := fun _ S' => Fin Q .non S', rt := Fin Q } (startT N ts) S) : FnOk P w K mg base CX0 (k + 1) f fd ps (lSp K wsp) := by
  obtain ⟨oc, od, dV, kV, doc, pm, an, cdv, ct, osl, rfl, lk, hcd⟩ := F.ex
  refine fn_of lk hcd Sc (fun vs H Q E ⟨S, ts, Qt, s, r, q, _⟩ => by rw [r.length]; exact len _ _ _ q) fun A outer s H vs Q E hr ⟨S, ts, Qt, sr, r, q, b⟩ => ?_
  obtain ⟨u, hu, hq⟩ := hbody cdv A outer s H E hr
  exact ⟨_, L2.PSs.nox hu, S, startT N ts, _, sr, cov_start r, hq ts S Qt q, ⟨fun _ H' _ S' f s' _ q' => Fin.ends b f s' .non q', fun v H' t S' f s' r' q' => Fin.ends b f s' r' q', fun _ _ _ _ _ _ _ q' => q'.elim, fun _ _ _ _ _ _ _ q' => q'.elim⟩⟩
end
/-! steps -/
section
variable {σ : StT} {S : Sto} {D : EndsT} {Q : T → Sto → Prop} {R : Prop} {w : World} {a d C : Addr} {G : Addr → Prop} {fs : List (Str × T)} {m fl : Str} {t : T} {x y : T} {kts : List (Key × T)} {k : Key} {i : Int}
end
end T2

set_option maxRecDepth 100000
set_option Elab.async false
namespace PySem
open Sem (wp)
section
variable {prog : Program} {w : World} {A : Around} {E : Value → Shared → Prop} {h : Heap} {g : Array GenState} {d : Drawn} {t : Nat} {os : OsState}
variable {nm q : Str} {C N : Addr} {bs bm bmB : List Value} {hdct : Bool} {sn : List Str} {sub : List Value} {ab : Bool} {col : Option Bool} {dd : Option Addr} {k0 k1 k2 k3 k5 : Option Value} {B newId initId : String}
theorem type_call_subT (F : ExcBaseFacts B newId initId bmB) (T : OwnTail h bmB bm) {mN : Str → Option Value} {rest : List Value} {Q : Fin → Shared → Prop}
    (hC : h.get? C = some (excClassObj nm q C N bs bm hdct sn sub ab col dd k0 k1 k2 k3 k5 newId)) (hn : h.Ns N mN) (hni : mN "__init__" = none)
    (hq : ∀ h' e, Heap.MadeExcOf h h' e (.ref C) rest → h.objs.size ≤ e → Q (.done (.ret (.ref e))) ⟨h', g, d, t, os⟩) (hrest : rest.length ≤ sizeLine := by size_fits) :
    wpAny (model prog w) A (Builtin.«type.__call__» ⟨.ref C :: rest, []⟩) Q E ⟨h, g, d, t, os⟩ := by
  repeat (first | with_reducible refine wpAny_loadPart_at hC ?_ | with_reducible refine wpAny_madeBy_exc hC ?_ | wp_step)
  refine codeAny_call_builtin_code (Code.quiet_builtin _ F.quiet) (wpAny_check_new_subT F T hC ?_)
  refine codeAny_exc_new_subT F T hC ?_ hrest
  show wpAny _ _ _ _ _ _
  have hC₁ := Heap.get?_push_of_some { cls := .ref C, data := .fields #[.ref h.objs.size, .none, .none, .none, .bool false, .none] }
    (Heap.get?_push_of_some { cls := .type "tuple", data := .seq rest.toArray } hC)
  have hn₁ : ((h.push { cls := .type "tuple", data := .seq rest.toArray }).push { cls := .ref C, data := .fields #[.ref h.objs.size, .none, .none, .none, .bool false, .none] }).Ns N mN :=
    let ⟨o, es, ep, e, r⟩ := hn; ⟨o, es, ep, Heap.get?_push_of_some _ (Heap.get?_push_of_some _ e), r⟩
  have hget : ((h.push { cls := .type "tuple", data := .seq rest.toArray }).push
      { cls := .ref C, data := .fields #[.ref h.objs.size, .none, .none, .none, .bool false, .none] }).get? (h.objs.size + 1) = some
      { cls := .ref C, data := .fields #[.ref h.objs.size, .none, .none, .none, .bool false, .none] } := by heap_get
  have hcC : (Value.ref C :: bm).contains (.ref C) = true := by simp
  have T₁ := T.keeps (h' := (h.push { cls := .type "tuple", data := .seq rest.toArray }).push { cls := .ref C, data := .fields #[.ref h.objs.size, .none, .none, .none, .bool false, .none] })
    fun b o e => Heap.get?_push_of_some _ (Heap.get?_push_of_some _ e)
  unfold isInstance
  repeat (first | with_reducible refine wpAny_loadPart_at hget ?_ | (with_reducible refine wpAny_isSubtype_exc hC₁ ?_; rw [hcC]) | wp_step)
  show wpAny _ _ (typeLookup (.ref C) _) _ _ _
  refine wpAny_typeLookup_tail hC₁ hn₁ T₁ F.mroIs F.init.lookup ?_
  rw [hni]
  refine wpAny_holding (wpAny_bind (wpAny_of_eq (F.init.bind _) ?_))
  refine wpAny_bind (wpAny_call (codeAny_call_builtin F.init.plain F.initEntry (wpAny_check_init_subT F T₁ hC₁ hget rfl ?_)))
  wp_walk
  refine hq _ _ ⟨fun b o hb => ?_, Heap.get?_none_of_le (Nat.le_succ _), h.objs.size + 2, ?_, Heap.get?_none_of_le (by omega), ?_⟩ (Nat.le_succ _)
  · rw [Heap.get?_update_other _ _ (Nat.ne_of_gt (Nat.lt_succ_of_lt (Heap.lt_size hb)))]
    exact Heap.get?_push_of_some _ (Heap.get?_push_of_some _ (Heap.get?_push_of_some _ hb))
  · rw [Heap.get?_update_self _ (Heap.get?_push_of_some _ hget) rfl]
    simp only [Heap.size_push]
    rfl
  · rw [Heap.get?_update_other _ _ (show h.objs.size + 1 ≠ h.objs.size + 2 by omega)]
    exact Heap.get?_push_at (by simp only [Heap.size_push]) rfl

theorem call_subT (F : ExcBaseFacts B newId initId bmB) (T : OwnTail h bmB bm) {mN : Str → Option Value} {rest : List Value} {Q : Value → Shared → Prop}
    (hC : h.get? C = some (excClassObj nm q C N bs bm hdct sn sub ab col dd k0 k1 k2 k3 k5 newId)) (hn : h.Ns N mN) (hni : mN "__init__" = none)
    (hq : ∀ h' e, Heap.MadeExcOf h h' e (.ref C) rest → h.objs.size ≤ e → Q (.ref e) ⟨h', g, d, t, os⟩) (hrest : rest.length ≤ sizeLine := by size_fits) :
    wpAny (model prog w) A (call (.ref C) rest) Q E ⟨h, g, d, t, os⟩ := by
  have f1 := tc_lookup
  have f2 := tc_bind (.ref C)
  have hT : (⟨h, g, d, t, os⟩ : Shared).TypeIs (.ref C) "type" := ⟨_, hC, rfl⟩
  refine wpAny_call (codeAny_of_tree ?_)
  show wpAny _ _ (callAny (.ref C) _) _ _ _
  repeat (any_goals (first | assumption | with_reducible refine wpAny_loadPart_at hC ?_ | wp_step))
  refine ⟨rfl, ?_⟩
  refine codeAny_call_builtin_at (Code.quiet_builtin _ (by decide +kernel)) entry_typeCall (wpAny_check_type_call_sub hC (type_call_subT (hrest := hrest) F T hC hn hni fun h' e hm hz => ?_))
  exact hq h' e hm hz
/-- an own class over own classes over a built-in exception, with an __init__ of its own -/
theorem type_call_initT (F : ExcBaseFacts B newId initId bmB) (T : OwnTail h bmB bm) {mN : Str → Option Value} {rest : List Value} {fI : Addr} {oI : Obj} {Q : Fin → Shared → Prop}
    (hC : h.get? C = some (excClassObj nm q C N bs bm hdct sn sub ab col dd k0 k1 k2 k3 k5 newId)) (hn : h.Ns N mN) (hi : mN "__init__" = some (.ref fI))
    (hfI : h.get? fI = some oI) (hfc : oI.cls = .type "function")
    (hq : ∀ h' e, Heap.MadeExcOf h h' e (.ref C) rest → h.objs.size ≤ e →
      wpAny (model prog w) A (call (.ref fI) (.ref e :: rest)) (fun r s' => r = .none ∧ Q (.done (.ret (.ref e))) s') E ⟨h', g, d, t, os⟩) (hrest : rest.length ≤ sizeLine := by size_fits) :
    wpAny (model prog w) A (Builtin.«type.__call__» ⟨.ref C :: rest, []⟩) Q E ⟨h, g, d, t, os⟩ := by
  repeat (first | with_reducible refine wpAny_loadPart_at hC ?_ | with_reducible refine wpAny_madeBy_exc hC ?_ | wp_step)
  refine codeAny_call_builtin_code (Code.quiet_builtin _ F.quiet) (wpAny_check_new_subT F T hC ?_)
  refine codeAny_exc_new_subT F T hC ?_ hrest
  show wpAny _ _ _ _ _ _
  have hC₁ := Heap.get?_push_of_some { cls := .ref C, data := .fields #[.ref h.objs.size, .none, .none, .none, .bool false, .none] }
    (Heap.get?_push_of_some { cls := .type "tuple", data := .seq rest.toArray } hC)
  have hfI₁ := Heap.get?_push_of_some { cls := .ref C, data := .fields #[.ref h.objs.size, .none, .none, .none, .bool false, .none] }
    (Heap.get?_push_of_some { cls := .type "tuple", data := .seq rest.toArray } hfI)
  have hn₁ : ((h.push { cls := .type "tuple", data := .seq rest.toArray }).push { cls := .ref C, data := .fields #[.ref h.objs.size, .none, .none, .none, .bool false, .none] }).Ns N mN :=
    let ⟨o, es, ep, e, r⟩ := hn; ⟨o, es, ep, Heap.get?_push_of_some _ (Heap.get?_push_of_some _ e), r⟩
  have hget : ((h.push { cls := .type "tuple", data := .seq rest.toArray }).push
      { cls := .ref C, data := .fields #[.ref h.objs.size, .none, .none, .none, .bool false, .none] }).get? (h.objs.size + 1) = some
      { cls := .ref C, data := .fields #[.ref h.objs.size, .none, .none, .none, .bool false, .none] } := by heap_get
  have hcC : (Value.ref C :: bm).contains (.ref C) = true := by simp
  have T₁ := T.keeps (h' := (h.push { cls := .type "tuple", data := .seq rest.toArray }).push { cls := .ref C, data := .fields #[.ref h.objs.size, .none, .none, .none, .bool false, .none] })
    fun b o e => Heap.get?_push_of_some _ (Heap.get?_push_of_some _ e)
  unfold isInstance
  repeat (first | with_reducible refine wpAny_loadPart_at hget ?_ | (with_reducible refine wpAny_isSubtype_exc hC₁ ?_; rw [hcC]) | wp_step)
  show wpAny _ _ (typeLookup (.ref C) _) _ _ _
  refine wpAny_typeLookup_tail hC₁ hn₁ T₁ F.mroIs F.init.lookup ?_
  rw [hi]
  refine wpAny_holding (wpAny_bind ?_)
  unfold bindSpecial
  refine wpAny_bind (wpAny_typeOf (T := "function") ⟨_, hfI₁, hfc⟩ ?_)
  rw [if_pos (by decide)]
  refine wpAny_pure (wpAny_bind (wpAny_mono (hq _ (h.objs.size + 1) ⟨fun b o hb => Heap.get?_push_of_some _ (Heap.get?_push_of_some _ hb), Heap.get?_none_of_le (Nat.le_succ _), h.objs.size, hget, Heap.get?_none_of_le (Nat.le_refl _), ?_⟩ (Nat.le_succ _)) (fun r s' hr => ?_) fun _ _ x => x))
  · exact Heap.get?_push_of_some _ (Heap.get?_push_at rfl rfl)
  · obtain ⟨rfl, hQ⟩ := hr
    wp_walk
    exact hQ
theorem call_initT (F : ExcBaseFacts B newId initId bmB) (T : OwnTail h bmB bm) {mN : Str → Option Value} {rest : List Value} {fI : Addr} {oI : Obj} {Q : Value → Shared → Prop}
    (hC : h.get? C = some (excClassObj nm q C N bs bm hdct sn sub ab col dd k0 k1 k2 k3 k5 newId)) (hn : h.Ns N mN) (hi : mN "__init__" = some (.ref fI))
    (hfI : h.get? fI = some oI) (hfc : oI.cls = .type "function")
    (hq : ∀ h' e, Heap.MadeExcOf h h' e (.ref C) rest → h.objs.size ≤ e →
      wpAny (model prog w) (A.under (.builtin "type.__call__" ⟨.ref C :: rest, []⟩)) (call (.ref fI) (.ref e :: rest)) (fun r s' => r = .none ∧ Q (.ref e) s') E ⟨h', g, d, t, os⟩) (hrest : rest.length ≤ sizeLine := by size_fits) :
    wpAny (model prog w) A (call (.ref C) rest) Q E ⟨h, g, d, t, os⟩ := by
  have f1 := tc_lookup
  have f2 := tc_bind (.ref C)
  have hT : (⟨h, g, d, t, os⟩ : Shared).TypeIs (.ref C) "type" := ⟨_, hC, rfl⟩
  refine wpAny_call (codeAny_of_tree ?_)
  show wpAny _ _ (callAny (.ref C) _) _ _ _
  repeat (any_goals (first | assumption | with_reducible refine wpAny_loadPart_at hC ?_ | wp_step))
  refine ⟨rfl, ?_⟩
  refine codeAny_call_builtin_at (Code.quiet_builtin _ (by decide +kernel)) entry_typeCall (wpAny_check_type_call_sub hC (type_call_initT (hrest := hrest) F T hC hn hi hfI hfc fun h' e hm hz => ?_))
  exact hq h' e hm hz
theorem call_base_init (F : ExcBaseFacts B newId initId bmB) (T : OwnTail h bmB bm) {rest : List Value} {e t0 : Addr} {Q : Value → Shared → Prop}
    (hC : h.get? C = some (excClassObj nm q C N bs bm hdct sn sub ab col dd k0 k1 k2 k3 k5 newId))
    (he : h.get? e = some { cls := .ref C, data := .fields #[.ref t0, .none, .none, .none, .bool false, .none] })
    (hq : ∀ h' t1, (∀ b o, b ≠ e → h.get? b = some o → h'.get? b = some o) → h'.get? e = some { cls := .ref C, data := .fields #[.ref t1, .none, .none, .none, .bool false, .none] } → h.objs.size ≤ h'.objs.size → Q .none ⟨h', g, d, t, os⟩)
    (hrest : rest.length ≤ sizeLine := by size_fits) :
    wpAny (model prog w) A (call (.builtin initId) (.ref e :: rest)) Q E ⟨h, g, d, t, os⟩ := by
  refine wpAny_call (codeAny_call_builtin F.init.plain F.initEntry (wpAny_check_init_subT F T hC he rfl ?_))
  wp_walk
  refine hq _ h.objs.size (fun b o hb e => ?_) ?_ ?_
  · rw [Heap.get?_update_other _ _ (Ne.symm hb)]
    exact Heap.get?_push_of_some _ e
  · rw [Heap.get?_update_self _ (Heap.get?_push_of_some _ he) rfl]
    rfl
  · rw [Heap.size_after_update, Heap.size_push]; omega
end
end PySem

set_option maxRecDepth 100000
set_option Elab.async false
namespace PySem.W
open PySem PySem.Spec PySem.Calls PyProof.Rows
section
variable {prog : Program} {w : World} {A : Around} {E : Value → Shared → Prop} {s : Shared} {K : Frag} {x C : Addr} {ox : Obj} {od : Option Obj} {name : Str} {expr fill : Bool}
/-- what the classes of exceptions have of getattr -/
structure XGet (K : Frag) (C : Addr) : Prop where
  ga : findIn K (.ref C) "__getattribute__" = some (some (.builtin "BaseException.__getattribute__"))
  gk : findIn K (.ref C) "__getattr__" = some none
  sub : mroIn K C (.type "BaseException") = some true
theorem xget_by {tk : Tok} {Q : Value → Shared → Prop} (G : XGet K C) (X : K.In s.heap) (I : InstAt s.heap x ox C od)
    (h : wpAny (model prog w) A.in1 (Builtin.«object.__getattribute__» ⟨[.ref x, .str name tk], []⟩) (fun fin s' => match fin with | .done (.ret v) => wpAny (model prog w) A (handedOut v) Q E s' | _ => False) (fun _ _ => False) s) :
    wpAny (model prog w) A (getAttrBy (.ref x) (.str name tk) fill expr) Q E s := by
  have hb : Looks (model prog w) s.heap (hookBefore (.ref C)) none := by
    unfold hookBefore; rw [if_pos (show onTheHeap (.ref C) = true from rfl)]; exact looks_findIn X G.gk
  have sub : Looks (model prog w) s.heap (isInstance (.ref x) (.type "BaseException")) true := I.type.andThen (looks_mroIn X G.sub)
  unfold getAttrBy
  refine wpAny_holding (wpAny_bind (I.type.here (wpAny_bind ((looks_findIn X G.ga).here ?_))))
  dsimp only
  rw [show (onTheHeap (.ref C) && Value.builtin "BaseException.__getattribute__" == Value.builtin "object.__getattribute__") = false from by rw [show (Value.builtin "BaseException.__getattribute__" == Value.builtin "object.__getattribute__") = false from by decide +kernel, Bool.and_false], if_neg (by decide)]
  unfold getAttrByItsOwn
  refine wpAny_bind (hb.here (wpAny_bind (wpAny_attempt (wpAny_holding ?_))))
  unfold callGetattribute
  rw [show (expr && onTheHeap (Value.builtin "BaseException.__getattribute__")) = false from Bool.and_false _, if_neg (by decide)]
  unfold boundAndCalled
  rw [PySem.F.attr_ValueError.ga.bind]
  refine wpAny_bind (wpAny_pure ?_)
  show wpAny _ _ (call (.builtin "BaseException.__getattribute__") [.ref x, .str name tk]) _ _ _
  refine wpAny_call ?_
  refine codeAny_call_builtin PySem.F.attr_ValueError.ga.plain PySem.F.entry_bexc_ga ?_
  refine @check_slot (model prog w) _ _ s "BaseException.__getattribute__" "BaseException" "__getattribute__" (.ref x) [.str name tk] [] _ (by decide +kernel) (by decide +kernel) sub (PySem.F.args_bexc_ga (.ref x) (.str name tk)) ?_
  refine wpAny_mono h (fun fin s' z => ?_) fun _ _ z => z.elim
  rcases fin with (_ | _ | _ | _) | _ <;> first | exact z | exact z.elim
theorem xget_value {v : Value} {Q : Value → Shared → Prop} (G : XGet K C) (X : K.In s.heap) (I : InstAt s.heap x ox C od) (hf : findObj K C od name = some (.value v)) (hh : handedIn v = true) (h : Q v { s with toks := s.toks + 1 }) :
    wpAny (model prog w) A (getAttr (.ref x) name expr) Q E s := by
  unfold getAttr
  refine wpAny_bind (wpAny_mkText (xget_by (s := { s with toks := s.toks + 1 }) G X I ?_))
  obtain ⟨hh', g, d, t, os⟩ := s
  have L0 := I.type (M := model prog w)
  have L1 := looks_find (M := model prog w) X I hf
  refine wpAny_bind (wpAny_pure (wpAny_bind (wpAny_pure (wpAny_bind (L0.at (wpAny_bind (L1.at ?_)))))))
  refine wpAny_pure ?_
  show wpAny _ _ (handedOut v) _ _ _
  rw [handedOut_of hh]; exact wpAny_pure h
theorem xget_class {Q : Option Value → Shared → Prop} (G : XGet K C) (X : K.In s.heap) (I : InstAt s.heap x ox C od) (hf : findObj K C od "__class__" = some (.bind (.builtin "getset_descriptor.__get__") (.builtin "object.__class__")))
    (hm : mroIn K C (.type "object") = some true) (h : Q (some (.ref C)) { s with toks := s.toks + 1 }) :
    wpAny (model prog w) A (getAttr? (.ref x) "__class__") Q E s := by
  unfold getAttr? getAttrBy?
  refine wpAny_bind (wpAny_mkText (wpAny_bind (wpAny_attempt (xget_by (s := { s with toks := s.toks + 1 }) G X I ?_))))
  obtain ⟨hh', g, d, t, os⟩ := s
  have L0 := I.type (M := model prog w)
  have L1 := looks_find (M := model prog w) X I hf
  refine wpAny_bind (wpAny_pure (wpAny_bind (wpAny_pure (wpAny_bind (L0.at (wpAny_bind (L1.at ?_)))))))
  show wpAny _ _ (holding [_] (call (.builtin "getset_descriptor.__get__") [.builtin "object.__class__", .ref x, .ref C]) >>= ret) _ _ _
  refine wpAny_bind (wpAny_holding (wpAny_call (class_get (ox := ox) (od := od) X I hm (wpAny_pure ?_))))
  show wpAny _ _ (handedOut (.ref C)) _ _ _
  rw [handedOut_of rfl]
  exact wpAny_pure (wpAny_pure h)
theorem findObj_class (hc : (clsIn K C).isSome = true) (ha : findIn K (.ref C) "__class__" = some (some (.builtin "object.__class__"))) (hn : specialIn K (.builtin "object.__class__") "__get__" = some (some (.builtin "getset_descriptor.__get__"))) (htk : takesIn K (.builtin "object.__class__") = some true) :
    findObj K C od "__class__" = some (.bind (.builtin "getset_descriptor.__get__") (.builtin "object.__class__")) := by
  obtain ⟨cd, hc⟩ := Option.isSome_iff_exists.mp hc
  unfold findObj
  rw [hc, Option.bind_some, ha, Option.bind_some]
  simp [hn, htk]
end
end PySem.W

set_option maxRecDepth 100000
set_option Elab.async false
namespace PySem.W
open PySem PySem.Spec PySem.Calls PyProof.Rows
open Builtin Builtin.ObjectAttr
def onlyVE : List Value → Bool
  | .ref _ :: r => onlyVE r
  | l => l == [.type "ValueError", .type "Exception", .type "BaseException", .type "object"]
theorem refuse_VE (self : Value) : ∀ {l : List Value}, onlyVE l = true → refuseLoop self "__setattr__" l = pure ()
  | .ref c :: r, e => by rw [refuseLoop_ref]; exact refuse_VE self (l := r) e
  | [], e => by cases e
  | .type n :: r, e => by rw [beq_iff_eq.mp (show (Value.type n :: r == _) = true from e)]; exact PySem.F.store_ValueError.passes self
  | .none :: r, e => by cases beq_iff_eq.mp (show (Value.none :: r == _) = true from e)
  | .bool b :: r, e => by cases beq_iff_eq.mp (show (Value.bool b :: r == _) = true from e)
  | .int i t :: r, e => by cases beq_iff_eq.mp (show (Value.int i t :: r == _) = true from e)
  | .str i t :: r, e => by cases beq_iff_eq.mp (show (Value.str i t :: r == _) = true from e)
  | .float i t :: r, e => by cases beq_iff_eq.mp (show (Value.float i t :: r == _) = true from e)
  | .builtin i :: r, e => by cases beq_iff_eq.mp (show (Value.builtin i :: r == _) = true from e)
def xOver (K : Frag) (C : Addr) : Bool := (clsIn K C).any fun cd => onlyVE cd.mro && cd.hasDict
section
variable {prog : Program} {w : World} {A : Around} {E : Value → Shared → Prop} {s : Shared} {K : Frag} {x C : Addr} {ox : Obj} {name : Str} {v : Value}
theorem xset_call {tk : Tok} {R : Result → Shared → Prop} (X : K.In s.heap) (I : InstAt s.heap x ox C none) (hd : ox.dict = none) (hp : xOver K C = true) (ho : mroIn K C (.type "object") = some true) (ht : takerIn K C name = some none)
    (h : ∀ h' dx tk', s.heap.objs.size ≤ dx → h'.get? x = some { ox with dict := some dx } → h'.Ns1 dx (fun y => if y = name then some v else none) → (∀ b o, b ≠ x → s.heap.get? b = some o → h'.get? b = some o) → R (.ok (.ret .none)) { s with heap := h', toks := tk' }) :
    codeAny (model prog w) A (.call (.builtin "object.__setattr__") ⟨[.ref x, .str name tk, v], []⟩) R s := by
  have SF := PySem.F.store_object
  obtain ⟨cd, hc, hb⟩ := any_some hp
  obtain ⟨hov, hdct⟩ := Bool.and_eq_true_iff.mp hb
  have sub : Looks (model prog w) s.heap (isInstance (.ref x) (.type "object")) true := I.type.andThen (looks_mroIn X ho)
  refine codeAny_call_builtin SF.slot.plain SF.entry (@check_slot (model prog w) _ _ s "object.__setattr__" "object" "__setattr__" (.ref x) [.str name tk, v] [] _ SF.kind SF.split sub (SF.args (.ref x) (.str name tk) v) ?_)
  obtain ⟨attr, ha, hr⟩ := Option.bind_eq_some_iff.mp ht
  have hm : Looks (model prog w) s.heap (mroOf (.ref C)) cd.mro := (looks_clsIn X hc).andThen .now
  have L3 : Looks (model prog w) s.heap (storeTaker? attr) none := by
    cases attr with
    | none => cases hr; exact .now
    | some a =>
      obtain ⟨b, hb, e⟩ := Option.map_eq_some_iff.mp hr
      refine (looks_takesIn X hb).andThen ?_
      cases b
      · exact .now
      · cases e
  rw [osa_eq, refuse_eq]
  refine wpAny_bind (wpAny_bind (I.type.here (wpAny_bind (hm.here ?_))))
  rw [refuse_VE _ hov]
  refine wpAny_pure (wpAny_bind (I.type.here (wpAny_bind ((looks_findIn X ha).here (wpAny_bind (L3.here ?_))))))
  dsimp only
  obtain ⟨hx, hcl, hn, -⟩ := I
  obtain ⟨oc, odi, oda, osl⟩ := ox
  dsimp only at hcl hd
  subst hcl hd
  refine wpAny_bind (wpAny_pure (wpAny_bind (wpAny_bind (wpAny_loadPart hx (wpAny_bind ((looks_clsIn X hc).here ?_))))))
  rw [hdct]
  rw [if_neg (by decide)]
  dsimp only
  rw [if_neg (by simp [typeHasDict])]
  split
  · cases hn
  · rename_i hnc
    have hfin := h
    clear h
    obtain ⟨h, g, d, t, os⟩ := s
    dsimp only at hx hfin
    have hx₁ : (h.push { cls := .type "dict", data := .dict #[] }).get? x = some { cls := .ref C, data := oda, slots := osl } := Heap.get?_push_of_some _ hx
    have hxs : x ≠ h.objs.size := Nat.ne_of_lt (Heap.lt_size hx)
    refine wpAny_bind (wpAny_alloc' ?_)
    refine wpAny_bind (wpAny_update' hx₁ ?_)
    refine wpAny_pure ?_
    have hgd : ((h.push { cls := .type "dict", data := .dict #[] }).update x fun o => { cls := o.cls, dict := some h.objs.size, data := o.data, slots := o.slots }).get? h.objs.size
        = some { cls := .type "dict", data := .dict #[] } :=
      (Heap.get?_update_ne _ _ _ _ hxs.symm).trans (Heap.get?_push_at rfl rfl)
    have hnd : ((h.push { cls := .type "dict", data := .dict #[] }).update x fun o => { cls := o.cls, dict := some h.objs.size, data := o.data, slots := o.slots }).Ns h.objs.size (fun _ => none) :=
      ⟨_, #[], _, hgd, rfl, fun e he => absurd he (by simp), fun _ => rfl⟩
    show wpAny _ _ (storeInDict h.objs.size (.str name tk) name v) _ _ _
    unfold storeInDict newKeyGuard
    refine wpAny_bind (wpAny_pure (wpAny_bind (wpAny_nsSet1 (Heap.Ns1.of_empty hnd) fun h' hn' hs => ?_)))
    obtain ⟨oD, esD, epD, hoD, hdD, hcD⟩ := hn'.count (Within.cons name v Within.nil)
    refine wpAny_bind (wpAny_lookBehind hoD (by rw [hdD]; exact pastItsLine_dict (Nat.le_trans hcD (by rw [List.length_cons, List.length_nil, sizeLine_eq]; omega))) ?_)
    wp_walk
    have hx' : h'.get? x = some { cls := .ref C, dict := some h.objs.size, data := oda, slots := osl } := by
      refine (hs.2 x hxs).trans (Heap.get?_update_self _ hx₁ ?_)
      have hfr := (Heap.get?_some_iff.mp hx).2
      cases oda <;> first | rfl | exact hfr
    exact hfin h' h.objs.size _ (Nat.le_refl _) hx' hn' fun b o hb e => (hs.2 b (Nat.ne_of_lt (Heap.lt_size e))).trans ((Heap.get?_update_ne _ _ _ _ hb).trans (Heap.get?_push_of_some _ e))
theorem xset {Q : Unit → Shared → Prop} (X : K.In s.heap) (I : InstAt s.heap x ox C none) (hd : ox.dict = none) (hs : findIn K (.ref C) "__setattr__" = some (some (.builtin "object.__setattr__"))) (hp : xOver K C = true) (ho : mroIn K C (.type "object") = some true) (ht : takerIn K C name = some none)
    (h : ∀ h' dx tk', s.heap.objs.size ≤ dx → h'.get? x = some { ox with dict := some dx } → h'.Ns1 dx (fun y => if y = name then some v else none) → (∀ b o, b ≠ x → s.heap.get? b = some o → h'.get? b = some o) → Q () { s with heap := h', toks := tk' }) :
    wpAny (model prog w) A (setAttr (.ref x) name v) Q E s :=
  set_plain X I hs (xset_call (s := { s with toks := s.toks + 1 }) X I hd hp ho ht fun h' dx tk' a b c d => h h' dx tk' a b c d)
end
end PySem.W

set_option Elab.async false
set_option maxHeartbeats 4000000
set_option linter.all false
namespace T2
open PySem PySem.Spec PyProof.Rows L2
/-! ### exceptions of own classes over ValueError, as things -/
abbrev bmVE : List Value := [.type "ValueError", .type "Exception", .type "BaseException", .type "object"]
def excAt (K : Fg) (C : Addr) (r : Option Value) : Bool := match K.lookup C with
  | some ⟨.type "type", _, .cls cd, sl⟩ => (match cd.mro, sl.toList with
    | .ref C' :: bm, [_, _, _, _, some (.builtin n), _] => C' == C && n == "ValueError.__new__" && !cd.hasDel && PySem.W.tailIn K bmVE bm && PySem.W.nsOkIn K cd.ns && PySem.W.nsIn K cd.ns "__init__" == some r
    | _, _ => false)
  | _ => false
theorem ns_is {K : Fg} {h : Heap} {N : Addr} {mg : Str → Option Value} {n : Str} {r : Option Value} (X : K.In h) (G : h.Ns N mg) (e : PySem.W.nsIn K N n = some r) : mg n = r := by
  obtain ⟨o, es, ep, ho, hd, _, hf⟩ := G
  unfold PySem.W.nsIn at e
  split at e
  · rename_i c d es' n' sl q
    have := X _ _ q
    rw [ho] at this
    cases this
    cases hd
    rw [← hf]
    unfold nsFind findBy
    rw [← Array.find?_toList]
    split at e
    · rename_i y he; cases e; rw [he]; rfl
    · rename_i he
      split at e
      · cases e
      · cases e; rw [he]; rfl
  · cases e
theorem excAt_get {K : Fg} {h : Heap} {C : Addr} {r : Option Value} (X : K.In h) (q : excAt K C r = true) :
    ∃ bm N nm qn bs hdct sn sub ab col dd k0 k1 k2 k3 k5 mN, h.get? C = some (excClassObj nm qn C N bs bm hdct sn sub ab col dd k0 k1 k2 k3 k5 "ValueError.__new__") ∧ h.Ns N mN ∧ mN "__init__" = r ∧ OwnTail h bmVE bm := by
  unfold excAt at q
  split at q
  · rename_i dd cd sl ho
    split at q
    · rename_i C' bm k0 k1 k2 k3 n k5 hm hs
      simp only [Bool.and_eq_true, beq_iff_eq, Bool.not_eq_true'] at q
      obtain ⟨⟨⟨⟨⟨rfl, rfl⟩, hdel⟩, ht⟩, hok⟩, hni⟩ := q
      obtain ⟨nm, bs, mro, ns, qn, hd, sn, sub, ab, col, del⟩ := cd
      dsimp only at hm hdel hok hni
      subst hm hdel
      have hsl : sl = #[k0, k1, k2, k3, some (.builtin "ValueError.__new__"), k5] := by
        obtain ⟨l⟩ := sl
        simp only at hs
        rw [hs]
      subst hsl
      have N := Heap.Ns.of_isNs (PySem.W.isNs_of_in X hok)
      exact ⟨bm, ns, nm, qn, bs, hd, sn, sub, ab, col, dd, k0, k1, k2, k3, k5, _, X _ _ ho, N, ns_is X N hni, PySem.W.tail_of_in X ht⟩
    · cases q
  · cases q
/-- what else is asked of a class of exceptions -/
def xcIn (K : Fg) (C : Addr) : Bool := PySem.W.keepIn K (.ref C) && PySem.W.findIn K (.ref C) "__getattribute__" == some (some (.builtin "BaseException.__getattribute__")) && PySem.W.findIn K (.ref C) "__getattr__" == some none && PySem.W.mroIn K C (.type "BaseException") == some true &&
  (PySem.W.clsIn K C).isSome && PySem.W.findIn K (.ref C) "__class__" == some (some (.builtin "object.__class__")) && PySem.W.specialIn K (.builtin "object.__class__") "__get__" == some (some (.builtin "getset_descriptor.__get__")) && PySem.W.takesIn K (.builtin "object.__class__") == some true &&
  PySem.W.mroIn K C (.type "object") == some true && PySem.W.findIn K (.ref C) "__setattr__" == some (some (.builtin "object.__setattr__")) && PySem.W.xOver K C
structure XC (K : Fg) (C : Addr) : Prop where
  kp : PySem.W.keepIn K (.ref C) = true
  get : PySem.W.XGet K C
  cl : (PySem.W.clsIn K C).isSome = true
  ca : PySem.W.findIn K (.ref C) "__class__" = some (some (.builtin "object.__class__"))
  cn : PySem.W.specialIn K (.builtin "object.__class__") "__get__" = some (some (.builtin "getset_descriptor.__get__"))
  ct : PySem.W.takesIn K (.builtin "object.__class__") = some true
  ob : PySem.W.mroIn K C (.type "object") = some true
  sa : PySem.W.findIn K (.ref C) "__setattr__" = some (some (.builtin "object.__setattr__"))
  ov : PySem.W.xOver K C = true
theorem XC.of {K : Fg} {C : Addr} (h : xcIn K C = true) : XC K C := by
  simp only [xcIn, Bool.and_eq_true, beq_iff_eq] at h
  obtain ⟨⟨⟨⟨⟨⟨⟨⟨⟨⟨a, b⟩, c⟩, d⟩, e⟩, f⟩, g⟩, i⟩, j⟩, k⟩, l⟩ := h
  exact ⟨a, ⟨b, c, d⟩, e, f, g, i, j, k, l⟩
theorem XC.dct {K : Fg} {C : Addr} (x : XC K C) : PySem.W.hasDictIn K C = true := by
  obtain ⟨cd, hc, hb⟩ := PySem.W.any_some x.ov
  unfold PySem.W.hasDictIn
  rw [hc]
  exact (Bool.and_eq_true_iff.mp hb).2
section
variable {P : Program} {w : World} {H : Hp} {h : Heap} {C e t0 : Addr} {dx : Option Addr}
theorem xH_ok (q : h.get? e = some (xObj C t0 dx)) : ObjOk P w H h e (xH C e dx) := ⟨⟨t0, q⟩, ⟨_, q⟩, fun _ _ ⟨t, z⟩ k => ⟨t, k _ z⟩⟩
theorem xH_get (ok : HOk P w H h) (q : H e = some (xH C e dx)) : ∃ t0, h.get? e = some (xObj C t0 dx) := (show ObjOk P w H h e (xH C e dx) from ok e _ q).1
end
section
variable {X : Cx} {pins : List (Addr × Obj)} {σ : L2.St} {H : Hp} {s : Shared} {C e : Addr} {us : List Value} {vs : List V} {Q : VK} {A : Around} {E : Value → Shared → Prop}
theorem run_exc (hx : excAt X.K C none = true) (I : Inv X pins σ H s) (hl : us.length ≤ sizeLine) (h : ∀ e, H e = none → Q (.ref e) (upd H e (xH C e none))) :
    wpAny (model X.prog X.w) X.A (call (.ref C) us) (EP X pins σ Q) X.xe s := by
  obtain ⟨bm, N, nm, q, bs, hd, sn, sub, ab, col, dd, k0, k1, k2, k3, k5, mN, hC, hN, hi, T⟩ := excAt_get I.kIn hx
  obtain ⟨hp, g, d, t, os⟩ := s
  refine call_subT PySem.F.excBase_ValueError T hC hN hi (fun h' e m hz => ?_) hl
  obtain ⟨t0, h1, _, _⟩ := m.there
  exact ⟨.ref e, _, I.laid (t' := t) m.keeps hz (xH_ok h1), rfl, h e (I.hok.fresh hz)⟩
theorem run_excI {CX : CXT} {k : Nat} {f : Addr} {fd : FuncData} {ps : List Str} {sp : Sp} {ds : List Value} {dvs : List V} {EX : XK} (hx : excAt X.K C (some (.ref f)) = true) (hfn : PySem.W.isFn X.K (.ref f) = true) (F : FnOk X.prog X.w X.K X.mg X.base CX k f fd ps sp) (hr : Room (k + 1) X.A) (hb : Binds X.K fd ps ds) (hd : Vals dvs ds)
    (hp : Passes CX X EX) (I : Inv X pins σ H s) (r : Vals vs us) (hl : us.length ≤ sizeLine)
    (h : ∀ e, H e = none → sp (.ref e :: (vs ++ dvs)) (upd H e (xH C e none)) (fun v H2 => v = .non ∧ Q (.ref e) H2) EX) :
    wpAny (model X.prog X.w) X.A (call (.ref C) us) (EP X pins σ Q) X.xe s := by
  obtain ⟨bm, N, nm, q, bs, hdc, sn, sub, ab, col, dd, k0, k1, k2, k3, k5, mN, hC, hN, hi, T⟩ := excAt_get I.kIn hx
  obtain ⟨oI, hfI, hfc⟩ : ∃ oI, s.heap.get? f = some oI ∧ oI.cls = .type "function" := by
    have e := beq_iff_eq.mp hfn
    obtain ⟨o, eo, ec⟩ := Option.map_eq_some_iff.mp (show (X.K.lookup f).map (·.cls) = some (.type "function") from e)
    exact ⟨o, I.kIn _ _ eo, ec⟩
  obtain ⟨hp', g, d, t, os⟩ := s
  refine call_initT PySem.F.excBase_ValueError T hC hN hi hfI hfc (fun h' e m hz => ?_) hl
  obtain ⟨t0, h1, _, _⟩ := m.there
  have I2 : Inv X pins σ (upd H e (xH C e none)) ⟨h', g, d, t, os⟩ := I.laid (t' := t) m.keeps hz (xH_ok h1)
  have hq := h e (I.hok.fresh hz)
  have r2 : Vals (V.ref e :: (vs ++ dvs)) (Value.ref e :: (us ++ ds)) := .cons rfl (r.append hd)
  have hl2 : (Value.ref e :: us ++ ds).length = ps.length := by
    have z := r2.length
    rw [F.len _ _ _ _ hq] at z
    exact z.symm
  refine wpAny_call (codeAny_mono (F.run _ X.stack _ _ ⟨Value.ref e :: us, []⟩ (Value.ref e :: (us ++ ds)) _ _ EX (hr.make C us []) (I2.env0.make C us []) (hb _ (Value.ref e :: us) I2.kIn hl2) r2 hq) fun r s' hq' => ?_)
  cases r with
  | error z => exact hp pins σ _ _ z s' I2 hq'
  | ok fl =>
    cases fl with
    | ret u =>
      obtain ⟨v, H', I3, rv, ev, q3⟩ := I2.after hq'
      subst ev
      exact ⟨rv, ⟨V.ref e, H', I3, rfl, q3⟩⟩
    | next => exact False.elim hq'
    | brk => exact False.elim hq'
    | cont => exact False.elim hq'
/-- an exception changes, a new object behind it is tracked -/
theorem Inv_two {a dx : Addr} {φ : Heap → Prop} {oa od : HO} {h' : Heap} {t' : Nat} (I : Inv X pins σ H s) (ea : H a = some (.ext φ)) (hz : s.heap.objs.size ≤ dx) (k : ∀ b o, b ≠ a → s.heap.get? b = some o → h'.get? b = some o) (ha : ∃ o, h'.get? a = some o)
    (na : ObjOk X.prog X.w (upd (upd H dx od) a oa) h' a oa) (nd : ObjOk X.prog X.w (upd (upd H dx od) a oa) h' dx od) : Inv X pins σ (upd (upd H dx od) a oa) { s with heap := h', toks := t' } := by
  have hd : H dx = none := I.hok.fresh hz
  have lt : ∀ b o, s.heap.get? b = some o → b ≠ dx := fun b o e z => by
    subst z
    exact absurd (Heap.lt_size e) (Nat.not_lt.mpr hz)
  have ot : ∀ b u, H b = some u → (∀ ψ, u ≠ .ext ψ) → (upd (upd H dx od) a oa) b = some u := fun b u e n => by
    rw [upd_ne (ne_of e ea (n _)), upd_ne (ne_of_none e hd)]; exact e
  refine I.un ⟨fun b o e n _ _ => k b o (fun z => by rw [z, ea] at n; cases n) e, fun b o e n _ _ => ⟨o.slots, k b o (fun z => by rw [z, ea] at n; cases n) e⟩,
    fun b o e n _ => by rw [upd_ne (fun z => by rw [z, ea] at n; cases n), upd_ne (lt b o e)]; exact n,
    fun b o e _ => by
      by_cases z : b = a
      · rw [z]; exact ha
      · exact ⟨o, k b o z e⟩,
    fun b xs e => ot b _ e (fun _ z => by cases z), fun b o u e => ot b _ e (fun _ z => by cases z), fun b ps e => ⟨#[], by rw [Array.append_empty]; exact ot b _ e (fun _ z => by cases z)⟩⟩ fun b u e => ?_
  by_cases hb : b = a
  · subst hb; rw [upd_same] at e; cases e; exact na
  · rw [upd_ne hb] at e
    by_cases hb2 : b = dx
    · subst hb2; rw [upd_same] at e; cases e; exact nd
    · rw [upd_ne hb2] at e
      refine (I.hok b u e).stay (fun c v hc r => k c v ?_ r) (fun c r => ot c _ r (fun _ z => by cases z)) fun c xs r => ot c _ r (fun _ z => by cases z)
      rcases hc with rfl | hc
      · exact hb
      · rintro rfl; rw [ea] at hc; cases hc
end
/-! readings -/
section
variable {K : Fg} {X : Cx} {C : Addr} {x : Str} {p pos apos pos' : Pos} {e o value : Expr} {es : List Expr} {t : TA} {wr : WA} {ta tv : TE} {wa wv : WE} {f : Str}
def tExc (C : Addr) (t : TA) : TE := fun σ H Q => t σ H fun vs H1 => vs.length ≤ 2 ∧ ∀ e, H1 e = none → Q (.ref e) (upd H1 e (xH C e none))
theorem pe_exc (hx : excAt X.K C none = true) (hk : PySem.W.keepIn X.K (.ref C) = true) (hg : Gl X x) (hm : X.mg x = some (.ref C)) (ha : PA X (e :: es) t) (hdb : (x == ("__debug__" : Str)) = false := by decide)
    (he : starEach (e :: es) X.env = (false, eval e X.env) :: starEach es X.env := by rfl) (hpl : (backTo pos (starEach es X.env)).any (·.1) = false := by rfl) : PE X (.Call (.Name x p) (e :: es) [] pos) (tExc C t) := by
  intro pins s σ H Q I h
  refine wpAny_Call_Name_kw (ld_glob I hg hm ?_ hdb)
  refine PySem.W.callWith_K (h₀ := X.base) I.ok.mod.kin hk (thn (ha pos pins s σ H _ I h) fun us s1 ⟨vs, H1, I1, r, hl, q⟩ => ⟨I1.kIn, ?_⟩) he hpl
  exact run_exc hx I1 (by have := r.length; rw [sizeLine_eq, List.nil_append]; omega) q
def wExc (C : Addr) (wr : WA) : WE := fun σ S Q => wr σ S fun ts S1 => ts.length ≤ 2 ∧ ∀ e, S1 e = none → Q (.ref e) (put S1 e (.exc C []))
theorem Q_exc (hx : excAt X.K C none = true) (hk : PySem.W.keepIn X.K (.ref C) = true) (hg : Gl X x) (hm : X.mg x = some (.ref C)) (ha : QA K X (e :: es) wr) (hdb : (x == ("__debug__" : Str)) = false := by decide)
    (he : starEach (e :: es) X.env = (false, eval e X.env) :: starEach es X.env := by rfl) (hpl : (backTo pos (starEach es X.env)).any (·.1) = false := by rfl) : QE K X (.Call (.Name x p) (e :: es) [] pos) (wExc C wr) :=
  PE.of (pe_exc hx hk hg hm ha hdb he hpl) fun σ H Q ⟨S, σt, Qt, s, c, q, hq⟩ => by
    refine ⟨S, σt, _, s, c, q, fun vs H1 ts S1 f1 s1 r1 ⟨hl, q1⟩ => ⟨by rw [r1.length]; exact hl, fun e he => ?_⟩⟩
    exact hq _ _ _ _ (f1.trans (Fr.newT he)) (s1.newT he (.exc0 upd_same)) .ref (q1 e (s1.fresh he))
def tExcI (C : Addr) (sp : Sp) (t : TA) : TE := fun σ H Q => t σ H fun vs H1 => vs.length ≤ 2 ∧ ∀ e, H1 e = none → sp (.ref e :: (vs ++ [])) (upd H1 e (xH C e none)) (fun v H2 => v = .non ∧ Q (.ref e) H2) E0
theorem pe_excI {k : Nat} {f : Addr} {fd : FuncData} {ps : List Str} {sp : Sp} (hx : excAt X.K C (some (.ref f)) = true) (hk : PySem.W.keepIn X.K (.ref C) = true) (hfn : PySem.W.isFn X.K (.ref f) = true) (F : FnOk X.prog X.w X.K X.mg X.base CX0 k f fd ps sp) (hr : Room (k + 1) X.A) (hb : Binds X.K fd ps [])
    (hg : Gl X x) (hm : X.mg x = some (.ref C)) (ha : PA X (e :: es) t) (hdb : (x == ("__debug__" : Str)) = false := by decide)
    (he : starEach (e :: es) X.env = (false, eval e X.env) :: starEach es X.env := by rfl) (hpl : (backTo pos (starEach es X.env)).any (·.1) = false := by rfl) : PE X (.Call (.Name x p) (e :: es) [] pos) (tExcI C sp t) := by
  intro pins s σ H Q I h
  refine wpAny_Call_Name_kw (ld_glob I hg hm ?_ hdb)
  refine PySem.W.callWith_K (h₀ := X.base) I.ok.mod.kin hk (thn (ha pos pins s σ H _ I h) fun us s1 ⟨vs, H1, I1, r, hl, q⟩ => ⟨I1.kIn, ?_⟩) he hpl
  exact run_excI (dvs := []) (ds := []) hx hfn F hr hb .nil pass0 I1 r (by have := r.length; rw [sizeLine_eq, List.nil_append]; omega) q
def wExcI (C : Addr) (wsp : WSp) (wr : WA) : WE := fun σ S Q => wr σ S fun ts S1 => ts.length ≤ 2 ∧ ∀ e, S1 e = none → wsp (.ref e :: ts) (put S1 e (.exc C [])) (fun t S2 => t = .non ∧ Q (.ref e) S2)
theorem Q_excI {k : Nat} {f : Addr} {fd : FuncData} {ps : List Str} {wsp : WSp} (hx : excAt X.K C (some (.ref f)) = true) (hk : PySem.W.keepIn X.K (.ref C) = true) (hfn : PySem.W.isFn X.K (.ref f) = true) (F : FnOk X.prog X.w X.K X.mg X.base CX0 k f fd ps (lSp K wsp)) (hr : Room (k + 1) X.A) (hb : Binds X.K fd ps [])
    (hg : Gl X x) (hm : X.mg x = some (.ref C)) (ha : QA K X (e :: es) wr) (hdb : (x == ("__debug__" : Str)) = false := by decide)
    (he : starEach (e :: es) X.env = (false, eval e X.env) :: starEach es X.env := by rfl) (hpl : (backTo pos (starEach es X.env)).any (·.1) = false := by rfl) : QE K X (.Call (.Name x p) (e :: es) [] pos) (wExcI C wsp wr) :=
  PE.of (pe_excI hx hk hfn F hr hb hg hm ha hdb he hpl) fun σ H Q ⟨S, σt, Qt, s, c, q, hq⟩ => by
    refine ⟨S, σt, _, s, c, q, fun vs H1 ts S1 f1 s1 r1 ⟨hl, q1⟩ => ⟨by rw [r1.length]; exact hl, fun e he => ?_⟩⟩
    refine ⟨_, _, _, s1.newT he (.exc0 upd_same), .cons .ref (by rw [List.append_nil]; exact r1.fr (Fr.newT he)), q1 e (s1.fresh he), fun v H' t S' f s' r' q' => ?_⟩
    obtain ⟨rfl, q'⟩ := q'
    cases r'
    exact ⟨rfl, hq _ H' _ S' ((f1.trans (Fr.newT he)).trans f) s' .ref q'⟩
/-- B.__init__(self, ..), B an own class over ValueError, self an exception that has no attributes yet -/
def tXInit (K : Fg) (t : TA) : TE := fun σ H Q => t σ H fun vs H1 => ∃ e C v r, vs = [.ref e, v] ∧ H1 e = some (xH C e none) ∧ excAt K C r = true ∧ Q .non (upd H1 e (xH C e none))
theorem pe_xinit {B : Addr} {pl : Sem Bool} (hg : Gl X x) (hm : X.mg x = some (.ref B)) (hsp : PySem.W.specialIn X.K (.ref B) "__getattribute__" = some (some (.builtin "type.__getattribute__"))) (hrd : PySem.W.readsIn X.K B (.type "type") = true)
    (hfc : PySem.W.findCls X.K (.ref B) (.type "type") "__init__" = some (.val (.builtin "ValueError.__init__"))) (ha : PA X (e :: es) t) (hdb : (x == ("__debug__" : Str)) = false := by decide)
    (hst : starEach (e :: es) X.env = (false, eval e X.env) :: starEach es X.env := by rfl) (hpl : (backTo pos (starEach es X.env)).any (·.1) = false := by rfl)
    (ht : eval (.Call (.Attribute (.Name x p) "__init__" apos) (e :: es) [] pos) X.env = (do
      let ov ← eval (.Name x p) X.env
      standAt apos.atName
      let (f, first) ← holding [ov] (getMethod ov "__init__" pl)
      callWith pos f first (backTo pos (starEach (e :: es) X.env)) (backToKw pos (keywordEach [] X.env))) := by rfl) :
    PE X (.Call (.Attribute (.Name x p) "__init__" apos) (e :: es) [] pos) (tXInit X.K t) := by
  intro pins s σ H Q I h
  refine PySem.W.methodCall_KW (pl := pl) (ld_glob I hg hm ?_ hdb) ht
  refine PySem.W.method_cls I.kIn hsp (PySem.W.cls_value I.kIn hrd hfc rfl ?_)
  have I0 := I.tok (s.toks + 1)
  refine PyProof.Rows.callWith_builtin1 (thn (ha pos pins _ σ H _ I0 h) fun us s1 ⟨vs, H1, I1, r1, en, C, v, r, ev, eh, hx, q1⟩ => ?_) hst hpl
  subst ev
  obtain ⟨u1, u2, rfl, rr1, rr2⟩ := vals2 r1
  obtain rfl : u1 = Value.ref en := rr1
  obtain ⟨bm, N, nm, q, bs, hd, sn, sub, ab, col, dd, k0, k1, k2, k3, k5, mN, hC, hN, hi, T⟩ := excAt_get I1.kIn hx
  obtain ⟨t0, g0⟩ := xH_get I1.hok eh
  obtain ⟨hp, g, d, tt, os⟩ := s1
  refine call_base_init (rest := [u2]) PySem.F.excBase_ValueError T hC g0 (fun h' t1 kp ge _ => ?_) (by rw [sizeLine_eq, List.length_cons, List.length_nil]; omega)
  exact ⟨.non, _, I1.write (x := en) (e := en) (t' := tt) (by rw [eh]; exact True.intro) (.inl rfl) (fun b u hb z => kp b u hb z) ⟨_, ge⟩ (xH_ok ge), rfl, q1⟩
def wXInit (K : Fg) (wr : WA) : WE := fun σ S Q => wr σ S fun ts S1 => ∃ e C t r, ts = [.ref e, t] ∧ S1 e = some (.exc C []) ∧ excAt K C r = true ∧ Q .non S1
theorem put_back' {S : Sto} {a : Addr} {o : O} (h : S a = some o) : put S a o = S := by
  funext b; unfold put
  by_cases q : b = a
  · rw [if_pos q, q, h]
  · rw [if_neg q]
theorem Q_xinit {B : Addr} {pl : Sem Bool} (hK : X.K = K) (hg : Gl X x) (hm : X.mg x = some (.ref B)) (hsp : PySem.W.specialIn X.K (.ref B) "__getattribute__" = some (some (.builtin "type.__getattribute__"))) (hrd : PySem.W.readsIn X.K B (.type "type") = true)
    (hfc : PySem.W.findCls X.K (.ref B) (.type "type") "__init__" = some (.val (.builtin "ValueError.__init__"))) (ha : QA K X (e :: es) wr) (hdb : (x == ("__debug__" : Str)) = false := by decide)
    (hst : starEach (e :: es) X.env = (false, eval e X.env) :: starEach es X.env := by rfl) (hpl : (backTo pos (starEach es X.env)).any (·.1) = false := by rfl)
    (ht : eval (.Call (.Attribute (.Name x p) "__init__" apos) (e :: es) [] pos) X.env = (do
      let ov ← eval (.Name x p) X.env
      standAt apos.atName
      let (f, first) ← holding [ov] (getMethod ov "__init__" pl)
      callWith pos f first (backTo pos (starEach (e :: es) X.env)) (backToKw pos (keywordEach [] X.env))) := by rfl) :
    QE K X (.Call (.Attribute (.Name x p) "__init__" apos) (e :: es) [] pos) (wXInit K wr) := by
  subst hK
  refine PE.of (pe_xinit (pl := pl) hg hm hsp hrd hfc ha hdb hst hpl ht) fun σ H Q ⟨S, σt, Qt, s, c, q, hq⟩ => ?_
  refine ⟨S, σt, _, s, c, q, fun vs H1 ts S1 f1 s1 r1 q1 => ?_⟩
  obtain ⟨en, C, t, r, rfl, es1, hx, q1⟩ := q1
  cases r1 with
  | cons a l =>
    cases a
    cases l with
    | cons a2 l2 =>
      cases l2
      cases s1 en _ es1 with
      | exc ne => exact absurd rfl ne
      | exc0 eh =>
        have hn : S1 en ≠ none := by rw [es1]; simp
        have z := hq .non (upd H1 en (xH C en none)) .non (put S1 en (.exc C [])) (f1.trans (Fr.write hn)) (s1.write hn (.exc0 upd_same)) .non (by rw [put_back' es1]; exact q1)
        exact ⟨en, C, _, r, rfl, eh, hx, z⟩
/-- e.f = value, the first attribute of an exception -/
def sXFld (K : Fg) (ta tv : TE) (f : Str) : TS := fun D σ H => tv σ H fun y H1 => ta σ H1 fun x H2 => ∃ a C, x = .ref a ∧ H2 a = some (xH C a none) ∧ XC K C ∧ NoAttr K C f ∧ ∀ dx, H2 dx = none → dx ≠ a → D.nx σ (upd (upd H2 dx (.xd [(f, y)])) a (xH C a (some dx)))
theorem ps_xfld (ha : PE X o ta) (hv : PE X value tv) (hs : swapsWith value (some (.Attribute o f pos')) pos.line X.env = pure false := by rfl) : PS X (.Assign [.Attribute o f pos'] value pos) (sXFld X.K ta tv f) := by
  intro pins s σ H D I h
  refine plainObj_wpAny_Assign_Attribute (thn (hv pins s σ H _ I h) fun u s1 ⟨y, H1, I1, ry, q⟩ => thn (ha pins s1 σ H1 _ I1 q) fun ov s2 ⟨x, H2, I2, rx, a, C, ex, ea, c, n, q2⟩ => ?_) hs
  subst ex
  obtain rfl : ov = Value.ref a := rx
  obtain ⟨t0, g0⟩ := xH_get I2.hok ea
  have J : PySem.W.InstAt s2.heap a (xObj C t0 none) C none := ⟨g0, rfl, rfl, True.intro⟩
  refine PySem.W.xset I2.kIn J rfl c.sa c.ov c.ob n.taker fun h' dx tk' hz gx hns kp => ?_
  have hd : H2 dx = none := I2.hok.fresh hz
  have ne : dx ≠ a := fun z => by rw [z, ea] at hd; cases hd
  refine ⟨σ, _, Inv_two (t' := tk') (od := .xd [(f, y)]) I2 ea hz kp ⟨_, gx⟩ (xH_ok (t0 := t0) gx) ⟨_, hns, fun g => ?_⟩, q2 dx hd ne⟩
  show RelO ([(f, y)].lookup g) (if g = f then some u else none)
  by_cases z : g = f
  · rw [if_pos z, z, List.lookup_cons, beq_self_eq_true]; exact ry
  · rw [if_neg z, List.lookup_cons, show (g == f) = false from beq_eq_false_iff_ne.mpr z]; exact True.intro
def wXSet (G : Addr → Prop) (wa wv : WE) (f : Str) : WS := fun D σ S => wv σ S fun y S1 => wa σ S1 fun x S2 => ∃ a C, x = .ref a ∧ S2 a = some (.exc C []) ∧ G C ∧ D.nx σ (put S2 a (.exc C [(f, y)]))
theorem q_xset {G : Addr → Prop} (hK : X.K = K) (hG : ∀ C, G C → XC K C ∧ NoAttr K C f) (ha : QE K X o wa) (hv : QE K X value wv) (hs : swapsWith value (some (.Attribute o f pos')) pos.line X.env = pure false := by rfl) :
    QS K X (.Assign [.Attribute o f pos'] value pos) (wXSet G wa wv f) := by
  subst hK
  refine PS.of (ps_xfld ha hv hs) fun D σ H ⟨S, σt, Dt, s, c, q, he⟩ => ?_
  refine ⟨S, σt, _, s, c, q, fun y H1 ty S1 f1 s1 r1 q1 => ?_⟩
  refine ⟨S1, σt, _, s1, c.fr f1, q1, fun x H2 tx S2 f2 s2 r2 q2 => ?_⟩
  obtain ⟨a, C, rfl, ea, g, q2⟩ := q2
  cases r2
  cases s2 a _ ea with
  | exc ne => exact absurd rfl ne
  | exc0 eh =>
    refine ⟨a, C, rfl, eh, (hG C g).1, (hG C g).2, fun dx hd ne => ?_⟩
    have sd : S2 dx = none := s2.fresh hd
    have fw : Fr H2 S2 (upd (upd H2 dx (.xd [(f, y)])) a (xH C a (some dx))) (put S2 a (.exc C [(f, ty)])) := fun b u e n => by
      have hb : b ≠ a := fun z => by rw [z, ea] at n; cases n
      exact ⟨by rw [upd_ne hb, upd_ne (ne_of_none e hd)]; exact e, by rw [put_ne hb]; exact n⟩
    have sw : SRp X.K (upd (upd H2 dx (.xd [(f, y)])) a (xH C a (some dx))) (put S2 a (.exc C [(f, ty)])) := fun b u e => by
      by_cases hb : b = a
      · subst hb
        rw [put_same] at e; cases e
        exact .exc (by simp) upd_same (by rw [put_ne ne]; exact sd) (by rw [upd_ne ne]; exact upd_same) (.cons ⟨rfl, (r1.fr f2).fr fw⟩ .nil)
      · rw [put_ne hb] at e
        obtain ⟨v, hv⟩ := (s2 b u e).some
        exact (s2 b u e).fr fw (by rw [upd_ne hb, upd_ne (ne_of_none hv hd)])
    exact he.nx _ _ σt _ ((f1.trans f2).trans fw) sw (c.fr ((f1.trans f2).trans fw)) q2
/-- e.f of an exception -/
def tXGet (K : Fg) (ta : TE) (f : Str) : TE := fun σ H Q => ta σ H fun x H1 => ∃ a C dx fs v, x = .ref a ∧ H1 a = some (xH C a (some dx)) ∧ H1 dx = some (.xd fs) ∧ XC K C ∧ NoAttr K C f ∧ fs.lookup f = some v ∧ Q v H1
theorem pe_xget (he : PE X o ta) (hb : attributeBase o f X.env (eval o X.env) = eval o X.env := by rfl) : PE X (.Attribute o f pos) (tXGet X.K ta f) := by
  intro pins s σ H Q I h
  refine attr_of hb (thn (he pins s σ H _ I h) fun u s1 ⟨x, H1, I1, rx, a, C, dx, fs, v, ex, ea, ed, c, n, l, q⟩ => ?_)
  subst ex
  obtain rfl : u = Value.ref a := rx
  obtain ⟨t0, g0⟩ := xH_get I1.hok ea
  obtain ⟨mA, hns, r⟩ := (show ObjOk X.prog X.w H1 s1.heap dx (.xd fs) from I1.hok dx _ ed)
  obtain ⟨od, gd, hl⟩ := lookIn_ns hns
  obtain ⟨u, hu, ru⟩ := RelO.some_of (v := v) (o := mA f) (by rw [← l]; exact r f)
  exact PySem.W.xget_value c.get I1.kIn (od := some od) ⟨g0, rfl, rfl, gd⟩ (PySem.W.findObj_own c.dct n rfl (by rw [hl, hu])) (handed_of ru) ⟨v, H1, I1.tok _, ru, q⟩
def wXGet (G : Addr → Prop) (wa : WE) (f : Str) : WE := fun σ S Q => wa σ S fun x S1 => ∃ a C fs v, x = .ref a ∧ S1 a = some (.exc C fs) ∧ G C ∧ fs.lookup f = some v ∧ Q v S1
theorem Q_xget {G : Addr → Prop} (hK : X.K = K) (hG : ∀ C, G C → XC K C ∧ NoAttr K C f) (he : QE K X o wa) (hb : attributeBase o f X.env (eval o X.env) = eval o X.env := by rfl) : QE K X (.Attribute o f pos) (wXGet G wa f) := by
  subst hK
  refine PE.of (pe_xget he hb) fun σ H Q ⟨S, σt, Qt, s, c, q, hq⟩ => ?_
  refine ⟨S, σt, _, s, c, q, fun x H1 tx S1 f1 s1 r1 q1 => ?_⟩
  obtain ⟨a, C, fs, v, rfl, ea, g, l, q1⟩ := q1
  cases r1
  cases s1 a _ ea with
  | exc0 eh => cases l
  | exc ne eh n ed pr =>
    obtain ⟨u, lu, ru⟩ := look_some pr l
    exact ⟨a, C, _, _, u, rfl, eh, ed, (hG C g).1, (hG C g).2, lu, hq u H1 v S1 f1 s1 ru q1⟩
/-- isinstance(e, c) of an exception -/
theorem kitx_exc {x D : Addr} {ox : Obj} {od : Option Obj} (c : XC K D) : PySem.W.KitX K (.ref x) (.ref D) (fun h => PySem.W.InstAt h x ox D od) where
  ty := fun _ _ _ I => I.type
  it := fun _ _ X _ => by
    obtain ⟨cdD, hcD⟩ := Option.isSome_iff_exists.mp c.cl
    unfold PySem.W.clsIn at hcD
    split at hcD
    · rename_i c' d' cd' sl' ho
      intro A' Q' E' s' k q
      unfold isType loadHead
      exact wpAny_bind (wpAny_loadPart (k _ _ (X _ _ ho)) (wpAny_pure q))
    · cases hcD
  ne := fun h tp dd its n sl X htp => by
    obtain ⟨cdD, hcD⟩ := Option.isSome_iff_exists.mp c.cl
    refine Bool.eq_false_iff.mpr fun q => ?_
    have e : D = tp := Value.ref.inj (beq_iff_eq.mp q)
    subst e
    unfold PySem.W.clsIn at hcD
    split at hcD
    · rename_i c' d' cd' sl' ho
      have z := (X _ _ ho).symm.trans htp
      cases z
    · cases hcD
  ca := fun X I k => PySem.W.xget_class c.get X I (PySem.W.findObj_class c.cl c.ca c.cn c.ct) c.ob k
def clsT : T → Option Value
  | .ty n => some (.type n)
  | .ref C => some (.ref C)
  | _ => none
def gIsx (K : Fg) (G : Addr → Prop) : GC := fun ts S Q => ∃ a C fs y c b, ts = [.ref a, y] ∧ S a = some (.exc C fs) ∧ G C ∧ clsT y = some c ∧ PySem.W.kitOne K (.ref C) c = some b ∧ Q (.bl b) S
theorem c_isx {G : Addr → Prop} (hK : X.K = K) (hG : ∀ C, G C → XC K C) : CallR X (.builtin "isinstance") (lC K (gIsx K G)) := by
  subst hK
  intro pins s σ H xs us Q I r ⟨S, ts, Qt, sr, rs, hg, bh⟩
  obtain ⟨a, C, fs, y, cv, b, rfl, ea, g, ey, ek, q⟩ := hg
  cases rs with
  | cons r1 l =>
    cases l with
    | cons r2 l2 =>
      cases l2
      cases r1
      obtain ⟨u1, u2, rfl, rr1, rr2⟩ := vals2 r
      obtain rfl : u1 = Value.ref a := rr1
      have eu : u2 = cv := by
        cases r2 <;> first | cases ey | skip
        · exact rr2
        · exact rr2
      subst eu
      have fin : ∀ tk, EP X pins σ Q (.bool b) { s with toks := tk } := fun tk => ⟨.bl b, H, I.tok tk, rfl, bh _ H _ S .refl sr .bl q⟩
      cases sr a _ ea with
      | exc0 eh =>
        obtain ⟨t0, g0⟩ := xH_get I.hok eh
        exact PySem.W.kia_one (kitx_exc (od := none) (ox := xObj C t0 none) (hG C g)) I.kIn ⟨g0, rfl, rfl, True.intro⟩ ek (fun z => nomatch z) fin
      | exc ne eh n ed pr =>
        obtain ⟨t0, g0⟩ := xH_get I.hok eh
        obtain ⟨mA, hns, _⟩ := (show ObjOk X.prog X.w H s.heap _ (.xd _) from I.hok _ _ ed)
        obtain ⟨od, gd, _⟩ := lookIn_ns hns
        exact PySem.W.kia_one (kitx_exc (od := some od) (hG C g)) I.kIn ⟨g0, rfl, rfl, gd⟩ ek (fun z => nomatch z) fin
/-- an own class as a value -/
theorem pe_cls {C : Addr} (hg : Gl X x) (hm : X.mg x = some (.ref C)) (hdb : (x == ("__debug__" : Str)) = false := by decide) : PE X (.Name x p) (fun _ H Q => Q (.ref C) H) := by
  intro pins s σ H Q I h
  exact ld_glob I hg hm ⟨.ref C, H, I, rfl, h⟩ hdb
def wCls (C : Addr) : WE := fun _ S Q => Q (.ref C) S
theorem Q_cls {C : Addr} (hg : Gl X x) (hm : X.mg x = some (.ref C)) (hdb : (x == ("__debug__" : Str)) = false := by decide) : QE K X (.Name x p) (wCls C) :=
  PE.of (pe_cls hg hm hdb) fun σ H Q ⟨S, σt, Qt, s, c, q, hq⟩ => hq _ H _ S .refl s .ref q
end
end T2
namespace T2
open PySem PySem.Spec PyProof.Rows L2
section
variable {K : Fg} {X : Cx} {pos p1 p2 p3 : Pos} {value : Expr} {tv : TE} {wv : WE} {s1 s2 : Str} {k1 k3 : Nat}
/-- f'..{i}..' of an int -/
def tF3 (s1 s2 : Str) (tv : TE) : TE := fun σ H Q => tv σ H fun x H1 => ∃ i : Int, x = .int i ∧ i.natAbs.log2 < 1920 ∧ Q (.str (Str.empty ++ s1 ++ Str.ofString (toString i) ++ s2)) H1
theorem pe_f3 (hv : PE X value tv) (h1 : s1.length ≤ 1000) (h2 : s2.length ≤ 1000) : PE X (.JoinedStr [.Constant (.str s1) k1 p1, .FormattedValue value (-1) none p2, .Constant (.str s2) k3 p3] pos) (tF3 s1 s2 tv) := by
  intro pins s σ H Q I h
  refine JoinedStr_many (joinParts_cons (thn (pe_str pins s σ H (fun v H1 => v = .str s1 ∧ H1 = H) I ⟨rfl, rfl⟩) fun u sa ⟨v, H1, I1, ru, ev, eH⟩ => ?_))
  subst ev eH
  obtain ⟨t1, rfl⟩ := (show ∃ t, u = Value.str s1 t from ru)
  have l0 : (Str.empty ++ s1).length ≤ 1000 := by rw [PySem.Str.length_append]; exact (by simpa [Str.empty, PySem.Str.length] using h1)
  refine ⟨by rw [sizeLine_eq]; omega, joinParts_cons (FormattedValue_plain (thn (hv pins sa σ H1 _ I1 h) fun u2 sb ⟨x, H2, I2, rx, i, ex, hi, q⟩ => ?_))⟩
  subst ex
  obtain ⟨t2, rfl⟩ := (show ∃ t, u2 = Value.int i t from rx)
  have li : (Str.ofString (toString i)).length ≤ 1921 := by rw [PySem.ofString_length]; exact int_text_length_le (by decide) hi
  refine formatField_int_small hi ⟨by rw [PySem.Str.length_append, sizeLine_eq]; omega, ?_⟩
  refine joinParts_cons (thn (pe_str pins _ σ H2 (fun v H1 => v = .str s2 ∧ H1 = H2) (I2.tok _) ⟨rfl, rfl⟩) fun u3 sc ⟨v, H3, I3, ru3, ev, eH⟩ => ?_)
  subst ev eH
  obtain ⟨t3, rfl⟩ := (show ∃ t, u3 = Value.str s2 t from ru3)
  have lz : (Str.empty ++ s1 ++ Str.ofString (toString i) ++ s2).length ≤ sizeLine := by rw [PySem.Str.length_append, PySem.Str.length_append, sizeLine_eq]; omega
  exact ⟨lz, joinParts_nil (show EP X pins σ Q _ _ from ⟨.str (Str.empty ++ s1 ++ Str.ofString (toString i) ++ s2), _, I3.tok _, ⟨_, rfl⟩, q⟩) lz⟩
def wF3 (s1 s2 : Str) (wv : WE) : WE := fun σ S Q => wv σ S fun x S1 => ∃ i : Int, x = .int i ∧ i.natAbs.log2 < 1920 ∧ Q (.str (Str.empty ++ s1 ++ Str.ofString (toString i) ++ s2)) S1
theorem q_f3 (hv : QE K X value wv) (h1 : s1.length ≤ 1000 := by decide) (h2 : s2.length ≤ 1000 := by decide) : QE K X (.JoinedStr [.Constant (.str s1) k1 p1, .FormattedValue value (-1) none p2, .Constant (.str s2) k3 p3] pos) (wF3 s1 s2 wv) :=
  PE.of (pe_f3 hv h1 h2) fun σ H Q ⟨S, σt, Qt, s, c, q, hq⟩ => by
    refine ⟨S, σt, _, s, c, q, fun x H1 tx S1 f1 s1 r1 q1 => ?_⟩
    obtain ⟨i, rfl, hi, q1⟩ := q1
    cases r1
    exact ⟨i, rfl, hi, hq _ H1 _ S1 f1 s1 .str q1⟩
end
section
variable {K : Fg} {σ : StT} {S : Sto} {Q : T → Sto → Prop} {C a : Addr} {wr : WA} {wa wv : WE} {wsp : WSp} {fs : List (Str × T)} {D : EndsT} {G : Addr → Prop} {fl : Str} {t x y : T}
theorem i_exc (h : wr σ S fun ts S1 => ts.length ≤ 2 ∧ ∀ e, S1 e = none → Q (.ref e) (put S1 e (.exc C []))) : wExc C wr σ S Q := h
theorem i_excI (h : wr σ S fun ts S1 => ts.length ≤ 2 ∧ ∀ e, S1 e = none → wsp (.ref e :: ts) (put S1 e (.exc C [])) (fun t S2 => t = .non ∧ Q (.ref e) S2)) : wExcI C wsp wr σ S Q := h
theorem i_xinit (h : wr σ S fun ts S1 => ∃ e C t r, ts = [.ref e, t] ∧ S1 e = some (.exc C []) ∧ excAt K C r = true ∧ Q .non S1) : wXInit K wr σ S Q := h
theorem x_xinit {r : Option Value} {R : Prop} (e : S a = some (.exc C [])) (hx : excAt K C r = true) (h : R) : ∃ e' C' t' r', [T.ref a, t] = [.ref e', t'] ∧ S e' = some (.exc C' []) ∧ excAt K C' r' = true ∧ R := ⟨a, C, t, r, rfl, e, hx, h⟩
theorem i_xset (h : wv σ S fun y S1 => wa σ S1 fun x S2 => ∃ a C, x = .ref a ∧ S2 a = some (.exc C []) ∧ G C ∧ D.nx σ (put S2 a (.exc C [(fl, y)]))) : wXSet G wa wv fl D σ S := h
theorem x_xset {P : Addr → Addr → Prop} (e : S a = some (.exc C [])) (g : G C) (h : P a C) : ∃ a' C', T.ref a = .ref a' ∧ S a' = some (.exc C' []) ∧ G C' ∧ P a' C' := ⟨a, C, rfl, e, g, h⟩
theorem i_xget (h : wa σ S fun x S1 => ∃ a C fs v, x = .ref a ∧ S1 a = some (.exc C fs) ∧ G C ∧ fs.lookup fl = some v ∧ Q v S1) : wXGet G wa fl σ S Q := h
theorem x_xget {P : T → Prop} (e : S a = some (.exc C fs)) (g : G C) (l : fs.lookup fl = some t) (h : P t) : ∃ a' C' fs' v, T.ref a = .ref a' ∧ S a' = some (.exc C' fs') ∧ G C' ∧ fs'.lookup fl = some v ∧ P v := ⟨a, C, fs, t, rfl, e, g, l, h⟩
theorem i_f3 {s1 s2 : Str} (h : wv σ S fun x S1 => ∃ i : Int, x = .int i ∧ i.natAbs.log2 < 1920 ∧ Q (.str (Str.empty ++ s1 ++ Str.ofString (toString i) ++ s2)) S1) : wF3 s1 s2 wv σ S Q := h
theorem i_cls (h : Q (.ref C) S) : wCls C σ S Q := h
theorem g_isx {c : Value} {b : Bool} (e : S a = some (.exc C fs)) (g : G C) (ey : clsT y = some c) (ek : PySem.W.kitOne K (.ref C) c = some b) (h : Q (.bl b) S) : gIsx K G [.ref a, y] S Q := ⟨a, C, fs, y, c, b, rfl, e, g, ey, ek, h⟩
end
end T2

set_option Elab.async false
set_option maxHeartbeats 4000000
set_option linter.all false
set_option maxRecDepth 100000
seal T2.QE T2.QT T2.QW T2.QA T2.QS T2.QSs T2.QG T2.QGs T2.QI T2.QTs T2.QO L2.PE L2.PT L2.PA L2.PS L2.PSs L2.PG L2.PGs L2.PI L2.PTs L2.PO L2.PW
namespace My
open PySem L2 T2
set_option hygiene false
local macro_rules
  | `(tactic| ac_rfl) => `(tactic| (first | (with_reducible assumption) | with_reducible exact put_same | exact (put_ne (by assumption)).trans (by assumption) | exact (put_ne (by assumption)).trans put_same | exact (put_ne (Ne.symm (by assumption))).trans put_same | exact (put_ne (Ne.symm (by assumption))).trans (by assumption)))
local macro_rules
  | `(tactic| infer_instance) => `(tactic| (first | omega | (with_reducible assumption) | ((with_reducible apply Int.emod_nonneg); omega) | ((with_reducible apply Int.emod_lt_of_pos); omega) | (simp only [Int.reduceToNat, Int.reducePow]; omega) | (simp only [PySem.Str.length_append]; omega) | (simp only [List.length_range, List.length_map]; omega)))
local macro_rules
  | `(tactic| contradiction) => `(tactic| (first | (simp only [PySem.sizeLine_eq, PySem.Str.length_append, Tm.len_one, Tm.len_blank, Tm.len_empty]; omega) | (rw [PySem.sizeLine_eq]; omega) | (rw [PySem.sizeLine_eq]; decide)))
local macro_rules
  | `(tactic| bv_omega) => `(tactic| (repeat (first
      | (with_reducible first | apply i_seq | apply i_next | apply i_drop | apply i_ret | apply i_retN | apply i_ifS | apply i_asg | apply i_gS | apply i_gCons | apply i_gNil | apply i_for | apply i_C | apply i_2 | apply i_B | apply i_bl | apply i_chain | apply i_and | apply i_or | apply i_not | apply i_true | apply i_andV | apply i_orV | apply i_notV | apply i_if | apply i_nil | apply i_cons | apply i_tup | apply i_lst | apply i_lstT | apply i_call | apply i_cb | apply i_bm | apply i_neg | apply i_sl | apply i_oN | apply i_oS | apply i_comp | apply i_newF | apply i_iL | apply i_iR1 | apply i_iS | apply i_break | apply i_cont | apply g_sub | apply g_addI | apply g_eqI | apply g_eqS | apply g_eqB | apply g_ltI | apply g_leI | apply g_gtI | apply g_geI | apply g_ltS | apply g_leS | apply g_is | apply g_slM | apply g_slL | apply g_slC | apply g_lenT | apply g_lenM | apply g_lenL | apply g_lenC | apply g_min | apply g_intB | apply g_listL | apply g_starts | apply m_str | apply m_lst | apply v_lst | apply v_scr | apply ifT | apply ifF | apply ifNT | apply ifNF | apply g_inSL | apply g_ixL0)
      | ((with_reducible apply i_cell); (infer_instance; infer_instance; intro z))
      | ((with_reducible apply g_isi); (rfl; first | exact T.ii | exact T.ib))
      | ((with_reducible apply g_isx); (ac_rfl; assumption; rfl; assumption))
      | ((with_reducible apply i_cls); (skip))
      | ((with_reducible apply i_f3); (skip))
      | ((with_reducible apply i_xget); (skip))
      | ((with_reducible apply i_xset); (skip))
      | ((with_reducible apply i_xinit); (skip))
      | ((with_reducible apply i_excI); (skip))
      | ((with_reducible apply i_exc); (skip))
      | ((with_reducible apply i_V); (rfl))
      | ((with_reducible apply i_gN2); (((try simp only [List.set_cons_zero, List.set_cons_succ]); rfl)))
      | ((with_reducible apply i_gT); (rfl))
      | ((with_reducible apply g_ixT); (rfl))
      | ((with_reducible apply g_ixL); (rfl))
      | ((with_reducible apply g_ixR); (ac_rfl; rfl))
      | ((with_reducible apply g_setNP); (rfl; (simp only [List.length_cons, List.length_nil]; decide); ((try simp only [List.set_cons_zero, List.set_cons_succ]); rfl)))
      | ((with_reducible apply g_setN); (ac_rfl; rfl; (simp only [List.length_cons, List.length_nil]; decide); ((try simp only [List.set_cons_zero, List.set_cons_succ]); rfl)))
      | ((with_reducible apply g_setP); (rfl))
      | ((with_reducible apply g_set); (ac_rfl; rfl))
      | ((with_reducible apply g_mod); (infer_instance))
      | ((with_reducible apply g_div); (infer_instance; infer_instance))
      | ((with_reducible apply g_pow); (decide; decide; decide))
      | ((with_reducible apply g_mulI); (first | exact .inl ⟨by first | omega | decide, by first | omega | decide⟩ | exact .inr ⟨by first | omega | decide, by first | omega | decide⟩))
      | ((with_reducible apply g_ixM); (infer_instance; infer_instance; intro z hz ez))
      | ((with_reducible apply g_shr); (infer_instance))
      | ((with_reducible apply g_addS); (contradiction))
      | ((with_reducible apply g_slS); (contradiction))
      | ((with_reducible apply g_lenS); (contradiction))
      | ((with_reducible apply g_strip); (contradiction))
      | ((with_reducible apply g_split); (decide; infer_instance))
      | ((with_reducible apply i_rng); (infer_instance; infer_instance))
      | ((with_reducible apply g_inSR); (ac_rfl))
      | ((with_reducible apply g_lenMR); (ac_rfl))
      | ((with_reducible apply g_lenR); (ac_rfl))
      | ((with_reducible apply g_ixMR); (ac_rfl; infer_instance; infer_instance; intro z hz ez))
      | ((with_reducible apply g_ixSP); (contradiction; infer_instance; infer_instance; intro d hd ed))
      | ((with_reducible apply g_slR); (ac_rfl))
      | ((with_reducible apply m_ref); (ac_rfl))
      | ((with_reducible apply v_ref); (ac_rfl))
      | ((with_reducible apply g_listR); (ac_rfl))
      | ((with_reducible apply g_inT); (rfl; rfl))
      | ((with_reducible apply g_reverse); (ac_rfl))
      | ((with_reducible apply z_le (n := 0)); ((first | decide | (simp only [List.length_cons, List.length_nil]; decide)))))))
set_option hygiene true
def top (i : Nat) : Stmt := PySem.Challenge.pw_aheadword_k12_refusals_apart.main.body.getD i (.Pass ⟨0, 0, 0, 0⟩)
abbrev s_NoText_init : Stmt := inClass (top 8) 0
abbrev s_law_cell_at : Stmt := top 11
abbrev s_law_kinds : Stmt := top 12
abbrev s_law : Stmt := top 13
def kitsIn (K : PySem.W.Frag) (A : Addr) (cs : List Addr) : Bool := cs.all (fun c => PySem.W.kitOne K (.ref c) (.ref A) == some true && PySem.W.kitOne K (.ref c) (.type "ValueError") == some true) &&
  (List.range 8).all fun i => (List.range 8).all fun j => PySem.W.kitOne K (.ref (cs.getD i 0)) (.ref (cs.getD j 0)) == some (j == i)
structure Txt (K : PySem.W.Frag) (mg : Str → Option Value) (A c0 c1 c2 c3 c4 c5 c6 c7 : Addr) : Prop where
  len : mg "len" = none
  range : mg "range" = none
  isinstance : mg "isinstance" = none
  bool : mg "bool" = none
  int : mg "int" = none
  ValueError : mg "ValueError" = none
  ii : PySem.W.kitOne K (.type "int") (.type "int") = some true
  ib : PySem.W.kitOne K (.type "int") (.type "bool") = some false
  mg_AheadError : mg "AheadError" = some (.ref A)
  mg_Absent : mg "Absent" = some (.ref c0)
  mg_Beside : mg "Beside" = some (.ref c1)
  mg_NoChoice : mg "NoChoice" = some (.ref c2)
  mg_NoRow : mg "NoRow" = some (.ref c3)
  mg_NoSign : mg "NoSign" = some (.ref c4)
  mg_NoWord : mg "NoWord" = some (.ref c5)
  mg_Twice : mg "Twice" = some (.ref c6)
  mg_NoText : mg "NoText" = some (.ref c7)
  e0 : excAt K c0 none = true
  e1 : excAt K c1 none = true
  e2 : excAt K c2 none = true
  e3 : excAt K c3 none = true
  e4 : excAt K c4 none = true
  e5 : excAt K c5 none = true
  e6 : excAt K c6 none = true
  x0 : XC K c0
  x1 : XC K c1
  x2 : XC K c2
  x3 : XC K c3
  x4 : XC K c4
  x5 : XC K c5
  x6 : XC K c6
  x7 : XC K c7
  nr : NoAttr K c7 "row"
  sp : PySem.W.specialIn K (.ref A) "__getattribute__" = some (some (.builtin "type.__getattribute__"))
  rd : PySem.W.readsIn K A (.type "type") = true
  fc : PySem.W.findCls K (.ref A) (.type "type") "__init__" = some (.val (.builtin "ValueError.__init__"))
  ks : kitsIn K A [c0, c1, c2, c3, c4, c5, c6, c7] = true
section
variable {P : Program} {w : World} {K : PySem.W.Frag} {mg : Str → Option Value} {base : Heap} {A c0 c1 c2 c3 c4 c5 c6 c7 : Addr}
theorem Txt.gx (T : Txt K mg A c0 c1 c2 c3 c4 c5 c6 c7) : ∀ C, C ∈ [c0, c1, c2, c3, c4, c5, c6, c7] → XC K C := by
  intro C h
  simp only [List.mem_cons, List.not_mem_nil, or_false] at h
  rcases h with rfl | rfl | rfl | rfl | rfl | rfl | rfl | rfl
  · exact T.x0
  · exact T.x1
  · exact T.x2
  · exact T.x3
  · exact T.x4
  · exact T.x5
  · exact T.x6
  · exact T.x7
theorem Txt.gr (T : Txt K mg A c0 c1 c2 c3 c4 c5 c6 c7) : ∀ C, C = c7 → XC K C ∧ NoAttr K C "row" := fun C e => by subst e; exact ⟨T.x7, T.nr⟩
theorem kits_of {cs : List Addr} (h : kitsIn K A cs = true) (hl : cs.length = 8) {i : Nat} {C : Addr} (e : cs[i]? = some C) :
    PySem.W.kitOne K (.ref C) (.ref A) = some true ∧ PySem.W.kitOne K (.ref C) (.type "ValueError") = some true ∧ ∀ j < 8, PySem.W.kitOne K (.ref C) (.ref (cs.getD j 0)) = some (j == i) := by
  simp only [kitsIn, Bool.and_eq_true, List.all_eq_true, beq_iff_eq, List.mem_range] at h
  have hi : i < 8 := by
    have := (List.getElem?_eq_some_iff.mp e).1
    omega
  have z := h.1 C (List.mem_of_getElem? e)
  refine ⟨z.1, z.2, fun j hj => ?_⟩
  have q := h.2 i hi j hj
  rw [List.getD_eq_getElem?_getD, e] at q
  exact q
def spCell : WSp := fun ts S Q => ∃ (ns : List Int) (k : Int), ts = [.scr ns, .int k] ∧ 0 ≤ k ∧ ns.length ≤ 63 ∧ ∀ z : Int, Q (.int z) S
theorem i_cell {S : Sto} {Q : T → Sto → Prop} {ns : List Int} {k : Int} (h0 : 0 ≤ k) (h1 : ns.length ≤ 63) (h : ∀ z : Int, Q (.int z) S) : spCell ([.scr ns, .int k] ++ []) S Q := ⟨ns, k, rfl, h0, h1, h⟩
theorem sc_law_cell_at : FnScope ["_law_script", "_law_k"] ["_law_script", "_law_k"] (defScope s_law_cell_at) := ⟨rfl, rfl, rfl, by decide +kernel, rfl, by decide +kernel, by decide +kernel⟩
theorem ok_cell {f : Addr} {fd : FuncData} (F : Fun K "_law_cell_at" "_law_cell_at" s_law_cell_at f fd) (T : Txt K mg A c0 c1 c2 c3 c4 c5 c6 c7) : FnOk P w K mg base CX0 1 f fd ["_law_script", "_law_k"] (lSp K spCell) := by
  refine ok_def F sc_law_cell_at (fun ts S Q h => ?_) fun cdv A outer s H E hr => ?_
  · obtain ⟨ns, k, rfl, _⟩ := h; rfl
  have nd := sc_law_cell_at.nd
  refine ⟨_, ((qs_cons (q_if (q_tcmp o_lt (Q_var 1) (Q_cb (c_len rfl) (by rfl) T.len PySem.boot_len (qa_cons (Q_var 0) qa_nil (star_of rfl))) (nomark _))
       (qs_one (q_ret (q_ix rfl (Q_var 0) (Q_var 1) (fun _ _ => rfl))))
       qs_nil)
      (qs_one (q_ret q_int)))), fun ts S Q h => ?_⟩
  obtain ⟨ns, k, rfl, hk, hns, hq⟩ := h
  simp only [startT, List.map_cons, List.map_nil, List.length_cons, List.length_nil, List.replicate, List.cons_append, List.nil_append, Nat.zero_add, Nat.reduceAdd, Nat.reduceSub]
  bv_omega
  refine ifB (fun hb => ?_) fun hb => ?_
  · have hb := of_decide_eq_true hb
    bv_omega
    refine g_ixC hk (by omega) fun z _ _ => ?_
    exact .mk (hq z)
  · bv_omega
    exact .mk (hq 0)
def kindsT (i : Nat) : List T2.T := (List.range 8).map fun j => .bl (j == i)
def spKinds (cs : List Addr) : WSp := fun ts S Q => ∃ a C fs i, ts = [.ref a] ∧ S a = some (.exc C fs) ∧ cs[i]? = some C ∧ Q (.lst (kindsT i)) S
theorem i_kinds {cs : List Addr} {S : Sto} {Q : T → Sto → Prop} {a C : Addr} {fs : List (Str × T2.T)} {i : Nat} (e : S a = some (.exc C fs)) (e2 : cs[i]? = some C) (h : Q (.lst (kindsT i)) S) : spKinds cs ([.ref a] ++ []) S Q := ⟨a, C, fs, i, rfl, e, e2, h⟩
theorem sc_law_kinds : FnScope ["_law_e", "_law_kinds_here"] ["_law_e"] (defScope s_law_kinds) := ⟨rfl, rfl, rfl, by decide +kernel, rfl, by decide +kernel, by decide +kernel⟩
theorem ok_kinds {f : Addr} {fd : FuncData} (F : Fun K "_law_kinds" "_law_kinds" s_law_kinds f fd) (T : Txt K mg A c0 c1 c2 c3 c4 c5 c6 c7) : FnOk P w K mg base CX0 1 f fd ["_law_e"] (lSp K (spKinds [c0, c1, c2, c3, c4, c5, c6, c7])) := by
  refine ok_def F sc_law_kinds (fun ts S Q h => ?_) fun cdv A outer s H E hr => ?_
  · obtain ⟨a, C, fs, i, rfl, _⟩ := h; rfl
  have nd := sc_law_kinds.nd
  refine ⟨_, ((qs_cons (q_set (i := 1) nd rfl (Or.inl rfl) (q_lst (qa_cons (Q_cb (c_isx rfl T.gx) (by rfl) T.isinstance PyProof.Rows.boot_isinstance (qa_cons (Q_var 0) (qa_cons (Q_cls (by rfl) T.mg_Absent) qa_nil (star_of rfl)) (star_of rfl))) (qa_cons (Q_cb (c_isx rfl T.gx) (by rfl) T.isinstance PyProof.Rows.boot_isinstance (qa_cons (Q_var 0) (qa_cons (Q_cls (by rfl) T.mg_Beside) qa_nil (star_of rfl)) (star_of rfl))) (qa_cons (Q_cb (c_isx rfl T.gx) (by rfl) T.isinstance PyProof.Rows.boot_isinstance (qa_cons (Q_var 0) (qa_cons (Q_cls (by rfl) T.mg_NoChoice) qa_nil (star_of rfl)) (star_of rfl))) (qa_cons (Q_cb (c_isx rfl T.gx) (by rfl) T.isinstance PyProof.Rows.boot_isinstance (qa_cons (Q_var 0) (qa_cons (Q_cls (by rfl) T.mg_NoRow) qa_nil (star_of rfl)) (star_of rfl))) qa_nil (star_of rfl)) (star_of rfl)) (star_of rfl)) (star_of rfl))))
      (qs_cons (q_set (i := 1) nd rfl (Or.inl rfl) (q_op (o_add false) (Q_var 1) (q_lst (qa_cons (Q_cb (c_isx rfl T.gx) (by rfl) T.isinstance PyProof.Rows.boot_isinstance (qa_cons (Q_var 0) (qa_cons (Q_cls (by rfl) T.mg_NoSign) qa_nil (star_of rfl)) (star_of rfl))) (qa_cons (Q_cb (c_isx rfl T.gx) (by rfl) T.isinstance PyProof.Rows.boot_isinstance (qa_cons (Q_var 0) (qa_cons (Q_cls (by rfl) T.mg_NoWord) qa_nil (star_of rfl)) (star_of rfl))) (qa_cons (Q_cb (c_isx rfl T.gx) (by rfl) T.isinstance PyProof.Rows.boot_isinstance (qa_cons (Q_var 0) (qa_cons (Q_cls (by rfl) T.mg_Twice) qa_nil (star_of rfl)) (star_of rfl))) (qa_cons (Q_cb (c_isx rfl T.gx) (by rfl) T.isinstance PyProof.Rows.boot_isinstance (qa_cons (Q_var 0) (qa_cons (Q_cls (by rfl) T.mg_NoText) qa_nil (star_of rfl)) (star_of rfl))) qa_nil (star_of rfl)) (star_of rfl)) (star_of rfl)) (star_of rfl)))))
      (qs_one (q_ret (Q_var 1)))))), fun ts S Q h => ?_⟩
  obtain ⟨a, C, fs, i, rfl, ha, hi, hq⟩ := h
  have hm := List.mem_of_getElem? hi
  obtain ⟨_, _, kk⟩ := kits_of T.ks rfl hi
  have k0 := kk 0 (by omega)
  have k1 := kk 1 (by omega)
  have k2 := kk 2 (by omega)
  have k3 := kk 3 (by omega)
  have k4 := kk 4 (by omega)
  have k5 := kk 5 (by omega)
  have k6 := kk 6 (by omega)
  have k7 := kk 7 (by omega)
  simp only [startT, List.map_cons, List.map_nil, List.length_cons, List.length_nil, List.replicate, List.cons_append, List.nil_append, Nat.zero_add, Nat.reduceAdd, Nat.reduceSub]
  bv_omega
  refine g_addL rfl rfl (Nat.le_of_ble_eq_true rfl) ?_
  bv_omega
  exact .mk hq
def spInit (c7 : Addr) : WSp := fun ts S Q => ∃ (a : Addr) (n : Int), ts = [.ref a, .int n] ∧ S a = some (.exc c7 []) ∧ 0 ≤ n ∧ n < 10 ^ 60 + 1 ∧ Q .non (put S a (.exc c7 [("row", .int n)]))
theorem sc_NoText_init : FnScope ["self", "row"] ["self", "row"] (defScope s_NoText_init) := ⟨rfl, rfl, rfl, by decide +kernel, rfl, by decide +kernel, by decide +kernel⟩
theorem log_ok {n : Int} (h0 : 0 ≤ n) (h1 : n < 10 ^ 60 + 1) : n.natAbs.log2 < 1920 := by
  have : n.natAbs < 10 ^ 60 + 1 := by omega
  by_cases hz : n.natAbs = 0
  · rw [hz]; decide
  · exact (Nat.log2_lt hz).mpr (Nat.lt_of_lt_of_le this (by decide))
theorem ok_init {f : Addr} {fd : FuncData} (F : FunD K "__init__" "NoText.__init__" s_NoText_init f fd) (T : Txt K mg A c0 c1 c2 c3 c4 c5 c6 c7) (E7 : excAt K c7 (some (.ref f)) = true) : FnOk P w K mg base CX0 1 f fd ["self", "row"] (lSp K (spInit c7)) := by
  refine ok_defD F sc_NoText_init (fun ts S Q h => ?_) fun cdv A outer s H E hr => ?_
  · obtain ⟨a, n, rfl, _⟩ := h; rfl
  have nd := sc_NoText_init.nd
  refine ⟨_, ((qs_cons (q_expr (Q_xinit rfl (by rfl) T.mg_AheadError T.sp T.rd T.fc (qa_cons (Q_var 0) (qa_cons (q_f3 (Q_var 1)) qa_nil (star_of rfl)) (star_of rfl))))
      (qs_one (q_xset rfl T.gr (Q_var 0) (Q_var 1))))), fun ts S Q h => ?_⟩
  obtain ⟨a, n, rfl, ha, h0, h1, hq⟩ := h
  simp only [startT, List.map_cons, List.map_nil, List.length_cons, List.length_nil, List.replicate, List.cons_append, List.nil_append, Nat.zero_add, Nat.reduceAdd, Nat.reduceSub]
  bv_omega
  refine ⟨n, rfl, log_ok h0 h1, ?_⟩
  bv_omega
  refine x_xinit ha E7 ?_
  bv_omega
  refine x_xset ha rfl ?_
  exact .mk hq
/-- what has been made -/
def Made (S : Sto) (cs es : List Addr) : Prop := ∀ (i : Nat) (e : Addr), es[i]? = some e → ∃ C fs, cs[i]? = some C ∧ S e = some (.exc C fs)
theorem Made.push {S : Sto} {cs es : List Addr} {e C : Addr} {fs : List (Str × T2.T)} (m : Made S cs es) (he : S e = none) (hc : cs[es.length]? = some C) : Made (put S e (.exc C fs)) cs (es ++ [e]) := by
  intro i x hx
  by_cases hi : i < es.length
  · rw [List.getElem?_append_left hi] at hx
    obtain ⟨C', fs', h1, h2⟩ := m i x hx
    refine ⟨C', fs', h1, ?_⟩
    rw [put_ne (fun z => by rw [z, he] at h2; cases h2)]
    exact h2
  · have hl := (List.getElem?_eq_some_iff.mp hx).1
    simp only [List.length_append, List.length_cons, List.length_nil] at hl
    obtain rfl : i = es.length := by omega
    rw [List.getElem?_append_right (Nat.le_refl _), Nat.sub_self] at hx
    cases hx
    exact ⟨C, fs, hc, put_same⟩
def spLaw : WSp := fun ts S Q => ∃ ns : List Int, ts = [.scr ns] ∧ ns.length ≤ 63 ∧ ∀ S', Q (.bl true) S'
theorem sc_law : FnScope ["_law_script", "_law_words", "_law_number", "_law_made", "_law_k", "_law_kinds_here", "_law_j", "_law_row"] ["_law_script"] (defScope s_law) := ⟨rfl, rfl, rfl, by decide +kernel, rfl, by decide +kernel, by decide +kernel⟩
theorem ok_law {f f1 f2 f7 : Addr} {fd fd1 fd2 fd7 : FuncData} (F : Fun K "law" "law" s_law f fd) (T : Txt K mg A c0 c1 c2 c3 c4 c5 c6 c7)
    (G__law_cell_at : FnOk P w K mg base CX0 1 f1 fd1 ["_law_script", "_law_k"] (lSp K spCell)) (D__law_cell_at : Df K mg "_law_cell_at" f1 fd1 ["_law_script", "_law_k"])
    (G__law_kinds : FnOk P w K mg base CX0 1 f2 fd2 ["_law_e"] (lSp K (spKinds [c0, c1, c2, c3, c4, c5, c6, c7]))) (D__law_kinds : Df K mg "_law_kinds" f2 fd2 ["_law_e"])
    (E7 : excAt K c7 (some (.ref f7)) = true) (I7 : PySem.W.isFn K (.ref f7) = true) (G7 : FnOk P w K mg base CX0 1 f7 fd7 ["self", "row"] (lSp K (spInit c7))) (B7 : Binds K fd7 ["self", "row"] []) :
    FnOk P w K mg base CX0 3 f fd ["_law_script"] (lSp K spLaw) := by
  refine ok_def F sc_law (fun ts S Q h => ?_) fun cdv A outer s H E hr => ?_
  · obtain ⟨ns, rfl, _⟩ := h; rfl
  have nd := sc_law.nd
  refine ⟨_, ((qs_cons (q_set (i := 1) nd rfl (Or.inl rfl) (q_slice false rfl q_str qo_none (qo_some (q_op o_mod (Q_call G__law_cell_at D__law_cell_at (hr.mono (by decide)) (by rfl) (qa_cons (Q_var 0) (qa_cons q_int qa_nil (star_of rfl)) (star_of rfl))) q_int))))
      (qs_cons (q_set (i := 2) nd rfl (Or.inl rfl) (q_op o_mod (Q_call G__law_cell_at D__law_cell_at (hr.mono (by decide)) (by rfl) (qa_cons (Q_var 0) (qa_cons q_int qa_nil (star_of rfl)) (star_of rfl))) (q_op (o_add false) (q_op o_pow q_int q_int) q_int)))
      (qs_cons (q_set (i := 3) nd rfl (Or.inl rfl) (q_lst (qa_cons (Q_exc T.e0 T.x0.kp (by rfl) T.mg_Absent (qa_cons (Q_var 1) qa_nil (star_of rfl))) (qa_cons (Q_exc T.e1 T.x1.kp (by rfl) T.mg_Beside (qa_cons (Q_var 1) qa_nil (star_of rfl))) (qa_cons (Q_exc T.e2 T.x2.kp (by rfl) T.mg_NoChoice (qa_cons (Q_var 1) qa_nil (star_of rfl))) (qa_cons (Q_exc T.e3 T.x3.kp (by rfl) T.mg_NoRow (qa_cons (Q_var 1) qa_nil (star_of rfl))) (qa_cons (Q_exc T.e4 T.x4.kp (by rfl) T.mg_NoSign (qa_cons (Q_var 1) qa_nil (star_of rfl))) (qa_cons (Q_exc T.e5 T.x5.kp (by rfl) T.mg_NoWord (qa_cons (Q_var 1) qa_nil (star_of rfl))) (qa_cons (Q_exc T.e6 T.x6.kp (by rfl) T.mg_Twice (qa_cons (Q_var 1) qa_nil (star_of rfl))) qa_nil (star_of rfl)) (star_of rfl)) (star_of rfl)) (star_of rfl)) (star_of rfl)) (star_of rfl)) (star_of rfl))))
      (qs_cons (q_set (i := 3) nd rfl (Or.inl rfl) (q_op (o_add false) (Q_var 3) (q_lst (qa_cons (Q_excI E7 T.x7.kp I7 G7 (hr.mono (by decide)) B7 (by rfl) T.mg_NoText (qa_cons (Q_var 2) qa_nil (star_of rfl))) qa_nil (star_of rfl)))))
      (qs_cons (q_for PassesOwn.never rfl (qi_range1 (by rfl) T.range q_int) (Q_gname (i := 4) nd rfl (Or.inl rfl))
       (qs_cons (q_if (q_tW (q_or (q_tnot (q_tval (Q_cb (c_isx rfl T.gx) (by rfl) T.isinstance PyProof.Rows.boot_isinstance (qa_cons (q_ix rfl (Q_var 3) (Q_var 4) (fun _ _ => rfl)) (qa_cons (Q_cls (by rfl) T.mg_AheadError) qa_nil (star_of rfl)) (star_of rfl))))) (q_or1 (q_tnot (q_tval (Q_cb (c_isx rfl T.gx) (by rfl) T.isinstance PyProof.Rows.boot_isinstance (qa_cons (q_ix rfl (Q_var 3) (Q_var 4) (fun _ _ => rfl)) (qa_cons (Q_ty (n := "ValueError") (by rfl) T.ValueError (by rfl)) qa_nil (star_of rfl)) (star_of rfl))))))))
       (qs_one (q_ret q_bl))
       qs_nil)
      (qs_cons (q_set (i := 5) nd rfl (Or.inl rfl) (Q_call G__law_kinds D__law_kinds (hr.mono (by decide)) (by rfl) (qa_cons (q_ix rfl (Q_var 3) (Q_var 4) (fun _ _ => rfl)) qa_nil (star_of rfl))))
      (qs_one (q_for PassesOwn.never rfl (qi_range1 (by rfl) T.range q_int) (Q_gname (i := 6) nd rfl (Or.inl rfl))
       (qs_one (q_if (q_tcmp (o_ne rfl hr.units) (q_ix rfl (Q_var 5) (Q_var 6) (fun _ _ => rfl)) (q_cmp (o_eq rfl hr.units) (Q_var 6) (Q_var 4) (nomark _)) (nomark _))
       (qs_one (q_ret q_bl))
       qs_nil)))))))
      (qs_cons (q_set (i := 7) nd rfl (Or.inl rfl) (Q_xget rfl T.gr (q_ix rfl (Q_var 3) q_int (fun _ _ => rfl))))
      (qs_one (q_ret (q_andV (Q_cb (c_isi rfl) (by rfl) T.isinstance PyProof.Rows.boot_isinstance (qa_cons (Q_var 7) (qa_cons (Q_ty (n := "int") (by rfl) T.int PyProof.Rows.boot_int) qa_nil (star_of rfl)) (star_of rfl))) (q_andV (q_notV (Q_cb (c_isi rfl) (by rfl) T.isinstance PyProof.Rows.boot_isinstance (qa_cons (Q_var 7) (qa_cons (Q_ty (n := "bool") (by rfl) T.bool PyProof.Rows.boot_bool) qa_nil (star_of rfl)) (star_of rfl)))) (q_one (q_cmp (o_eq rfl hr.units) (Q_var 7) (Q_var 2) (nomark _)))))))))))))), fun ts S Q h => ?_⟩
  obtain ⟨ns, rfl, hns, hq⟩ := h
  simp only [startT, List.map_cons, List.map_nil, List.length_cons, List.length_nil, List.replicate, List.cons_append, List.nil_append, Nat.zero_add, Nat.reduceAdd, Nat.reduceSub]
  bv_omega
  rename_i z1
  have m0 : Made S [c0, c1, c2, c3, c4, c5, c6, c7] [] := fun i e h => by simp at h
  refine ⟨by simp, fun a0 h0 => ?_⟩
  have m1 := m0.push (C := c0) (fs := []) h0 rfl
  generalize put S a0 (O.exc c0 []) = S1 at m1 ⊢
  bv_omega
  refine ⟨by simp, fun a1 h1 => ?_⟩
  have m2 := m1.push (C := c1) (fs := []) h1 rfl
  generalize put S1 a1 (O.exc c1 []) = S2 at m2 ⊢
  bv_omega
  refine ⟨by simp, fun a2 h2 => ?_⟩
  have m3 := m2.push (C := c2) (fs := []) h2 rfl
  generalize put S2 a2 (O.exc c2 []) = S3 at m3 ⊢
  bv_omega
  refine ⟨by simp, fun a3 h3 => ?_⟩
  have m4 := m3.push (C := c3) (fs := []) h3 rfl
  generalize put S3 a3 (O.exc c3 []) = S4 at m4 ⊢
  bv_omega
  refine ⟨by simp, fun a4 h4 => ?_⟩
  have m5 := m4.push (C := c4) (fs := []) h4 rfl
  generalize put S4 a4 (O.exc c4 []) = S5 at m5 ⊢
  bv_omega
  refine ⟨by simp, fun a5 h5 => ?_⟩
  have m6 := m5.push (C := c5) (fs := []) h5 rfl
  generalize put S5 a5 (O.exc c5 []) = S6 at m6 ⊢
  bv_omega
  refine ⟨by simp, fun a6 h6 => ?_⟩
  have m7 := m6.push (C := c6) (fs := []) h6 rfl
  generalize put S6 a6 (O.exc c6 []) = S7 at m7 ⊢
  bv_omega
  have hn0 : 0 ≤ z % (10 ^ Int.toNat 60 + 1) := Int.emod_nonneg _ (by decide)
  have hn1 : z % (10 ^ Int.toNat 60 + 1) < 10 ^ 60 + 1 := Int.emod_lt_of_pos _ (by decide)
  generalize z % (10 ^ Int.toNat 60 + 1) = n at hn0 hn1 ⊢
  refine ⟨by simp, fun a7 h7 => ⟨a7, n, rfl, put_same, hn0, hn1, rfl, ?_⟩⟩
  rw [put_put]
  have m8 := m7.push (C := c7) (fs := [("row", .int n)]) h7 rfl
  have hrow : put S7 a7 (O.exc c7 [("row", .int n)]) a7 = some (O.exc c7 [("row", .int n)]) := put_same
  generalize put S7 a7 (O.exc c7 [("row", .int n)]) = S8 at m8 hrow ⊢
  bv_omega
  refine g_addL rfl rfl (Nat.le_of_ble_eq_true rfl) ?_
  bv_omega
  rw [show [T2.T.ref a0, T2.T.ref a1, T2.T.ref a2, T2.T.ref a3, T2.T.ref a4, T2.T.ref a5, T2.T.ref a6] ++ [T2.T.ref a7] = [a0, a1, a2, a3, a4, a5, a6, a7].map T2.T.ref from rfl]
  refine for_rangeT (fun k σ' S' => (∃ u4 u5 u6, σ' = [some (.scr ns), some (.str (Txt.slice (Str.ofString "abcd") none (some (z1 % 5)))), some (.int n), some (.lst ([a0, a1, a2, a3, a4, a5, a6, a7].map T2.T.ref)), u4, u5, u6, none]) ∧ S' = S8) ⟨⟨_, _, _, rfl⟩, rfl⟩ ?_ ?_
  · rintro k σ' S' N hk ⟨⟨u4, u5, u6, rfl⟩, hS⟩ hN
    obtain rfl := hS.symm
    refine ⟨trivial, ?_⟩
    obtain ⟨a, ha⟩ : ∃ a, [a0, a1, a2, a3, a4, a5, a6, a7][k]? = some a := ⟨_, List.getElem?_eq_getElem hk⟩
    obtain ⟨Ck, fk, hCk, hak⟩ := m8 k a ha
    have hmem := List.mem_of_getElem? hCk
    obtain ⟨kA, kV, _⟩ := kits_of T.ks rfl hCk
    have hat : atI ([a0, a1, a2, a3, a4, a5, a6, a7].map T2.T.ref) (0 + (k : Int)) = some (.ref a) := by
      rw [atI_map, Int.zero_add, atI_nat ha]; rfl
    bv_omega
    refine g_ixL hat ?_
    bv_omega
    refine g_ixL hat ?_
    bv_omega
    refine g_ixL hat ?_
    bv_omega
    refine i_kinds hak hCk ?_
    bv_omega
    refine for_rangeT (fun j σ' S' => (∃ u6, σ' = [some (.scr ns), some (.str (Txt.slice (Str.ofString "abcd") none (some (z1 % 5)))), some (.int n), some (.lst ([a0, a1, a2, a3, a4, a5, a6, a7].map T2.T.ref)), some (.int (0 + (k : Int))), some (.lst (kindsT k)), u6, none]) ∧ S' = S8) ⟨⟨_, rfl⟩, rfl⟩ ?_ ?_
    · rintro j σ' S' N2 hj ⟨⟨v6, rfl⟩, hS⟩ hN2
      obtain rfl := hS.symm
      refine ⟨trivial, ?_⟩
      have hat2 : atI (kindsT k) (0 + (j : Int)) = some (.bl (j == k)) := by
        have hj8 : j < 8 := hj
        rw [Int.zero_add]
        refine atI_nat ?_
        unfold kindsT
        rw [List.getElem?_map, List.getElem?_range hj8]; rfl
      bv_omega
      refine g_ixL hat2 ?_
      bv_omega
      rw [show (true ^^ decide ((j == k) = (false ^^ decide ((0 : Int) + (j : Int) = 0 + (k : Int))))) = false by
        by_cases e : j = k
        · subst e; simp
        · have e2 : ¬ ((0 : Int) + (j : Int) = 0 + (k : Int)) := by omega
          rw [beq_false_of_ne e, decide_eq_false e2]; rfl]
      bv_omega
      exact hN2 _ _ ⟨⟨_, rfl⟩, rfl⟩
    · rintro σ' S' ⟨⟨v6, rfl⟩, hS⟩
      obtain rfl := hS.symm
      exact ⟨trivial, hN _ _ ⟨⟨_, _, _, rfl⟩, rfl⟩⟩
  · rintro σ' S' ⟨⟨u4, u5, u6, rfl⟩, hS⟩
    obtain rfl := hS.symm
    refine ⟨trivial, ?_⟩
    bv_omega
    refine x_xget hrow rfl rfl ?_
    bv_omega
    rw [show (false ^^ decide (n = n)) = true by simp]
    exact .mk (hq _)
theorem law_start {K : PySem.W.Frag} {H : Hp} {a : Addr} {ns : List Int} {E : XK} (h : ns.length ≤ 63) (hO : Only H) (hS : SqL K H a (ns.map V.int)) : lSp K spLaw [.ref a] H (fun v _ => v = .bl true) E := by
  refine ⟨fun _ => none, [.scr ns], fun t _ => t = .bl true, ?_, .cons (.scr ?_) .nil, ⟨ns, rfl, h, fun _ => rfl⟩, ?_⟩
  · intro b o e; cases e
  rotate_left
  · intro v H' t S' _ _ r e
    subst e; cases r; rfl
  rcases hS with (e | ⟨o, e⟩) | e
  · rcases hO a with z | ⟨ob, xs, z⟩
    · rw [e] at z; cases z
    · rw [e] at z; cases z
  · exact .inl ⟨rfl, o, e⟩
  · exact .inr (.inr e)
end
end My

set_option Elab.async false
set_option maxHeartbeats 4000000
set_option linter.all false
namespace My
open PySem L2 T2
theorem all_mk {l : PySem.W.OpenLaw} {w : World} {K : PySem.W.Frag} {h : Heap} {mg : Str → Option Value} {fa f1 f2 f3 fni C_AheadError C_Absent C_Beside C_NoChoice C_NoRow C_NoSign C_NoWord C_Twice C_NoText : Addr} (X : K.In h) (G : h.Ns mainGlobals mg) (hfa : mg "law" = some (.ref fa))
    {od1 an1 od2 an2 od3 an3 odni anni : Option Addr} {sl1 sl2 sl3 slni : Array (Option Value)} {oc1 kV1 dc1 pm1 cd1 ct1 oc2 kV2 dc2 pm2 cd2 ct2 oc3 kV3 dc3 pm3 cd3 ct3 ocni kVni dcni pmni cdni ctni : Value}
    (aC_AheadError : PySem.W.nsIn K mainGlobals "AheadError" = some (some (.ref C_AheadError)))
    (aC_Absent : PySem.W.nsIn K mainGlobals "Absent" = some (some (.ref C_Absent)))
    (aC_Beside : PySem.W.nsIn K mainGlobals "Beside" = some (some (.ref C_Beside)))
    (aC_NoChoice : PySem.W.nsIn K mainGlobals "NoChoice" = some (some (.ref C_NoChoice)))
    (aC_NoRow : PySem.W.nsIn K mainGlobals "NoRow" = some (some (.ref C_NoRow)))
    (aC_NoSign : PySem.W.nsIn K mainGlobals "NoSign" = some (some (.ref C_NoSign)))
    (aC_NoWord : PySem.W.nsIn K mainGlobals "NoWord" = some (some (.ref C_NoWord)))
    (aC_Twice : PySem.W.nsIn K mainGlobals "Twice" = some (some (.ref C_Twice)))
    (aC_NoText : PySem.W.nsIn K mainGlobals "NoText" = some (some (.ref C_NoText)))
    (ani : PySem.W.findIn K (.ref C_NoText) "__init__" = some (some (.ref fni))) (ini : PySem.W.isFn K (.ref fni) = true) (lni : K.lookup fni = some ⟨ocni, odni, .func (PySem.W.fnOf "__init__" "NoText.__init__" (defArgs s_NoText_init) (defBody s_NoText_init) (defScope s_NoText_init) .none kVni dcni pmni anni cdni ctni), slni⟩) (cni : PySem.W.codeIn K cdni "NoText.__init__" = true) (kni : PySem.W.keepIn K (.ref fni) = true)
    (a1 : PySem.W.nsIn K mainGlobals "_law_cell_at" = some (some (.ref f1))) (l1 : K.lookup f1 = some ⟨oc1, od1, .func (PySem.W.fnOf "_law_cell_at" "_law_cell_at" (defArgs s_law_cell_at) (defBody s_law_cell_at) (defScope s_law_cell_at) .none kV1 dc1 pm1 an1 cd1 ct1), sl1⟩) (c1 : PySem.W.codeIn K cd1 "_law_cell_at" = true) (k1 : PySem.W.keepIn K (.ref f1) = true)
    (a2 : PySem.W.nsIn K mainGlobals "_law_kinds" = some (some (.ref f2))) (l2 : K.lookup f2 = some ⟨oc2, od2, .func (PySem.W.fnOf "_law_kinds" "_law_kinds" (defArgs s_law_kinds) (defBody s_law_kinds) (defScope s_law_kinds) .none kV2 dc2 pm2 an2 cd2 ct2), sl2⟩) (c2 : PySem.W.codeIn K cd2 "_law_kinds" = true) (k2 : PySem.W.keepIn K (.ref f2) = true)
    (a3 : PySem.W.nsIn K mainGlobals "law" = some (some (.ref f3))) (l3 : K.lookup f3 = some ⟨oc3, od3, .func (PySem.W.fnOf "law" "law" (defArgs s_law) (defBody s_law) (defScope s_law) .none kV3 dc3 pm3 an3 cd3 ct3), sl3⟩) (c3 : PySem.W.codeIn K cd3 "law" = true) (k3 : PySem.W.keepIn K (.ref f3) = true)
    (z_len : PySem.W.nsIn K mainGlobals "len" = some none)
    (z_range : PySem.W.nsIn K mainGlobals "range" = some none)
    (z_isinstance : PySem.W.nsIn K mainGlobals "isinstance" = some none)
    (z_bool : PySem.W.nsIn K mainGlobals "bool" = some none)
    (z_int : PySem.W.nsIn K mainGlobals "int" = some none)
    (z_ValueError : PySem.W.nsIn K mainGlobals "ValueError" = some none)
    (t_ii : PySem.W.kitOne K (.type "int") (.type "int") = some true)
    (t_ib : PySem.W.kitOne K (.type "int") (.type "bool") = some false)
    (xe_Absent : excAt K C_Absent none = true)
    (xe_Beside : excAt K C_Beside none = true)
    (xe_NoChoice : excAt K C_NoChoice none = true)
    (xe_NoRow : excAt K C_NoRow none = true)
    (xe_NoSign : excAt K C_NoSign none = true)
    (xe_NoWord : excAt K C_NoWord none = true)
    (xe_Twice : excAt K C_Twice none = true)
    (xc_Absent : xcIn K C_Absent = true)
    (xc_Beside : xcIn K C_Beside = true)
    (xc_NoChoice : xcIn K C_NoChoice = true)
    (xc_NoRow : xcIn K C_NoRow = true)
    (xc_NoSign : xcIn K C_NoSign = true)
    (xc_NoWord : xcIn K C_NoWord = true)
    (xc_Twice : xcIn K C_Twice = true)
    (xc_NoText : xcIn K C_NoText = true)
    (xr : PySem.W.findIn K (.ref C_NoText) "row" = some none)
    (xsp : PySem.W.specialIn K (.ref C_AheadError) "__getattribute__" = some (some (.builtin "type.__getattribute__")))
    (xrd : PySem.W.readsIn K C_AheadError (.type "type") = true)
    (xfc : PySem.W.findCls K (.ref C_AheadError) (.type "type") "__init__" = some (.val (.builtin "ValueError.__init__")))
    (xks : kitsIn K C_AheadError [C_Absent, C_Beside, C_NoChoice, C_NoRow, C_NoSign, C_NoWord, C_Twice, C_NoText] = true)
    (xe7 : excAt K C_NoText (some (.ref fni)) = true) :
    ∃ fd : FuncData, (∀ (s : Shared) (v : Value), BindsTo s fd ⟨[v], []⟩ [("_law_script", v)]) ∧ ∀ base : Heap, K.In base → base.Ns mainGlobals mg → FnOk l.prog w K mg base CX0 3 fa fd ["_law_script"] (lSp K spLaw) := by
  have e := hfa.symm.trans (PySem.W.mg_of X G a3)
  cases e
  have T : Txt K mg C_AheadError C_Absent C_Beside C_NoChoice C_NoRow C_NoSign C_NoWord C_Twice C_NoText := ⟨PySem.W.mg_none_of X G z_len, PySem.W.mg_none_of X G z_range, PySem.W.mg_none_of X G z_isinstance, PySem.W.mg_none_of X G z_bool, PySem.W.mg_none_of X G z_int, PySem.W.mg_none_of X G z_ValueError, t_ii, t_ib, PySem.W.mg_of X G aC_AheadError, PySem.W.mg_of X G aC_Absent, PySem.W.mg_of X G aC_Beside, PySem.W.mg_of X G aC_NoChoice, PySem.W.mg_of X G aC_NoRow, PySem.W.mg_of X G aC_NoSign, PySem.W.mg_of X G aC_NoWord, PySem.W.mg_of X G aC_Twice, PySem.W.mg_of X G aC_NoText, xe_Absent, xe_Beside, xe_NoChoice, xe_NoRow, xe_NoSign, xe_NoWord, xe_Twice, XC.of xc_Absent, XC.of xc_Beside, XC.of xc_NoChoice, XC.of xc_NoRow, XC.of xc_NoSign, XC.of xc_NoWord, XC.of xc_Twice, XC.of xc_NoText, xr, xsp, xrd, xfc, xks⟩
  have Fni : FunD K "__init__" "NoText.__init__" s_NoText_init fni _ := ⟨⟨_, _, _, _, _, _, _, _, _, _, rfl, lni, cni⟩⟩
  have Bni : Binds K (PySem.W.fnOf "__init__" "NoText.__init__" (defArgs s_NoText_init) (defBody s_NoText_init) (defScope s_NoText_init) .none kVni dcni pmni anni cdni ctni) ["self", "row"] [] := .all fun us hl => match us, hl with | [_, _], _ => rfl
  have F1 := fun_mk (st := s_law_cell_at) l1 c1 k1
  have D1 : Df K mg "_law_cell_at" f1 _ ["_law_script", "_law_k"] := ⟨PySem.W.mg_of X G a1, k1, F1.binds (ps := ["_law_script", "_law_k"]) fun _ _ _ _ _ _ us hl => match us, hl with | [_, _], _ => rfl⟩
  have F2 := fun_mk (st := s_law_kinds) l2 c2 k2
  have D2 : Df K mg "_law_kinds" f2 _ ["_law_e"] := ⟨PySem.W.mg_of X G a2, k2, F2.binds (ps := ["_law_e"]) fun _ _ _ _ _ _ us hl => match us, hl with | [_], _ => rfl⟩
  have F3 := fun_mk (st := s_law) l3 c3 k3
  refine ⟨PySem.W.fnOf "law" "law" (defArgs s_law) (defBody s_law) (defScope s_law) .none kV3 dc3 pm3 an3 cd3 ct3, fun s v => .of_eq rfl, fun base _ _ => ?_⟩
  have G1 := ok_cell (P := l.prog) (w := w) (mg := mg) (base := base) F1 T
  have G2 := ok_kinds (P := l.prog) (w := w) (mg := mg) (base := base) F2 T
  have Gni := ok_init (P := l.prog) (w := w) (mg := mg) (base := base) Fni T xe7
  exact ok_law F3 T G1 D1 G2 D2 xe7 ini Gni Bni
theorem walk {l : PySem.W.OpenLaw} {q : Program} {loose : List Str} {XP : (Str → Option Value) → Heap → Prop} {YP : World → Heap → Prop} {d : DefRec} {K : Params → PySem.W.Frag} (hn : l.most = some 63) (hdf : d.params.defaults = [])
    (hY : ∀ (w : World) (h : Heap), YP w h → (K w.params).In h)
    (F : ∀ (w : World) (mg : Str → Option Value) (fa : Addr) (h : Heap), (K w.params).In h → h.Ns mainGlobals mg → mg d.name = some (.ref fa) →
      ∃ fd : FuncData, (∀ (s : Shared) (u : Value), BindsTo s fd ⟨[u], []⟩ [("_law_script", u)]) ∧ ∀ base : Heap, (K w.params).In base → base.Ns mainGlobals mg → FnOk l.prog w (K w.params) mg base CX0 3 fa fd ["_law_script"] (T2.lSp (K w.params) spLaw)) :
    PySem.W.WalkO q loose XP YP l.row.toRowW d [] (fun f vs => PySem.call f vs) :=
  L2.walk_of (n := 63) (k := 3) (x := "_law_script") (CX := fun _ => CX0) (sp := fun w => T2.lSp (K w.params) spLaw) hn (by decide) hdf ⟨rfl, by decide, by decide⟩ hY F (fun _ _ a ns hl hO hS => law_start hl hO hS) fun _ _ _ _ _ z => z
end My
open PySem PySem.W PyProof.Rows
set_option maxRecDepth 100000 in
set_option maxHeartbeats 0 in
theorem PySem.Challenge.cw_aheadword_k12_refusals_apart_holds : PySem.Challenge.rw_aheadword_k12_refusals_apart.Holds := by
  w_on; o_law; k_head; (case hw => w_witness2)
  k_fill
  refine My.walk (l := PySem.Challenge.rw_aheadword_k12_refusals_apart) rfl rfl (fun w h Y => PySem.W.kIn_of Y) ?F
  case F =>
    intro w mg fa h KX G hmg
    refine' My.all_mk KX G hmg ?aC_AheadError ?aC_Absent ?aC_Beside ?aC_NoChoice ?aC_NoRow ?aC_NoSign ?aC_NoWord ?aC_Twice ?aC_NoText ?ani ?ini ?lni ?cni ?kni ?a1 ?l1 ?c1 ?k1 ?a2 ?l2 ?c2 ?k2 ?a3 ?l3 ?c3 ?k3 ?z_len ?z_range ?z_isinstance ?z_bool ?z_int ?z_ValueError ?t_ii ?t_ib ?xe_Absent ?xe_Beside ?xe_NoChoice ?xe_NoRow ?xe_NoSign ?xe_NoWord ?xe_Twice ?xc_Absent ?xc_Beside ?xc_NoChoice ?xc_NoRow ?xc_NoSign ?xc_NoWord ?xc_Twice ?xc_NoText ?xr ?xsp ?xrd ?xfc ?xks ?xe7
    (case aC_AheadError => k_is); (case aC_Absent => k_is); (case aC_Beside => k_is); (case aC_NoChoice => k_is); (case aC_NoRow => k_is); (case aC_NoSign => k_is); (case aC_NoWord => k_is); (case aC_Twice => k_is); (case aC_NoText => k_is); (case ani => k_is); (case ini => k_is); (case lni => k_is); (case cni => k_is); (case kni => k_is); (case a1 => k_is); (case l1 => k_is); (case c1 => k_is); (case k1 => k_is); (case a2 => k_is); (case l2 => k_is); (case c2 => k_is); (case k2 => k_is); (case a3 => k_is); (case l3 => k_is); (case c3 => k_is); (case k3 => k_is); (case z_len => k_is); (case z_range => k_is); (case z_isinstance => k_is); (case z_bool => k_is); (case z_int => k_is); (case z_ValueError => k_is); (case t_ii => kit_is); (case t_ib => kit_is); (case xe_Absent => kernel_rfl); (case xe_Beside => kernel_rfl); (case xe_NoChoice => kernel_rfl); (case xe_NoRow => kernel_rfl); (case xe_NoSign => kernel_rfl); (case xe_NoWord => kernel_rfl); (case xe_Twice => kernel_rfl); (case xc_Absent => kernel_rfl); (case xc_Beside => kernel_rfl); (case xc_NoChoice => kernel_rfl); (case xc_NoRow => kernel_rfl); (case xc_NoSign => kernel_rfl); (case xc_NoWord => kernel_rfl); (case xc_Twice => kernel_rfl); (case xc_NoText => kernel_rfl); (case xr => kernel_rfl); (case xsp => kernel_rfl); (case xrd => kernel_rfl); (case xfc => kernel_rfl); (case xks => kernel_rfl); (case xe7 => kernel_rfl)

