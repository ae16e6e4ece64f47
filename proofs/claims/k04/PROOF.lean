import PyProof.Rows.All
import Wide.All
import OpenK.AllK
import Wide.FinOn
import PyProof.EqAt
import PyProof.EqKinds
import PyProof.TupleCall
import KE.BitLaws
import KE.KNest
import KE.KRevSl
import KE.KNestM
import OpenK.XHead
import KE.KSortTup
import KE.KDictSum
import PySem.Challenge.RW_laterletters_k04_whole_handed
set_option Elab.async false
set_option linter.all false
set_option maxRecDepth 100000
/-! THE HAND LAYER, for ints, bools, texts, own classes, lists, tuples, dicts, comprehensions, walks over dicts, enumerate, zip, reversed, texts, calls, loops. Paste it whole ahead of your own text; what your proof does not reach may be deleted. -/
namespace L2
open PySem PySem.Spec PyProof.Rows

/-- a key: an int or a str -/
abbrev Key := Sum Int Str
def keyIs : Key → Value → Bool
  | .inl k, v => Value.isInt k v
  | .inr x, v => Value.isStrOf x v
def keyH (w : World) : Key → Int
  | .inl k => hashInt k
  | .inr x => hashStr w x
theorem keyIs_shape : ∀ {k : Key} {v : Value}, keyIs k v = true → (∃ i t, k = Sum.inl i ∧ v = Value.int i t) ∨ (∃ x t, k = Sum.inr x ∧ v = Value.str x t)
  | .inl i, v, h => by
    obtain ⟨t, e⟩ := Value.isInt_shape (k := i) (v := v) h
    exact .inl ⟨i, t, rfl, e⟩
  | .inr x, v, h => by
    obtain ⟨t, e⟩ := Value.isStrOf_shape (x := x) (v := v) h
    exact .inr ⟨x, t, rfl, e⟩
theorem key_ll (a b : Int) : decide ((Sum.inl a : Key) = Sum.inl b) = (a == b) := by
  by_cases e : a = b
  · subst e; simp
  · have h : ¬ (Sum.inl a : Key) = Sum.inl b := fun q => e (Sum.inl.inj q)
    rw [decide_eq_false h]
    exact (beq_eq_false_iff_ne.mpr e).symm
theorem key_rr (a b : Str) : decide ((Sum.inr a : Key) = Sum.inr b) = decide (a = b) := by
  by_cases e : a = b
  · subst e; simp
  · have h : ¬ (Sum.inr a : Key) = Sum.inr b := fun q => e (Sum.inr.inj q)
    rw [decide_eq_false h, decide_eq_false e]
theorem key_lr (a : Int) (b : Str) : decide ((Sum.inl a : Key) = Sum.inr b) = false := decide_eq_false (fun q => nomatch q)
theorem key_rl (a : Str) (b : Int) : decide ((Sum.inr a : Key) = Sum.inl b) = false := decide_eq_false (fun q => nomatch q)

def mixKind (prog : Program) (w : World) : PySem.KeyKind prog w Key where
  is := keyIs
  hash := keyH w
  inj := fun v a b ha hb => by
    rcases keyIs_shape ha with ⟨i, t, rfl, rfl⟩ | ⟨x, t, rfl, rfl⟩
    · rcases keyIs_shape hb with ⟨j, u, rfl, e⟩ | ⟨y, u, rfl, e⟩
      · injection e with e1 _; rw [e1]
      · exact nomatch e
    · rcases keyIs_shape hb with ⟨j, u, rfl, e⟩ | ⟨y, u, rfl, e⟩
      · exact nomatch e
      · injection e with e1 _; rw [e1]
  byValue := fun k v h => by
    rcases keyIs_shape h with ⟨i, t, rfl, rfl⟩ | ⟨x, t, rfl, rfl⟩ <;> rfl
  pyHash := fun hv h => by
    rcases keyIs_shape hv with ⟨i, t, rfl, rfl⟩ | ⟨x, t, rfl, rfl⟩
    · exact wpAny_pyHash_int h
    · exact wpAny_pyHash_str h
  eqBool := fun hu hv h => by
    rcases keyIs_shape hu with ⟨i, t, rfl, rfl⟩ | ⟨x, t, rfl, rfl⟩
    · rcases keyIs_shape hv with ⟨j, u, rfl, rfl⟩ | ⟨y, u, rfl, rfl⟩
      · rw [key_ll] at h; exact wpAny_eqBool_int h
      · rw [key_lr] at h; exact SeqAt.EqAt.int_str i t y u _ _ _ _ h
    · rcases keyIs_shape hv with ⟨j, u, rfl, rfl⟩ | ⟨y, u, rfl, rfl⟩
      · rw [key_rl] at h; exact SeqAt.EqAt.str_int x t j u _ _ _ _ h
      · rw [key_rr] at h; exact wpAny_eqBool_str h
  «strs» := fun k x t v h => by
    rcases keyIs_shape h with ⟨i, u, rfl, e⟩ | ⟨y, u, rfl, e⟩
    · exact nomatch e
    · injection e with e1 _
      subst e1
      cases v <;> rfl

end L2

namespace L2
open PySem PySem.Spec PyProof.Rows

/-- a value, without the heap -/
inductive V where
  | non | bl (b : Bool) | int (i : Int) | str (x : Str) | byt (b : Array UInt8) | flt (b : UInt64) | ref (a : Addr) | ty (n : String)
  deriving DecidableEq

def RelV : V → Value → Prop
  | .non, u => u = Value.none
  | .bl b, u => u = Value.bool b
  | .int i, u => ∃ t, u = Value.int i t
  | .str x, u => ∃ t, u = Value.str x t
  | .byt b, u => ∃ t, u = Value.bytes b t
  | .flt b, u => ∃ t, u = Value.float b t
  | .ref a, u => u = Value.ref a
  | .ty n, u => u = Value.type n

abbrev Vals : List V → List Value → Prop := Paired RelV
theorem Vals.length {xs : List V} {us : List Value} (r : Vals xs us) : xs.length = us.length := Paired.length r
theorem Vals.get : ∀ {xs : List V} {us : List Value} {i : Nat} {x : V}, Vals xs us → xs[i]? = some x → ∃ u, us[i]? = some u ∧ RelV x u
  | _, _, _, _, .nil, e => by simp at e
  | _, _, 0, _, .cons r _, e => by simp at e; subst e; exact ⟨_, rfl, r⟩
  | _, _, i + 1, x, .cons _ t, e => by
    obtain ⟨u, h1, h2⟩ := Vals.get (i := i) (x := x) t (by simpa using e)
    exact ⟨u, by simpa using h1, h2⟩
theorem Vals.set {x : V} {u : Value} (r : RelV x u) : ∀ {xs : List V} {us : List Value} (i : Nat), Vals xs us → Vals (xs.set i x) (us.set i u)
  | _, _, _, .nil => .nil
  | _, _, 0, .cons _ t => .cons r t
  | _, _, i + 1, .cons q t => .cons q (Vals.set r i t)
theorem Vals.append : ∀ {xs ys : List V} {us ws : List Value}, Vals xs us → Vals ys ws → Vals (xs ++ ys) (us ++ ws)
  | _, _, _, _, .nil, s => s
  | _, _, _, _, .cons r t, s => .cons r (Vals.append t s)
theorem Vals.take : ∀ {xs : List V} {us : List Value} (n : Nat), Vals xs us → Vals (xs.take n) (us.take n)
  | _, _, 0, _ => .nil
  | _, _, _ + 1, .nil => .nil
  | _, _, n + 1, .cons r t => .cons r (Vals.take n t)
theorem Vals.drop : ∀ {xs : List V} {us : List Value} (n : Nat), Vals xs us → Vals (xs.drop n) (us.drop n)
  | _, _, 0, r => r
  | _, _, _ + 1, .nil => .nil
  | _, _, n + 1, .cons _ t => Vals.drop n t
def RelO : Option V → Option Value → Prop
  | some v, some u => RelV v u
  | none, none => True
  | _, _ => False
def KV {κ : Type} : List (κ × V) → List (κ × Value) → Prop := Paired fun (p : κ × V) (q : κ × Value) => p.1 = q.1 ∧ RelV p.2 q.2

/-- a key of a dict (00_mix): an int or a text -/
def kV : Key → V
  | .inl i => .int i
  | .inr x => .str x

/-- what stands at a tracked address -/
inductive HO where
  /-- a list -/
  | lst (xs : List V)
  /-- a tuple (never changes) -/
  | tup (xs : List V)
  /-- a dict whose keys are ints and texts; one whose keys are tuples of ints and texts (the empty one is both) -/
  | dK (kvs : List (Key × V)) | dT (kvs : List (List Key × V))
  /-- a set of ints: its members, its size -/
  | set (S : Int → Bool) (n : Nat)
  /-- an instance of the class at C, its dict at dx, its attributes -/
  | ins (C dx : Addr) (fs : List (Str × V))
  /-- the dict of the instance at x -/
  | own (x : Addr)
  /-- the dict of an exception -/
  | xd (fs : List (Str × V))
  /-- a bound method, f of x -/
  | met (f x : Addr)
  /-- a range object lo, lo + 1, .. below hi -/
  | rng (lo hi : Int)
  /-- a thing that is known to the object (the script; a dict while a loop walks it): read, never written while it is so -/
  | frz (o : Obj) (u : HO)
  /-- a code object's table -/
  | tbl (ps : Array Value)
  /-- any other thing, by what is true of its one object (a def of one's own: SetO a S n := HO.ext fun h => ..) -/
  | ext (φ : Heap → Prop)

abbrev Hp := Addr → Option HO
def upd (H : Hp) (a : Addr) (o : HO) : Hp := fun b => if b = a then some o else H b
theorem upd_same {H : Hp} {a : Addr} {o : HO} : upd H a o a = some o := by unfold upd; rw [if_pos rfl]
theorem upd_ne {H : Hp} {a b : Addr} {o : HO} (h : b ≠ a) : upd H a o b = H b := by unfold upd; rw [if_neg h]
theorem ne_of_none {H : Hp} {a b : Addr} {o : HO} (h : H a = some o) (h' : H b = none) : a ≠ b := by
  intro e; subst e; rw [h] at h'; cases h'

section
variable (P : Program) (w : World)
def ObjOk (H : Hp) (h : Heap) (a : Addr) : HO → Prop
  | .lst xs => xs.length ≤ sizeLine ∧ ∃ (its : List Value) (n : Nat), Vals xs its ∧ h.get? a = some { cls := .type "list", data := .seq its.toArray n }
  | .tup xs => xs.length ≤ sizeLine ∧ ∃ its : List Value, Vals xs its ∧ IsTup h a its.toArray
  | .dK kvs => kvs.length ≤ sizeLine ∧ (a == sysModules) = false ∧ ∃ vs, KV kvs vs ∧ h.DictOf (mixKind P w) a vs
  | .dT kvs => kvs.length ≤ sizeLine ∧ (a == sysModules) = false ∧ ∃ xs : List (List Key × Addr × Value),
      Paired (fun (p : List Key × V) (q : List Key × Addr × Value) => p.1 = q.1 ∧ H q.2.1 = some (.tup (p.1.map kV)) ∧ RelV p.2 q.2.2) kvs xs ∧
      ∃ o es ep, h.get? a = some o ∧ o.ExactDict ∧ o.data = .dict es ep ∧ es.toList = xs.map (entryOfKey (tupleKind (mixKind P w))) ∧ (xs.map (·.1)).Nodup
  | .set S n => h.SetOf (intKind P w) a S n
  | .ins C dx fs => H dx = some (.own a) ∧ fs.length ≤ 1000 ∧ dx ≠ a ∧ h.get? a = some (PySem.W.instObj C dx) ∧
      ∃ mA, h.Ns1 dx mA ∧ (∀ f, RelO (fs.lookup f) (mA f)) ∧ PySem.Within mA (fs.map (·.1))
  | .own _ => ∃ o, h.get? a = some o
  | .xd fs => ∃ mA, h.Ns1 a mA ∧ ∀ f, RelO (fs.lookup f) (mA f)
  | .rng lo hi => ∃ t u v, h.get? a = some { cls := .type "range", data := .fields #[.int lo t, .int hi u, .int 1 v] }
  | .frz o u => h.get? a = some o ∧ ObjOk H h a u
  | .tbl ps => h.get? a = some { cls := .none, data := .fields ps }
  | .met f x => h.get? a = some (PySem.W.methodObj (.ref f) (.ref x))
  | .ext φ => φ h ∧ (∃ o, h.get? a = some o) ∧ ∀ h1 h2 : Heap, φ h1 → (∀ o, h1.get? a = some o → h2.get? a = some o) → φ h2
/-- the abstract heap is held -/
def HOk (H : Hp) (h : Heap) : Prop := ∀ a o, H a = some o → ObjOk P w H h a o
end

section
variable {P : Program} {w : World} {H H' : Hp} {h h' : Heap} {a : Addr} {o : HO}
theorem ObjOk.lt (x : ObjOk P w H h a o) : a < h.objs.size := by
  cases o with
  | lst xs => obtain ⟨_, _, _, _, e⟩ := x; exact Heap.lt_size e
  | tup xs => obtain ⟨_, _, _, p⟩ := x; exact p.lt
  | dK kvs => obtain ⟨_, _, _, _, o, _, _, e, _⟩ := x; exact Heap.lt_size e
  | dT kvs => obtain ⟨_, _, _, _, o, _, _, e, _⟩ := x; exact Heap.lt_size e
  | set S n => obtain ⟨o, _, _, _, e, _⟩ := x; exact Heap.lt_size e
  | ins C dx fs => obtain ⟨_, _, _, e, _⟩ := x; exact Heap.lt_size e
  | own y => obtain ⟨_, e⟩ := x; exact Heap.lt_size e
  | xd fs => obtain ⟨_, ⟨_, _, _, e, _⟩, _⟩ := x; exact Heap.lt_size e
  | rng lo hi => obtain ⟨_, _, _, e⟩ := x; exact Heap.lt_size e
  | frz ob u => obtain ⟨e, _⟩ := x; exact Heap.lt_size e
  | tbl ps => exact Heap.lt_size (show h.get? a = some _ from x)
  | met f y => exact Heap.lt_size (show h.get? a = some _ from x)
  | ext φ => obtain ⟨_, ⟨_, e⟩, _⟩ := x; exact Heap.lt_size e
theorem Paired.mapP {α β : Type} {F G : α → β → Prop} : ∀ {l₁ : List α} {l₂ : List β}, Paired F l₁ l₂ → (∀ a b, F a b → G a b) → Paired G l₁ l₂
  | _, _, .nil, _ => .nil
  | _, _, .cons r t, f => .cons (f _ _ r) (Paired.mapP t f)
/-- what an object's description leans on: its own object, its own dict, the tuples -/
theorem ObjOk.stay (x : ObjOk P w H h a o) (k : ∀ b u, (b = a ∨ H b = some (.own a)) → h.get? b = some u → h'.get? b = some u)
    (ho : ∀ b, H b = some (.own a) → H' b = some (.own a)) (ht : ∀ b xs, H b = some (.tup xs) → H' b = some (.tup xs)) : ObjOk P w H' h' a o := by
  induction o with
  | lst xs => obtain ⟨z, its, n, r, e⟩ := x; exact ⟨z, its, n, r, k _ _ (.inl rfl) e⟩
  | tup xs => obtain ⟨z, its, r, ob, e, c⟩ := x; exact ⟨z, its, r, ob, k _ _ (.inl rfl) e, c⟩
  | dK kvs => obtain ⟨z, y, vs, r, ob, es, ep, e, c⟩ := x; exact ⟨z, y, vs, r, ob, es, ep, k _ _ (.inl rfl) e, c⟩
  | dT kvs =>
    obtain ⟨z, y, xs, r, ob, es, ep, e, c⟩ := x
    exact ⟨z, y, xs, Paired.mapP r fun p q z => ⟨z.1, ht _ _ z.2.1, z.2.2⟩, ob, es, ep, k _ _ (.inl rfl) e, c⟩
  | set S n => obtain ⟨ob, es, ep, t, e, c⟩ := x; exact ⟨ob, es, ep, t, k _ _ (.inl rfl) e, c⟩
  | ins C dx fs =>
    obtain ⟨d, z, ne, e, mA, ⟨od, es, ep, e2, c⟩, r⟩ := x
    exact ⟨ho _ d, z, ne, k _ _ (.inl rfl) e, mA, ⟨od, es, ep, k _ _ (.inr d) e2, c⟩, r⟩
  | own y => obtain ⟨ob, e⟩ := x; exact ⟨ob, k _ _ (.inl rfl) e⟩
  | xd fs => obtain ⟨mA, ⟨od, es, ep, e, c⟩, r⟩ := x; exact ⟨mA, ⟨od, es, ep, k _ _ (.inl rfl) e, c⟩, r⟩
  | rng lo hi => obtain ⟨t, u, v, e⟩ := x; exact ⟨t, u, v, k _ _ (.inl rfl) e⟩
  | frz ob u ih => obtain ⟨e, q⟩ := x; exact ⟨k _ _ (.inl rfl) e, ih q⟩
  | tbl ps =>
    have e : h.get? a = some { cls := .none, data := .fields ps } := x
    show h'.get? a = some { cls := .none, data := .fields ps }
    exact k a _ (.inl rfl) e
  | met f y =>
    have e : h.get? a = some (PySem.W.methodObj (.ref f) (.ref y)) := x
    show h'.get? a = some (PySem.W.methodObj (.ref f) (.ref y))
    exact k a _ (.inl rfl) e
  | ext φ => obtain ⟨p, ⟨o, e⟩, st⟩ := x; exact ⟨st _ _ p fun o q => k _ _ (.inl rfl) q, ⟨o, k _ _ (.inl rfl) e⟩, st⟩
theorem HOk.lt (x : HOk P w H h) (e : H a = some o) : a < h.objs.size := (x a o e).lt
theorem HOk.fresh (x : HOk P w H h) (e : h.objs.size ≤ a) : H a = none := by
  cases q : H a with
  | none => rfl
  | some u => exact absurd (Nat.lt_of_lt_of_le (x.lt q) e) (Nat.lt_irrefl _)
/-- every object of the heap is kept -/
theorem HOk.kept (x : HOk P w H h) (k : ∀ b u, h.get? b = some u → h'.get? b = some u) : HOk P w H h' := fun a o e =>
  (x a o e).stay (fun b u _ q => k b u q) (fun _ q => q) fun _ _ q => q
/-- a new object is laid and tracked -/
theorem HOk.laid (x : HOk P w H h) (k : ∀ b u, h.get? b = some u → h'.get? b = some u) (hp : h.objs.size ≤ a) (new : ObjOk P w (upd H a o) h' a o) : HOk P w (upd H a o) h' := fun b u e => by
  have hn := x.fresh hp
  by_cases hb : b = a
  · subst hb; rw [upd_same] at e; cases e; exact new
  · rw [upd_ne hb] at e
    exact (x b u e).stay (fun c v _ q => k c v q) (fun c q => by rw [upd_ne (ne_of_none q hn)]; exact q) fun c xs q => by rw [upd_ne (ne_of_none q hn)]; exact q
end

/-- what may be read as u: it is u, or a known u -/
def Rd (H : Hp) (a : Addr) (u : HO) : Prop := H a = some u ∨ ∃ o, H a = some (.frz o u)
theorem Rd.of {H : Hp} {a : Addr} {u : HO} (h : H a = some u) : Rd H a u := .inl h
theorem Rd.ok {P : Program} {w : World} {H : Hp} {h : Heap} {a : Addr} {u : HO} (r : Rd H a u) (x : HOk P w H h) : ObjOk P w H h a u := by
  rcases r with r | ⟨o, r⟩
  · exact x a u r
  · obtain ⟨_, q⟩ := x a _ r
    exact q
/-- what may be written -/
def Mut : Option HO → Prop
  | some (.lst _) => True
  | some (.dK _) => True
  | some (.dT _) => True
  | some (.set _ _) => True
  | some (.ins _ _ _) => True
  | some (.ext _) => True
  | _ => False
section
variable {P : Program} {w : World} {H : Hp} {h h' : Heap} {x e : Addr} {o' : HO}
/-- the object at e is changed: x itself, or the dict of the instance x -/
theorem HOk.write (ok : HOk P w H h) (mu : Mut (H x)) (he : e = x ∨ H e = some (.own x)) (k : ∀ b u, b ≠ e → h.get? b = some u → h'.get? b = some u) (heo : ∃ u, h'.get? e = some u)
    (new : ObjOk P w (upd H x o') h' x o') : HOk P w (upd H x o') h' := fun b u q => by
  have nown : ∀ c y, H c = some (.own y) → c ≠ x := fun c y r z => by subst z; rw [r] at mu; exact mu
  have ntup : ∀ c xs, H c = some (.tup xs) → c ≠ x := fun c xs r z => by subst z; rw [r] at mu; exact mu
  by_cases hb : b = x
  · subst hb; rw [upd_same] at q; cases q; exact new
  · rw [upd_ne hb] at q
    by_cases hbe : b = e
    · have q' : H b = some (.own x) := by
        rcases he with z | z
        · exact absurd (hbe.trans z) hb
        · rw [hbe]; exact z
      rw [q] at q'; cases q'
      obtain ⟨v, hv⟩ := heo
      exact ⟨v, by rw [hbe]; exact hv⟩
    · refine (ok b u q).stay (fun c v hc r => k c v ?_ r) (fun c r => by rw [upd_ne (nown c b r)]; exact r) fun c xs r => by rw [upd_ne (ntup c xs r)]; exact r
      rcases hc with rfl | hc
      · exact hbe
      · rintro rfl
        rcases he with z | z
        · exact nown c b hc z
        · rw [hc] at z; cases z; exact hb rfl
end

/-! ### kept unless tracked; of the frames at fs (the callers') the slots may change (an exception that passes writes there); of the records at ex (iterators) nothing is said -/
structure Un (fs ex : List Addr) (H H' : Hp) (h h' : Heap) : Prop where
  keep : ∀ b o, h.get? b = some o → H b = none → b ∉ fs → b ∉ ex → h'.get? b = some o
  slot : ∀ b o, h.get? b = some o → H b = none → b ∈ fs → b ∉ ex → ∃ sl, h'.get? b = some { o with slots := sl }
  free : ∀ b o, h.get? b = some o → H b = none → b ∉ ex → H' b = none
  there : ∀ b o, h.get? b = some o → b ∉ ex → ∃ o', h'.get? b = some o'
  tups : ∀ b xs, H b = some (.tup xs) → H' b = some (.tup xs)
  frzs : ∀ b o u, H b = some (.frz o u) → H' b = some (.frz o u)
  tbls : ∀ b ps, H b = some (.tbl ps) → ∃ more, H' b = some (.tbl (ps ++ more))
section
variable {fs fs' ex ex' : List Addr} {H H1 H2 : Hp} {h h1 h2 h' : Heap} {a x e : Addr} {o : HO}
theorem Un.any (u : Un fs ex H H1 h h1) {b : Addr} {ob : Obj} (q : h.get? b = some ob) (n : H b = none) (hx : b ∉ ex) : ∃ sl, h1.get? b = some { ob with slots := sl } := by
  by_cases hb : b ∈ fs
  · exact u.slot b ob q n hb hx
  · exact ⟨ob.slots, u.keep b ob q n hb hx⟩
theorem Un.trans (a : Un fs ex H H1 h h1) (b : Un fs ex H1 H2 h1 h2) : Un fs ex H H2 h h2 where
  keep := fun c ob q n hc hx => b.keep c ob (a.keep c ob q n hc hx) (a.free c ob q n hx) hc hx
  slot := fun c ob q n hc hx => by
    obtain ⟨sl, e1⟩ := a.slot c ob q n hc hx
    obtain ⟨sl', e2⟩ := b.slot c _ e1 (a.free c ob q n hx) hc hx
    exact ⟨sl', e2⟩
  free := fun c ob q n hx => by
    obtain ⟨o', e1⟩ := a.there c ob q hx
    exact b.free c o' e1 (a.free c ob q n hx) hx
  there := fun c ob q hx => by
    obtain ⟨o', e1⟩ := a.there c ob q hx
    exact b.there c o' e1 hx
  tups := fun c xs q => b.tups c xs (a.tups c xs q)
  frzs := fun c ob xs q => b.frzs c ob xs (a.frzs c ob xs q)
  tbls := fun c ps q => by
    obtain ⟨m1, e1⟩ := a.tbls c ps q
    obtain ⟨m2, e2⟩ := b.tbls c _ e1
    exact ⟨m1 ++ m2, by rw [e2, Array.append_assoc]⟩
theorem Un.kept (k : ∀ b u, h.get? b = some u → h'.get? b = some u) : Un fs ex H H h h' :=
  ⟨fun b ob q _ _ _ => k b ob q, fun b ob q _ _ _ => ⟨ob.slots, k b ob q⟩, fun _ _ _ n _ => n, fun b ob q _ => ⟨ob, k b ob q⟩, fun _ _ q => q, fun _ _ _ q => q, fun _ ps q => ⟨#[], by rw [q]; simp⟩⟩
theorem Un.refl : Un fs ex H H h h := Un.kept fun _ _ q => q
theorem Un.laid (k : ∀ b u, h.get? b = some u → h'.get? b = some u) (hp : h.objs.size ≤ a) (hn : H a = none) : Un fs ex H (upd H a o) h h' where
  keep := fun b u q _ _ _ => k b u q
  slot := fun b u q _ _ _ => ⟨u.slots, k b u q⟩
  free := fun b u q n _ => by rw [upd_ne (Nat.ne_of_lt (Nat.lt_of_lt_of_le (Heap.lt_size q) hp))]; exact n
  there := fun b u q _ => ⟨u, k b u q⟩
  tups := fun b xs q => by rw [upd_ne (ne_of_none q hn)]; exact q
  frzs := fun b u xs q => by rw [upd_ne (ne_of_none q hn)]; exact q
  tbls := fun b ps q => ⟨#[], by rw [upd_ne (ne_of_none q hn), q]; simp⟩
theorem Un.write (mu : Mut (H x)) (he : e = x ∨ H e = some (.own x)) (k : ∀ b u, b ≠ e → h.get? b = some u → h'.get? b = some u) (heo : ∃ u, h'.get? e = some u) : Un fs ex H (upd H x o) h h' := by
  have hx : ∀ b, H b = none → b ≠ x := fun b n z => by subst z; rw [n] at mu; exact mu
  have hb : ∀ b, H b = none → b ≠ e := fun b n z => by
    subst z
    rcases he with r | r
    · exact hx b n r
    · rw [n] at r; cases r
  have hm : ∀ b u, H b = some u → ¬ Mut (some u) → b ≠ x := fun b u q nm z => by subst z; rw [q] at mu; exact nm mu
  refine ⟨fun b u q n _ _ => k b u (hb b n) q, fun b u q n _ _ => ⟨u.slots, k b u (hb b n) q⟩, fun b u q n _ => by rw [upd_ne (hx b n)]; exact n, fun b u q _ => ?_,
    fun b xs q => by rw [upd_ne (hm b _ q fun z => z)]; exact q, fun b u xs q => by rw [upd_ne (hm b _ q fun z => z)]; exact q, fun b ps q => ⟨#[], by rw [upd_ne (hm b _ q fun z => z), q]; simp⟩⟩
  by_cases hbe : b = e
  · subst hbe; exact heo
  · exact ⟨u, k b u hbe q⟩
theorem Un.mono (u : Un fs ex H H1 h h1) (hs : ∀ b ∈ fs, b ∈ fs') (hx : ∀ b ∈ ex, b ∈ ex') : Un fs' ex' H H1 h h1 :=
  ⟨fun b ob q n hb he => u.keep b ob q n (fun z => hb (hs b z)) fun z => he (hx b z), fun _ _ q n _ he => u.any q n fun z => he (hx _ z), fun b ob q n he => u.free b ob q n fun z => he (hx b z), fun b ob q he => u.there b ob q fun z => he (hx b z), u.tups, u.frzs, u.tbls⟩
end

/-! ### the heap without what is tracked -/
def trk (h : Heap) (H : Hp) : List Addr := (List.range h.objs.size).filter fun a => (H a).isSome
def hidT (h : Heap) (H : Hp) : Heap := PySem.W.hideAll h (trk h H)
theorem hidT_size (h : Heap) (H : Hp) : (hidT h H).objs.size = h.objs.size := PySem.W.hideAll_size _ _
theorem hidT_get {h : Heap} {H : Hp} {b : Addr} {o : Obj} (e : h.get? b = some o) (n : H b = none) : (hidT h H).get? b = some o :=
  PySem.W.hideAll_get _ e fun hm => by
    have q : (H b).isSome = true := (List.mem_filter.mp hm).2
    rw [n] at q; simp at q
theorem of_hidT {h : Heap} {H : Hp} {b : Addr} {o : Obj} (e : (hidT h H).get? b = some o) : h.get? b = some o ∧ H b = none := by
  have e' : h.get? b = some o := PySem.W.of_hideAll (trk h H) e
  refine ⟨e', ?_⟩
  cases q : H b with
  | none => rfl
  | some x =>
    have hm : b ∈ trk h H := List.mem_filter.mpr ⟨List.mem_range.mpr (Heap.lt_size e'), by simp [q]⟩
    have z : (hidT h H).get? b = none := PySem.W.hideAll_none (trk h H) hm
    rw [z] at e; cases e

/-! ### OpenK's ledger, filled with every new object but one -/
def allNews (g h : Heap) (L : Addr) : List (Addr × Obj) := (List.range h.objs.size).filterMap fun a => if a = L ∨ (g.get? a).isSome = true then none else (h.get? a).map fun o => (a, o)
def rest (g h : Heap) (L d : Addr) : List (Addr × Obj) := (allNews g h L).filter fun p => decide (p.1 ≠ d)
end L2

namespace L2
open PySem PySem.Spec PyProof.Rows

/-- the module's facts, over the base: the heap at the law's entry without what is tracked there -/
structure Mod (K : PySem.W.Frag) (mg : Str → Option Value) (base : Heap) : Prop where
  kin : K.In base
  glob : base.Ns mainGlobals mg
  blt : ∃ mb, base.Ns builtinsNs mb ∧ ∀ x : Str, x ≠ "__name__" → mb x = bootBuiltins x
  nolimit : base.NoLimit

/-- the context: a def's body (or a comprehension's block) running. base: fixed through the whole law; s₀, H₀: the entry; outer: the frames whose slots others may change (a def's callers); stack: all frames that run;
   ex: iterators that were made ahead of the entry and are walked here (a comprehension's); fn: the names whose cells were made at the entry (a def: all; a comprehension's block: its own); calm: not within an except suite; pn: pins that every state bears; xe: what is wanted of an exception that leaves the code -/
structure Cx where
  prog : Program
  w : World
  K : PySem.W.Frag
  mg : Str → Option Value
  base : Heap
  A : Around
  N : List Str
  s_0 : Shared
  H_0 : Hp
  env : Env
  outer : List Env
  stack : List Env
  ex : List Addr
  fn : Str → Bool
  calm : Bool
  pn : List (Addr × Obj)
  xe : Value → Shared → Prop
/-- the callers' frames -/
def frs (l : List Env) : List Addr := l.filterMap (·.frame)
abbrev Cx.fs (X : Cx) : List Addr := frs X.outer

def Vis (sc : Scope) (x : Str) : Prop := sc.names.lookup x = some .local ∨ sc.names.lookup x = some .cell ∨ sc.names.lookup x = some .free
def Loc (sc : Scope) (x : Str) : Prop := sc.names.lookup x = some .local ∨ sc.names.lookup x = some .cell
def Look (env : Env) (h : Heap) (m : Str → Option Value) (x : Str) (u : Value) : Prop :=
  (env.kindOf x = some .local ∧ m x = some u) ∨ ((env.kindOf x = some .cell ∨ env.kindOf x = some .free) ∧ ∃ c, env.cells.lookup x = some c ∧ h.IsCell c (some u))

structure Cx.Ok (X : Cx) : Prop where
  mod : Mod X.K X.mg X.base
  kind : X.env.scope.kind = .function
  glob : X.env.globals = mainGlobals
  blt : X.env.builtins = builtinsNs
  above : X.s_0.heap.objs.size ≤ X.env.locals
  inj : ∀ x y c, X.env.cells.lookup x = some c → X.env.cells.lookup y = some c → x = y
  has : ∀ x, (X.env.kindOf x = some .cell ∨ X.env.kindOf x = some .free) → ∃ c, X.env.cells.lookup x = some c
  cab : ∀ x c, X.fn x = true → X.env.cells.lookup x = some c → X.s_0.heap.objs.size ≤ c
  hd : X.calm = true → X.A.handled = none
  frames : X.A.frames = some X.stack
  stk : X.stack = X.outer ∨ (X.stack = X.env :: X.outer ∧ X.env.frame = some X.env.locals)
  exf : ∀ b ∈ X.ex, b ≠ X.env.locals ∧ ∀ x c, X.env.cells.lookup x = some c → c ≠ b
  bs : ∀ b o, X.base.get? b = some o → X.s_0.heap.get? b = some o ∧ X.H_0 b = none
  bsz : X.base.objs.size ≤ X.s_0.heap.objs.size
  noex : ∀ b o, X.base.get? b = some o → b ∉ X.ex
  exfs : ∀ b ∈ X.ex, b ∉ X.fs
  funs : X.s_0.heap.FunFrames X.base X.outer
  frf : ∀ b ∈ X.fs, X.H_0 b = none

structure Inv (X : Cx) (pins : List (Addr × Obj)) (σ : List (Option V)) (H : Hp) (s : Shared) : Prop where
  ok : X.Ok
  os : s.os = X.s_0.os
  bare : AllBare s.gens
  base : Un X.fs X.ex X.H_0 H X.s_0.heap s.heap
  loc : ∃ m, s.heap.Ns X.env.locals m ∧ ∀ (i : Nat) (x : Str) (v : V), X.N[i]? = some x → σ[i]? = some (some v) → Vis X.env.scope x → ∃ u, RelV v u ∧ Look X.env s.heap m x u
  cell : ∀ x c, X.env.cells.lookup x = some c → ∃ v, s.heap.IsCell c v
  free : H X.env.locals = none
  freeC : ∀ x c, X.env.cells.lookup x = some c → H c = none
  pin : ∀ p ∈ X.pn ++ pins, s.heap.get? p.1 = some p.2 ∧ H p.1 = none ∧ p.1 ≠ X.env.locals ∧ p.1 ∉ X.fs ∧ ∀ v, p.2.data ≠ .cell v
  hok : HOk X.prog X.w H s.heap
  len : σ.length = X.N.length

section
variable {X : Cx} {pins : List (Addr × Obj)} {σ : List (Option V)} {H H' : Hp} {s : Shared} {h' : Heap}

theorem Cx.Ok.nofr (ok : X.Ok) {b : Addr} {o : Obj} (e : X.base.get? b = some o) : b ∉ X.fs := fun hb => by
  have := (ok.funs.mem hb).1
  rw [e] at this; cases this
theorem Inv.bs (I : Inv X pins σ H s) : ∀ b o, X.base.get? b = some o → s.heap.get? b = some o ∧ H b = none := fun b o e =>
  ⟨I.base.keep b o (I.ok.bs b o e).1 (I.ok.bs b o e).2 (I.ok.nofr e) (I.ok.noex b o e), I.base.free b o (I.ok.bs b o e).1 (I.ok.bs b o e).2 (I.ok.noex b o e)⟩
theorem Inv.bk (I : Inv X pins σ H s) : ∀ b o, X.base.get? b = some o → s.heap.get? b = some o := fun b o e => (I.bs b o e).1
theorem Inv.mod (I : Inv X pins σ H s) : Mod X.K X.mg X.base := I.ok.mod
theorem Inv.kIn (I : Inv X pins σ H s) : X.K.In s.heap := I.ok.mod.kin.keeps I.bk
theorem Inv.nolimit (I : Inv X pins σ H s) : s.heap.NoLimit := I.ok.mod.nolimit.keeps I.bk
/-- the frame over the base: for OpenK's rules (K.In X.base is I.mod.kin) -/
theorem Inv.fr (I : Inv X pins σ H s) : ∃ m, Fr X.base X.env.locals s.heap m :=
  let ⟨m, hn, _⟩ := I.loc
  ⟨m, hn, I.bk, Nat.le_trans I.ok.bsz I.ok.above⟩
theorem Inv.lt (I : Inv X pins σ H s) : X.env.locals < s.heap.objs.size := let ⟨_, hn, _⟩ := I.loc; hn.lt
theorem Inv.sz (I : Inv X pins σ H s) : X.s_0.heap.objs.size ≤ s.heap.objs.size := Nat.le_trans I.ok.above (Nat.le_of_lt I.lt)
theorem Inv.nofs (I : Inv X pins σ H s) {a : Addr} (h : s.heap.objs.size ≤ a) : a ∉ X.fs := fun hb => by
  obtain ⟨_, o, ho, _⟩ := I.ok.funs.mem hb
  exact absurd (Nat.lt_of_lt_of_le (Heap.lt_size ho) (Nat.le_trans I.sz h)) (Nat.lt_irrefl _)
theorem Inv.cne (I : Inv X pins σ H s) : ∀ x c, X.env.cells.lookup x = some c → c ≠ X.env.locals := fun x c e z => by
  obtain ⟨v, o, ho, hd⟩ := I.cell x c e
  obtain ⟨m, ⟨o', es, ep, ho', hd', _⟩, _⟩ := I.loc
  rw [z, ho'] at ho; cases ho; rw [hd'] at hd; cases hd
theorem Inv.funs (I : Inv X pins σ H s) : s.heap.FunFrames X.base X.outer := by
  have all : ∀ (l : List Env), (∀ b ∈ frs l, b ∈ X.fs) → X.s_0.heap.FunFrames X.base l → s.heap.FunFrames X.base l := by
    intro l
    induction l with
    | nil => intro _ _; trivial
    | cons env r ih =>
      intro hs hl
      obtain ⟨hk, ⟨L, o, hf, hn, ho, hd⟩, hr⟩ := hl
      have hL : L ∈ X.fs := hs L (by unfold frs; rw [List.filterMap_cons, hf]; exact List.mem_cons_self)
      obtain ⟨sl, e⟩ := I.base.slot L o ho (I.ok.frf L hL) hL fun z => I.ok.exfs L z hL
      exact ⟨hk, ⟨L, _, hf, hn, e, hd⟩, ih (fun b hb => hs b (by unfold frs; rw [List.filterMap_cons, hf]; exact List.mem_cons_of_mem _ hb)) hr⟩
  exact all X.outer (fun _ hb => hb) I.ok.funs

/-- the frames that run, for a call -/
theorem Inv.stack (I : Inv X pins σ H s) : s.heap.FunFrames X.base X.stack := by
  rcases I.ok.stk with e | ⟨e, hf⟩
  · rw [e]; exact I.funs
  · rw [e]
    obtain ⟨m, hn, _⟩ := I.loc
    refine .cons (by rw [I.ok.kind]; decide) hf hn ?_ I.funs
    exact Heap.get?_none_of_le (Nat.le_trans I.ok.bsz I.ok.above)
theorem Inv.stkSub (I : Inv X pins σ H s) : ∀ b ∈ frs X.stack, b ∈ X.env.locals :: X.fs := fun b hb => by
  rcases I.ok.stk with e | ⟨e, hf⟩
  · rw [e] at hb; exact List.mem_cons_of_mem _ hb
  · rw [e] at hb
    unfold frs at hb
    rw [List.filterMap_cons, hf] at hb
    exact hb
theorem Inv.stkFree (I : Inv X pins σ H s) : ∀ b ∈ frs X.stack, H b = none := fun b hb => by
  rcases List.mem_cons.mp (I.stkSub b hb) with e | hb
  · rw [e]; exact I.free
  · obtain ⟨_, o, ho, _⟩ := I.ok.funs.mem hb
    exact I.base.free b o ho (I.ok.frf b hb) fun z => I.ok.exfs b z hb

/-- THE STEP: the untracked objects but the frame and the records at ch are kept (the callers' frames up to slots), the frame's map is kept, the new abstract heap is held -/
theorem Inv.step {g' : Array GenState} {t' : Nat} {d' : Drawn} {ch : List Addr} (I : Inv X pins σ H s)
    (hch : ∀ b ∈ ch, (b ∈ X.ex ∨ X.s_0.heap.objs.size ≤ b) ∧ b ≠ X.env.locals ∧ (∀ x c, X.env.cells.lookup x = some c → c ≠ b) ∧ ∀ p ∈ X.pn ++ pins, p.1 ≠ b)
    (keep : ∀ b o, b ≠ X.env.locals → b ∉ X.fs → b ∉ ch → s.heap.get? b = some o → H b = none → h'.get? b = some o)
    (slot : ∀ b o, b ≠ X.env.locals → b ∈ X.fs → b ∉ ch → s.heap.get? b = some o → H b = none → ∃ sl, h'.get? b = some { o with slots := sl }) (free : ∀ b o, b ∉ ch → s.heap.get? b = some o → H b = none → H' b = none)
    (there : ∀ b o, b ∉ ch → s.heap.get? b = some o → ∃ o', h'.get? b = some o')
    (tups : ∀ b xs, H b = some (.tup xs) → H' b = some (.tup xs)) (frzs : ∀ b o u, H b = some (.frz o u) → H' b = some (.frz o u)) (tbls : ∀ b ps, H b = some (.tbl ps) → ∃ more, H' b = some (.tbl (ps ++ more)))
    (ns : ∀ m, s.heap.Ns X.env.locals m → h'.Ns X.env.locals m) (hok : HOk X.prog X.w H' h') (hg : AllBare g') :
    Inv X pins σ H' { s with heap := h', gens := g', drawn := d', toks := t' } := by
  have neL : ∀ b o, X.s_0.heap.get? b = some o → b ≠ X.env.locals := fun b o e => Nat.ne_of_lt (Nat.lt_of_lt_of_le (Heap.lt_size e) I.ok.above)
  have neC : ∀ b o, X.s_0.heap.get? b = some o → b ∉ X.ex → b ∉ ch := fun b o e hx hb => by
    rcases (hch b hb).1 with z | z
    · exact hx z
    · exact absurd (Nat.lt_of_lt_of_le (Heap.lt_size e) z) (Nat.lt_irrefl _)
  have cellK : ∀ x c, X.env.cells.lookup x = some c → ∀ v, s.heap.IsCell c v → h'.IsCell c v := fun x c e v ⟨o, ho, hd⟩ => by
    have nch : c ∉ ch := fun z => (hch c z).2.2.1 x c e rfl
    by_cases hc : c ∈ X.fs
    · obtain ⟨sl, q⟩ := slot c o (I.cne x c e) hc nch ho (I.freeC x c e)
      exact ⟨_, q, hd⟩
    · exact ⟨o, keep c o (I.cne x c e) hc nch ho (I.freeC x c e), hd⟩
  refine ⟨I.ok, I.os, hg, ⟨fun b o e n hb hx => ?_, fun b o e n hb hx => ?_, fun b o e n hx => ?_, fun b o e hx => ?_, fun b xs e => tups b xs (I.base.tups b xs e), fun b o xs e => frzs b o xs (I.base.frzs b o xs e), fun b ps e => ?_⟩, ?_, fun x c e => ?_, ?_, fun x c e => ?_, fun p hp => ?_, hok, I.len⟩
  · exact keep b o (neL b o e) hb (neC b o e hx) (I.base.keep b o e n hb hx) (I.base.free b o e n hx)
  · obtain ⟨sl, e1⟩ := I.base.slot b o e n hb hx
    obtain ⟨sl', e2⟩ := slot b _ (neL b o e) hb (neC b o e hx) e1 (I.base.free b o e n hx)
    exact ⟨sl', e2⟩
  · obtain ⟨o', e1⟩ := I.base.there b o e hx
    exact free b o' (neC b o e hx) e1 (I.base.free b o e n hx)
  · obtain ⟨o', e1⟩ := I.base.there b o e hx
    exact there b o' (neC b o e hx) e1
  · obtain ⟨m1, e1⟩ := I.base.tbls b ps e
    obtain ⟨m2, e2⟩ := tbls b _ e1
    exact ⟨m1 ++ m2, by rw [e2, Array.append_assoc]⟩
  · obtain ⟨m, hn, hl⟩ := I.loc
    refine ⟨m, ns m hn, fun i x v e1 e2 e3 => ?_⟩
    obtain ⟨u, r, l⟩ := hl i x v e1 e2 e3
    refine ⟨u, r, ?_⟩
    rcases l with l | ⟨k, c, e, z⟩
    · exact .inl l
    · exact .inr ⟨k, c, e, cellK x c e _ z⟩
  · obtain ⟨v, z⟩ := I.cell x c e
    exact ⟨v, cellK x c e v z⟩
  · obtain ⟨m, ⟨o, _, _, ho, _⟩, _⟩ := I.loc
    exact free _ o (fun z => (hch _ z).2.1 rfl) ho I.free
  · obtain ⟨v, o, ho, hd⟩ := I.cell x c e
    exact free c o (fun z => (hch c z).2.2.1 x c e rfl) ho (I.freeC x c e)
  · obtain ⟨e, n, ne, nf, d⟩ := I.pin p hp
    have nch : p.1 ∉ ch := fun z => (hch p.1 z).2.2.2 p hp rfl
    exact ⟨keep p.1 p.2 ne nf nch e n, free p.1 p.2 nch e n, ne, nf, d⟩
/-- .. where the frame's own object is kept too -/
theorem Inv.un {t' : Nat} (I : Inv X pins σ H s) (u : Un X.fs [] H H' s.heap h') (hok : HOk X.prog X.w H' h') : Inv X pins σ H' { s with heap := h', toks := t' } := by
  obtain ⟨m, ⟨o, es, ep, ho, r⟩, _⟩ := id I.loc
  obtain ⟨sl, hL⟩ := u.any ho I.free (by simp)
  exact I.step (g' := s.gens) (d' := s.drawn) (ch := []) (fun _ z => nomatch z) (fun b o _ hb _ e n => u.keep b o e n hb (by simp)) (fun b o _ hb _ e n => u.slot b o e n hb (by simp)) (fun b o _ e n => u.free b o e n (by simp)) (fun b o _ e => u.there b o e (by simp)) u.tups u.frzs u.tbls (fun m' hm => by
    obtain ⟨o', es', ep', ho', r'⟩ := hm
    rw [ho] at ho'; cases ho'
    exact ⟨_, es', ep', hL, r'⟩) hok I.bare
/-- behind a call (or a comprehension's block): the slots of this frame may have changed too, the records at ch may have turned -/
theorem Inv.call {g' : Array GenState} {t' : Nat} {d' : Drawn} {ch : List Addr} (I : Inv X pins σ H s) (u : Un (frs X.stack) ch H H' s.heap h') (hok : HOk X.prog X.w H' h') (hg : AllBare g')
    (hch : ∀ b ∈ ch, (b ∈ X.ex ∨ X.s_0.heap.objs.size ≤ b) ∧ b ≠ X.env.locals ∧ (∀ x c, X.env.cells.lookup x = some c → c ≠ b) ∧ ∀ p ∈ X.pn ++ pins, p.1 ≠ b) :
    Inv X pins σ H' { s with heap := h', gens := g', drawn := d', toks := t' } := by
  obtain ⟨m, ⟨o, es, ep, ho, r⟩, _⟩ := id I.loc
  obtain ⟨sl, hL⟩ := u.any ho I.free fun z => (hch _ z).2.1 rfl
  exact I.step (ch := ch) hch (fun b o hL hb hc e n => u.keep b o e n (fun z => (List.mem_cons.mp (I.stkSub b z)).elim hL hb) hc) (fun b o _ _ hc e n => u.any e n hc) (fun b o hc e n => u.free b o e n hc) (fun b o hc e => u.there b o e hc) u.tups u.frzs u.tbls (fun m' hm => by
    obtain ⟨o', es', ep', ho', r'⟩ := hm
    rw [ho] at ho'; cases ho'
    exact ⟨_, es', ep', hL, r'⟩) hok hg
/-- an untracked record of ours (an iterator) has turned -/
theorem Inv.turned {t' : Nat} {it : Addr} (I : Inv X pins σ H s) (k : ∀ b o, b ≠ it → s.heap.get? b = some o → h'.get? b = some o) (hn : H it = none) (hL : it ≠ X.env.locals)
    (h1 : it ∈ X.ex ∨ X.s_0.heap.objs.size ≤ it) (h2 : ∀ x c, X.env.cells.lookup x = some c → c ≠ it) (h3 : ∀ p ∈ X.pn ++ pins, p.1 ≠ it) : Inv X pins σ H { s with heap := h', toks := t' } := by
  have nit : ∀ b u, H b = some u → b ≠ it := fun b u e z => by rw [z, hn] at e; cases e
  refine I.step (g' := s.gens) (d' := s.drawn) (ch := [it]) (fun b hb => ?_) (fun b o _ _ hc e _ => k b o (fun z => hc (by simp [z])) e) (fun b o _ _ hc e _ => ⟨o.slots, k b o (fun z => hc (by simp [z])) e⟩) (fun _ _ _ _ n => n)
    (fun b o hc e => ⟨o, k b o (fun z => hc (by simp [z])) e⟩) (fun _ _ e => e) (fun _ _ _ e => e) (fun b ps e => ⟨#[], by rw [e]; simp⟩) (fun m hm => ?_) (fun b u e => ?_) I.bare
  · have e : b = it := by simpa using hb
    subst e
    exact ⟨h1, hL, h2, h3⟩
  · obtain ⟨o, es, ep, ho, r⟩ := hm
    exact ⟨o, es, ep, k _ o (Ne.symm hL) ho, r⟩
  · refine (I.hok b u e).stay (fun c v hc q => k c v ?_ q) (fun _ q => q) fun _ _ q => q
    rcases hc with z | z
    · rw [z]; exact nit b u e
    · exact nit c _ z
theorem Inv.tok (I : Inv X pins σ H s) (t : Nat) : Inv X pins σ H { s with toks := t } := I.un (h' := s.heap) (t' := t) Un.refl I.hok
/-- all objects kept -/
theorem Inv.kept {t' : Nat} (I : Inv X pins σ H s) (k : ∀ b u, s.heap.get? b = some u → h'.get? b = some u) : Inv X pins σ H { s with heap := h', toks := t' } := I.un (Un.kept k) (I.hok.kept k)
/-- a new object laid and tracked -/
theorem Inv.laid {a : Addr} {o : HO} {t' : Nat} (I : Inv X pins σ H s) (k : ∀ b u, s.heap.get? b = some u → h'.get? b = some u) (hp : s.heap.objs.size ≤ a) (new : ObjOk X.prog X.w (upd H a o) h' a o) :
    Inv X pins σ (upd H a o) { s with heap := h', toks := t' } := I.un (Un.laid k hp (I.hok.fresh hp)) (I.hok.laid k hp new)
/-- an object written -/
theorem Inv.write {x e : Addr} {o : HO} {t' : Nat} (I : Inv X pins σ H s) (mu : Mut (H x)) (he : e = x ∨ H e = some (.own x)) (k : ∀ b u, b ≠ e → s.heap.get? b = some u → h'.get? b = some u) (heo : ∃ u, h'.get? e = some u)
    (new : ObjOk X.prog X.w (upd H x o) h' x o) : Inv X pins σ (upd H x o) { s with heap := h', toks := t' } := I.un (Un.write mu he k heo) (I.hok.write mu he k heo new)
/-- forgetting slots, pins -/
theorem Inv.weak {σ' : List (Option V)} (I : Inv X pins σ H s) (hl : σ'.length = σ.length) (w : ∀ (i : Nat) v, σ'[i]? = some (some v) → σ[i]? = some (some v)) : Inv X pins σ' H s :=
  ⟨I.ok, I.os, I.bare, I.base, let ⟨m, hn, hl'⟩ := I.loc; ⟨m, hn, fun i x v e1 e2 e3 => hl' i x v e1 (w i v e2) e3⟩, I.cell, I.free, I.freeC, I.pin, I.hok, hl.trans I.len⟩
theorem Inv.pins_of {pins' : List (Addr × Obj)} (I : Inv X pins σ H s) (h : ∀ p ∈ pins', s.heap.get? p.1 = some p.2 ∧ H p.1 = none ∧ p.1 ≠ X.env.locals ∧ p.1 ∉ X.fs ∧ ∀ v, p.2.data ≠ .cell v) : Inv X pins' σ H s :=
  ⟨I.ok, I.os, I.bare, I.base, I.loc, I.cell, I.free, I.freeC, fun p hp => (List.mem_append.mp hp).elim (fun z => I.pin p (List.mem_append_left _ z)) (h p), I.hok, I.len⟩

theorem nodup_ix {N : List Str} (hN : N.Nodup) {i j : Nat} {x : Str} (a : N[i]? = some x) (b : N[j]? = some x) : i = j := by
  obtain ⟨h1, e1⟩ := List.getElem?_eq_some_iff.mp a
  obtain ⟨h2, e2⟩ := List.getElem?_eq_some_iff.mp b
  exact (List.getElem_inj hN).mp (e1.trans e2.symm)

/-- a name is stored; what changed -/
theorem store_ok2 {M : Model} {A : Around} {E : Value → Shared → Prop} {i : Nat} {x : Str} {v : V} {u : Value} {Q : Unit → Shared → Prop} (I : Inv X pins σ H s) (hN : X.N.Nodup) (hi : X.N[i]? = some x) (hx : Loc X.env.scope x) (r : RelV v u)
    (h : ∀ s', Inv X pins (σ.set i (some v)) H s' → (∃ a, Heap.SameBut a s.heap s'.heap ∧ (a = X.env.locals ∨ X.env.cells.lookup x = some a)) → Q () s') (hf : X.fn x = true ∨ X.env.scope.names.lookup x = some .local := by first | exact .inl rfl | exact .inr rfl | assumption) : wpAny M A (storeName X.env x u) Q E s := by
  obtain ⟨m, hn, hl⟩ := id I.loc
  have hcls : (X.env.scope.kind == .class || (X.env.scope.kind == .module && X.env.locals != X.env.globals)) = false := by rw [I.ok.kind]; rfl
  have hiσ : i < σ.length := by rw [I.len]; exact (List.getElem?_eq_some_iff.mp hi).1
  have cne := I.cne
  have tracked : ∀ {a : Addr} {h' : Heap}, (∃ o, s.heap.get? a = some o ∧ H a = none) → Heap.SameBut a s.heap h' → HOk X.prog X.w H h' := fun {a h'} ha hs b ob e => by
    obtain ⟨_, _, hfree⟩ := ha
    refine (I.hok b ob e).stay (fun c w' hc q => (hs.2 c ?_).trans q) (fun _ q => q) fun _ _ q => q
    rintro rfl
    rcases hc with rfl | hc
    · rw [hfree] at e; cases e
    · rw [hfree] at hc; cases hc
  rcases hx with hk | hk
  · refine wpAny_storeName_local hk hn (fun h' hn' hs => ?_) hcls
    obtain ⟨oL, _, _, hoL, _⟩ := id hn
    refine h _ ⟨I.ok, I.os, I.bare, ⟨fun b o e n hb hx => ?_, fun b o e n hb hx => ?_, I.base.free, fun b o e hx => ?_, I.base.tups, I.base.frzs, I.base.tbls⟩, ⟨_, hn', fun j y v' e1 e2 e3 => ?_⟩, fun y c e => ?_, I.free, I.freeC, fun p hp => ?_, tracked ⟨oL, hoL, I.free⟩ hs, by simpa using I.len⟩ ⟨_, hs, .inl rfl⟩
    · exact (hs.2 b (Nat.ne_of_lt (Nat.lt_of_lt_of_le (Heap.lt_size e) I.ok.above))).trans (I.base.keep b o e n hb hx)
    · obtain ⟨sl, e1⟩ := I.base.slot b o e n hb hx
      exact ⟨sl, (hs.2 b (Nat.ne_of_lt (Nat.lt_of_lt_of_le (Heap.lt_size e) I.ok.above))).trans e1⟩
    · obtain ⟨o', e1⟩ := I.base.there b o e hx
      exact ⟨o', (hs.2 b (Nat.ne_of_lt (Nat.lt_of_lt_of_le (Heap.lt_size e) I.ok.above))).trans e1⟩
    · by_cases hj : j = i
      · subst hj
        rw [hi] at e1; cases e1
        rw [List.getElem?_set_self hiσ] at e2
        cases e2
        exact ⟨u, r, .inl ⟨hk, by simp⟩⟩
      · rw [List.getElem?_set_ne (Ne.symm hj)] at e2
        obtain ⟨u', r', q⟩ := hl j y v' e1 e2 e3
        refine ⟨u', r', ?_⟩
        rcases q with ⟨k, e⟩ | ⟨k, c, e, z⟩
        · refine .inl ⟨k, ?_⟩
          have : y ≠ x := fun e => hj (nodup_ix hN e1 (e ▸ hi))
          simp [this, e]
        · exact .inr ⟨k, c, e, z.sameBut hs (cne y c e)⟩
    · obtain ⟨w', z⟩ := I.cell y c e
      exact ⟨w', z.sameBut hs (cne y c e)⟩
    · obtain ⟨e, n, ne, nf, d⟩ := I.pin p hp
      exact ⟨(hs.2 p.1 ne).trans e, n, ne, nf, d⟩
  · have hfn : X.fn x = true := by
      rcases hf with z | z
      · exact z
      · rw [z] at hk; cases hk
    obtain ⟨c, hc⟩ := I.ok.has x (.inl hk)
    obtain ⟨w', z⟩ := I.cell x c hc
    refine wpAny_storeName_cell I.ok.kind hk hc z (fun h' hc' hs => ?_)
    obtain ⟨oc, hoc, hocd⟩ := id z
    refine h { s with heap := h' } ⟨I.ok, I.os, I.bare, ⟨fun b o e n hb hx => ?_, fun b o e n hb hx => ?_, I.base.free, fun b o e hx => ?_, I.base.tups, I.base.frzs, I.base.tbls⟩, ⟨m, hn.sameBut hs (Ne.symm (cne x c hc)), fun j y v' e1 e2 e3 => ?_⟩, fun y c' e => ?_, I.free, I.freeC, fun p hp => ?_, tracked ⟨oc, hoc, I.freeC x c hc⟩ hs, by simpa using I.len⟩ ⟨c, hs, .inr hc⟩
    · exact (hs.2 b (Nat.ne_of_lt (Nat.lt_of_lt_of_le (Heap.lt_size e) (I.ok.cab x c hfn hc)))).trans (I.base.keep b o e n hb hx)
    · obtain ⟨sl, e1⟩ := I.base.slot b o e n hb hx
      exact ⟨sl, (hs.2 b (Nat.ne_of_lt (Nat.lt_of_lt_of_le (Heap.lt_size e) (I.ok.cab x c hfn hc)))).trans e1⟩
    · obtain ⟨o', e1⟩ := I.base.there b o e hx
      exact ⟨o', (hs.2 b (Nat.ne_of_lt (Nat.lt_of_lt_of_le (Heap.lt_size e) (I.ok.cab x c hfn hc)))).trans e1⟩
    · by_cases hj : j = i
      · subst hj
        rw [hi] at e1; cases e1
        rw [List.getElem?_set_self hiσ] at e2
        cases e2
        exact ⟨u, r, .inr ⟨.inl hk, c, hc, hc'⟩⟩
      · rw [List.getElem?_set_ne (Ne.symm hj)] at e2
        obtain ⟨u', r', q⟩ := hl j y v' e1 e2 e3
        refine ⟨u', r', ?_⟩
        rcases q with q | ⟨k, c', e, z'⟩
        · exact .inl q
        · refine .inr ⟨k, c', e, z'.sameBut hs ?_⟩
          rintro rfl
          exact hj (nodup_ix hN e1 (I.ok.inj _ _ _ e hc ▸ hi))
    · by_cases hcc : c' = c
      · subst hcc; exact ⟨_, hc'⟩
      · obtain ⟨w2, z2⟩ := I.cell y c' e
        exact ⟨w2, z2.sameBut hs hcc⟩
    · obtain ⟨e, n, ne, nf, d⟩ := I.pin p hp
      refine ⟨(hs.2 p.1 ?_).trans e, n, ne, nf, d⟩
      intro q
      rw [q, hoc] at e
      have q' : oc = p.2 := Option.some.inj e
      exact d w' (by rw [← q']; exact hocd)
theorem store_ok {M : Model} {A : Around} {E : Value → Shared → Prop} {i : Nat} {x : Str} {v : V} {u : Value} {Q : Unit → Shared → Prop} (I : Inv X pins σ H s) (hN : X.N.Nodup) (hi : X.N[i]? = some x) (hx : Loc X.env.scope x) (r : RelV v u)
    (h : ∀ s', Inv X pins (σ.set i (some v)) H s' → Q () s') (hf : X.fn x = true ∨ X.env.scope.names.lookup x = some .local := by first | exact .inl rfl | exact .inr rfl | assumption) : wpAny M A (storeName X.env x u) Q E s :=
  store_ok2 I hN hi hx r (fun s' I' _ => h s' I') hf
/-- behind a call or a block, the state as it is -/
theorem Inv.call' {s' : Shared} {ch : List Addr} (I : Inv X pins σ H s) (ho : s'.os = s.os) (u : Un (frs X.stack) ch H H' s.heap s'.heap) (hok : HOk X.prog X.w H' s'.heap) (hg : AllBare s'.gens)
    (hch : ∀ b ∈ ch, (b ∈ X.ex ∨ X.s_0.heap.objs.size ≤ b) ∧ b ≠ X.env.locals ∧ (∀ x c, X.env.cells.lookup x = some c → c ≠ b) ∧ ∀ p ∈ X.pn ++ pins, p.1 ≠ b) : Inv X pins σ H' s' := by
  obtain ⟨h', g', d', t', o'⟩ := s'
  have e : o' = s.os := ho
  subst e
  exact I.call (g' := g') (t' := t') (d' := d') u hok hg hch
end

/-! ### the judgements -/
/-- an exception: its class, its own dict's address (where it has one), the abstract heap behind it -/
abbrev XK := Value → Option Addr → Hp → Prop
abbrev St := List (Option V)
abbrev VK := V → Hp → Prop
/-- an expression's reading; a test's; an argument list's -/
abbrev TE := St → Hp → VK → Prop
abbrev TT := St → Hp → (Bool → Hp → Prop) → Prop
abbrev TA := St → Hp → (List V → Hp → Prop) → Prop
/-- what is wanted behind a statement -/
structure Ends where
  nx : St → Hp → Prop
  rt : VK
  bk : St → Hp → Prop := fun _ _ => False
  ct : St → Hp → Prop := fun _ _ => False
abbrev TS := Ends → St → Hp → Prop

def EP (X : Cx) (pins : List (Addr × Obj)) (σ : St) (Q : VK) (u : Value) (s' : Shared) : Prop := ∃ v H', Inv X pins σ H' s' ∧ RelV v u ∧ Q v H'
def TP (X : Cx) (pins : List (Addr × Obj)) (σ : St) (Q : Bool → Hp → Prop) (b : Bool) (s' : Shared) : Prop := ∃ H', Inv X pins σ H' s' ∧ Q b H'
def AP (X : Cx) (pins : List (Addr × Obj)) (σ : St) (Q : List V → Hp → Prop) (us : List Value) (s' : Shared) : Prop := ∃ vs H', Inv X pins σ H' s' ∧ Vals vs us ∧ Q vs H'
def SP (X : Cx) (pins : List (Addr × Obj)) (D : Ends) (f : Flow) (s' : Shared) : Prop :=
  match f with
  | .next => ∃ σ' H', Inv X pins σ' H' s' ∧ D.nx σ' H'
  | .brk => ∃ σ' H', Inv X pins σ' H' s' ∧ D.bk σ' H'
  | .cont => ∃ σ' H', Inv X pins σ' H' s' ∧ D.ct σ' H'
  | .ret u => ∃ v σ' H', Inv X pins σ' H' s' ∧ RelV v u ∧ D.rt v H'

def PE (X : Cx) (e : Expr) (t : TE) : Prop :=
  ∀ (pins : List (Addr × Obj)) (s : Shared) (σ : St) (H : Hp) (Q : VK), Inv X pins σ H s → t σ H Q → wpAny (model X.prog X.w) X.A (eval e X.env) (EP X pins σ Q) X.xe s
def PT (X : Cx) (e : Expr) (t : TT) : Prop :=
  ∀ (pins : List (Addr × Obj)) (s : Shared) (σ : St) (H : Hp) (Q : Bool → Hp → Prop), Inv X pins σ H s → t σ H Q → wpAny (model X.prog X.w) X.A (isTrue e X.env (eval e X.env)) (TP X pins σ Q) X.xe s
/-- a test whatever its 'whole' is (and, or) -/
def PW (X : Cx) (e : Expr) (t : TT) : Prop :=
  ∀ (whole : Sem Value) (pins : List (Addr × Obj)) (s : Shared) (σ : St) (H : Hp) (Q : Bool → Hp → Prop), Inv X pins σ H s → t σ H Q → wpAny (model X.prog X.w) X.A (isTrue e X.env whole) (TP X pins σ Q) X.xe s
theorem PW.pt {X : Cx} {e : Expr} {t : TT} (h : PW X e t) : PT X e t := h _
/-- an argument list (no star), from the left -/
def PA (X : Cx) (es : List Expr) (t : TA) : Prop :=
  ∀ (pos : Pos) (pins : List (Addr × Obj)) (s : Shared) (σ : St) (H : Hp) (Q : List V → Hp → Prop), Inv X pins σ H s → t σ H Q → wpAny (model X.prog X.w) X.A (spliced (backTo pos (starEach es X.env))) (AP X pins σ Q) X.xe s
def PS (X : Cx) (st : Stmt) (t : TS) : Prop :=
  ∀ (pins : List (Addr × Obj)) (s : Shared) (σ : St) (H : Hp) (D : Ends), Inv X pins σ H s → t D σ H → wpAny (model X.prog X.w) X.A (exec st X.env) (SP X pins D) X.xe s
def PSs (X : Cx) (st : List Stmt) (t : TS) : Prop :=
  ∀ (pins : List (Addr × Obj)) (s : Shared) (σ : St) (H : Hp) (D : Ends), Inv X pins σ H s → t D σ H → wpAny (model X.prog X.w) X.A (execs st X.env) (SP X pins D) X.xe s
/-- weaken the end -/
theorem thn {α : Type} {t : Sem α} {Q Q' : α → Shared → Prop} {M : Model} {A : Around} {E : Value → Shared → Prop} {s : Shared} (h : wpAny M A t Q E s) (hQ : ∀ a s, Q a s → Q' a s) : wpAny M A t Q' E s := wpAny_mono h hQ fun _ _ x => x
end L2

namespace L2
open PySem PySem.Spec PyProof.Rows
section
variable {X : Cx}

/-! ### names and constants -/
def tVar (i : Nat) : TE := fun σ H Q => ∃ v, σ[i]? = some (some v) ∧ Q v H
def tC (v : V) : TE := fun _ H Q => Q v H
theorem pe_var {i : Nat} {x : Str} {pos : Pos} (hN : X.N[i]? = some x) (hv : Vis X.env.scope x) (hd : (x == ("__debug__" : Str)) = false := by decide) (hcd : (x == ("__classdict__" : Str)) = false := by decide) : PE X (.Name x pos) (tVar i) := by
  intro pins s σ H Q I h
  obtain ⟨v, e, h⟩ := h
  obtain ⟨m, hn, hl⟩ := I.loc
  obtain ⟨u, r, l⟩ := hl i x v hN e hv
  have fin : EP X pins σ Q u s := ⟨v, H, I, r, h⟩
  rcases l with ⟨hk, hm⟩ | ⟨hk, c, hc, hcell⟩
  · exact wpAny_Name (wpAny_loadName_local I.ok.kind hk hn hm fin) hd
  · rcases hk with hk | hk
    · exact wpAny_Name (wpAny_loadName_cell I.ok.kind hk hc hcell fin) hd
    · exact wpAny_Name (wpAny_loadName_free I.ok.kind hk hc hcell fin hcd) hd
theorem pe_int {i j pos} : PE X (.Constant (.int i) j pos) (tC (.int i)) := fun _ _ _ H _ I h => wpAny_Constant_int ⟨.int i, H, I.tok _, ⟨_, rfl⟩, h⟩
theorem pe_bl {b j pos} : PE X (.Constant (.bool b) j pos) (tC (.bl b)) := fun _ _ _ H _ I h => Constant_bool ⟨.bl b, H, I, rfl, h⟩
theorem pe_non {j pos} : PE X (.Constant .none j pos) (tC .non) := fun _ _ _ H _ I h => Constant_none ⟨.non, H, I, rfl, h⟩
theorem pe_str {x j pos} : PE X (.Constant (.str x) j pos) (tC (.str x)) := fun _ _ _ H _ I h => Calls.Constant_str ⟨.str x, H, I.tok _, ⟨_, rfl⟩, h⟩

/-- a global name of the def -/
def Gl (X : Cx) (x : Str) : Prop := X.env.kindOf x = some .globalImplicit
theorem ld_glob {E : Value → Shared → Prop} {pins : List (Addr × Obj)} {s : Shared} {σ : St} {H : Hp} {x : Str} {u : Value} {pos : Pos} {Q : Value → Shared → Prop} (I : Inv X pins σ H s) (hg : Gl X x) (hm : X.mg x = some u) (h : Q u s)
    (hd : (x == ("__debug__" : Str)) = false := by decide) : wpAny (model X.prog X.w) X.A (eval (.Name x pos) X.env) Q E s :=
  Calls.Name_function_global I.ok.kind hg (Calls.loadGlobal_global (by rw [I.ok.glob]; exact I.mod.glob.keeps I.bk) hm h) hd
theorem ld_blt {E : Value → Shared → Prop} {pins : List (Addr × Obj)} {s : Shared} {σ : St} {H : Hp} {x : Str} {u : Value} {pos : Pos} {Q : Value → Shared → Prop} (I : Inv X pins σ H s) (hg : Gl X x) (hm : X.mg x = none) (hv : bootBuiltins x = some u) (h : Q u s)
    (hn : x ≠ "__name__" := by decide) (hd : (x == ("__debug__" : Str)) = false := by decide) : wpAny (model X.prog X.w) X.A (eval (.Name x pos) X.env) Q E s := by
  obtain ⟨mb, h1, h2⟩ := I.mod.blt
  exact Calls.Name_function_global I.ok.kind hg (Calls.loadGlobal_builtin (by rw [I.ok.glob]; exact I.mod.glob.keeps I.bk) hm (by rw [I.ok.blt]; exact h1.keeps I.bk) ((h2 x hn).trans hv) h) hd
/-- a module's constant, a class, a function, as a value -/
theorem pe_glob {x : Str} {v : V} {u : Value} {pos : Pos} (hg : Gl X x) (hm : X.mg x = some u) (r : RelV v u) (hd : (x == ("__debug__" : Str)) = false := by decide) : PE X (.Name x pos) (tC v) :=
  fun _ _ _ H _ I h => ld_glob I hg hm ⟨v, H, I, r, h⟩ hd
theorem pe_bltn {x : Str} {v : V} {u : Value} {pos : Pos} (hg : Gl X x) (hm : X.mg x = none) (hv : bootBuiltins x = some u) (r : RelV v u) (hn : x ≠ "__name__" := by decide) (hd : (x == ("__debug__" : Str)) = false := by decide) : PE X (.Name x pos) (tC v) :=
  fun _ _ _ H _ I h => ld_blt I hg hm hv ⟨v, H, I, r, h⟩ hn hd

/-! ### arithmetic -/
variable {a b : Expr} {ta tb : TE} {pos : Pos}
/-! ### comparisons -/
def PC (X : Cx) (op : CmpOp) (a b : Expr) (t : TE) : Prop :=
  ∀ (pins : List (Addr × Obj)) (s : Shared) (σ : St) (H : Hp) (Q : VK), Inv X pins σ H s → t σ H Q →
    wpAny (model X.prog X.w) X.A (eval a X.env) (fun v s₁ => wpAny (model X.prog X.w) X.A (eval b X.env) (fun u s₂ => wpAny (model X.prog X.w) X.A (compareOp op v u) (EP X pins σ Q) X.xe s₂) X.xe s₁) X.xe s
theorem nobehind (b : Expr) {op : CmpOp} (h : op ≠ .In) (h2 : op ≠ .NotIn) : behindInMarks op b = false := by
  have e1 : (op == CmpOp.In) = false := by cases op <;> first | rfl | exact absurd rfl h
  have e2 : (op == CmpOp.NotIn) = false := by cases op <;> first | rfl | exact absurd rfl h2
  cases b <;> simp [behindInMarks, e1, e2]
/-- is None -/
def tIsN (ta : TE) : TE := fun σ H Q => ta σ H fun x H1 => Q (.bl (decide (x = .non))) H1
def tNotN (ta : TE) : TE := fun σ H Q => ta σ H fun x H1 => Q (.bl (!decide (x = .non))) H1
theorem RelV.none_iff {x : V} {v : Value} (r : RelV x v) : (v == Value.none) = decide (x = .non) := by
  cases x with
  | non => cases r; rfl
  | bl _ => cases r; rfl
  | int _ => obtain ⟨t, rfl⟩ := r; rfl
  | str _ => obtain ⟨t, rfl⟩ := r; rfl
  | byt _ => obtain ⟨t, rfl⟩ := r; rfl
  | flt _ => obtain ⟨t, rfl⟩ := r; rfl
  | ref _ => cases r; rfl
  | ty _ => cases r; rfl
theorem pc_isN {j pos'} (ha : PE X a ta) : PC X .Is a (.Constant .none j pos') (tIsN ta) := by
  intro pins s σ H Q I h
  refine thn (ha pins s σ H _ I h) fun v s1 ⟨x, H1, I1, r1, q1⟩ => ?_
  exact Constant_none (is_none_gen ⟨.bl _, H1, I1, by rw [r1.none_iff]; rfl, q1⟩)
theorem pc_notN {j pos'} (ha : PE X a ta) : PC X .IsNot a (.Constant .none j pos') (tNotN ta) := by
  intro pins s σ H Q I h
  refine thn (ha pins s σ H _ I h) fun v s1 ⟨x, H1, I1, r1, q1⟩ => ?_
  exact Constant_none (isnot_none_gen ⟨.bl _, H1, I1, by rw [r1.none_iff]; rfl, q1⟩)
/-- a comparison as a value, as a test -/
def tB (t : TE) : TT := fun σ H Q => t σ H fun x H1 => ∃ c, x = .bl c ∧ Q c H1
theorem pe_cmp {op : CmpOp} {t : TE} (h : PC X op a b t) (h1 : behindInMarks op b = false := by first | exact nobehind _ (by decide) (by decide) | rfl) : PE X (.Compare a [op] [b] pos) t := fun pins s σ H Q I hw => wpAny_Compare1 (h pins s σ H Q I hw) h1
theorem pt_cmp {op : CmpOp} {t : TE} (h : PC X op a b t) (h1 : behindInMarks op b = false := by first | exact nobehind _ (by decide) (by decide) | rfl) : PT X (.Compare a [op] [b] pos) (tB t) := by
  intro pins s σ H Q I hw
  refine wpAny_isTrue_Compare1 (thn (h pins s σ H _ I hw) fun v s1 h1 => thn h1 fun u s2 h2 => thn h2 fun c s3 ⟨x, H1, I1, r1, q1⟩ => ?_) h1
  obtain ⟨d, rfl, q⟩ := q1
  cases r1
  exact wpAny_truthy_bool ⟨H1, I1, q⟩
/-- an expression whose value is a bool, as a test -/
theorem pt_val {e : Expr} {t : TE} (h : PE X e t) (he : ∀ whole, isTrue e X.env whole = (do let v ← whole; standAt e.pos; holding [v] (truthy v)) := by intro _; rfl) : PT X e (tB t) := by
  intro pins s σ H Q I hw
  refine isTrue_plain (thn (h pins s σ H _ I hw) fun v s1 ⟨x, H1, I1, r1, q1⟩ => ?_) (he _)
  obtain ⟨d, rfl, q⟩ := q1
  cases r1
  exact wpAny_truthy_bool ⟨H1, I1, q⟩

/-! ### and, or, not -/
variable {tA tB' : TT} {rest : List Expr}
def tAnd (t u : TT) : TT := fun σ H Q => t σ H fun c H1 => if c = true then u σ H1 Q else Q false H1
def tOr (t u : TT) : TT := fun σ H Q => t σ H fun c H1 => if c = true then Q true H1 else u σ H1 Q
def tNot (t : TT) : TT := fun σ H Q => t σ H fun c H1 => Q (!c) H1
theorem pw_and1 (ha : PT X a tA) : PW X (.BoolOp .And [a] pos) tA := by
  intro wh pins s σ H Q I h
  refine isTrue_and (thn (ha pins s σ H Q I h) fun c s1 e => ?_)
  cases c with
  | true => exact isTrue_and_nil e
  | false => exact e
theorem pw_or1 (ha : PT X a tA) : PW X (.BoolOp .Or [a] pos) tA := by
  intro wh pins s σ H Q I h
  refine isTrue_or (thn (ha pins s σ H Q I h) fun c s1 e => ?_)
  cases c with
  | false => exact isTrue_or_nil e
  | true => exact e
theorem pw_and (ha : PT X a tA) (hb : PW X (.BoolOp .And (b :: rest) pos) tB') : PW X (.BoolOp .And (a :: b :: rest) pos) (tAnd tA tB') := by
  intro wh pins s σ H Q I h
  refine isTrue_and (thn (ha pins s σ H _ I h) fun c s1 ⟨H1, I1, q1⟩ => ?_)
  cases c with
  | true => exact hb wh pins s1 σ H1 Q I1 q1
  | false => exact ⟨H1, I1, q1⟩
theorem pw_or (ha : PT X a tA) (hb : PW X (.BoolOp .Or (b :: rest) pos) tB') : PW X (.BoolOp .Or (a :: b :: rest) pos) (tOr tA tB') := by
  intro wh pins s σ H Q I h
  refine isTrue_or (thn (ha pins s σ H _ I h) fun c s1 ⟨H1, I1, q1⟩ => ?_)
  cases c with
  | true => exact ⟨H1, I1, q1⟩
  | false => exact hb wh pins s1 σ H1 Q I1 q1
theorem pt_not (ha : PT X a tA) : PT X (.UnaryOp .Not a pos) (tNot tA) := by
  intro pins s σ H Q I h
  exact isTrue_not (ha pins s σ H (fun c H1 => Q (!c) H1) I h)
/-- .. as values (bools) -/
def tAndV (ta tb : TE) : TE := fun σ H Q => ta σ H fun x H1 => ∃ c, x = .bl c ∧ if c = true then tb σ H1 Q else Q (.bl false) H1
def tOrV (ta tb : TE) : TE := fun σ H Q => ta σ H fun x H1 => ∃ c, x = .bl c ∧ if c = true then Q (.bl true) H1 else tb σ H1 Q
theorem pe_one {op} {t : TE} (h : PE X a t) : PE X (.BoolOp op [a] pos) t := fun pins s σ H Q I hw => BoolOp_one (h pins s σ H Q I hw)
theorem pe_and (ha : PE X a ta) (hb : PE X (.BoolOp .And (b :: rest) pos) tb) : PE X (.BoolOp .And (a :: b :: rest) pos) (tAndV ta tb) := by
  intro pins s σ H Q I h
  refine BoolOp_and (thn (ha pins s σ H _ I h) fun v s1 ⟨x, H1, I1, r1, q1⟩ => ?_)
  obtain ⟨c, rfl, q1⟩ := q1
  cases r1
  refine wpAny_truthy_bool ?_
  cases c with
  | true => exact hb pins s1 σ H1 Q I1 q1
  | false => exact ⟨.bl false, H1, I1, rfl, q1⟩
theorem pe_or (ha : PE X a ta) (hb : PE X (.BoolOp .Or (b :: rest) pos) tb) : PE X (.BoolOp .Or (a :: b :: rest) pos) (tOrV ta tb) := by
  intro pins s σ H Q I h
  refine BoolOp_or (thn (ha pins s σ H _ I h) fun v s1 ⟨x, H1, I1, r1, q1⟩ => ?_)
  obtain ⟨c, rfl, q1⟩ := q1
  cases r1
  refine wpAny_truthy_bool ?_
  cases c with
  | false => exact hb pins s1 σ H1 Q I1 q1
  | true => exact ⟨.bl true, H1, I1, rfl, q1⟩
/-- a if t else b -/
def tIf (t : TT) (ta tb : TE) : TE := fun σ H Q => t σ H fun c H1 => if c = true then ta σ H1 Q else tb σ H1 Q
theorem pe_ifExp {c : Expr} (hc : PT X c tA) (ha : PE X a ta) (hb : PE X b tb) : PE X (.IfExp c a b pos) (tIf tA ta tb) := by
  intro pins s σ H Q I h
  refine wpAny_IfExp (thn (hc pins s σ H _ I h) fun d s1 ⟨H1, I1, q1⟩ => ?_)
  cases d with
  | true => exact ha pins s1 σ H1 Q I1 q1
  | false => exact hb pins s1 σ H1 Q I1 q1
end
end L2

namespace L2
open PySem PySem.Spec PyProof.Rows

/-! ### a list, a tuple that is read: tracked, frozen, or an object of the module -/
def SqL (K : PySem.W.Frag) (H : Hp) (a : Addr) (xs : List V) : Prop :=
  Rd H a (.lst xs) ∨
    ∃ (o : Obj) (its : Array Value) (n : Nat), K.lookup a = some o ∧ o.cls = .type "list" ∧ o.dict = none ∧ o.data = .seq its n ∧ its.size ≤ sizeLine ∧ Vals xs its.toList
def SqT (K : PySem.W.Frag) (H : Hp) (a : Addr) (xs : List V) : Prop :=
  Rd H a (.tup xs) ∨
    ∃ (o : Obj) (its : Array Value) (n : Nat), K.lookup a = some o ∧ o.cls = .type "tuple" ∧ o.data = .seq its n ∧ its.size ≤ sizeLine ∧ Vals xs its.toList
def absV : Value → Option V
  | .none => some .non
  | .bool b => some (.bl b)
  | .int i _ => some (.int i)
  | .str x _ => some (.str x)
  | .bytes b _ => some (.byt b)
  | .float b _ => some (.flt b)
  | .ref a => some (.ref a)
  | .type n => some (.ty n)
  | _ => none
theorem RelV.abs {x : V} {u : Value} (r : RelV x u) : absV u = some x := by
  cases x with
  | non => cases r; rfl
  | bl _ => cases r; rfl
  | int _ => obtain ⟨t, rfl⟩ := r; rfl
  | str _ => obtain ⟨t, rfl⟩ := r; rfl
  | byt _ => obtain ⟨t, rfl⟩ := r; rfl
  | flt _ => obtain ⟨t, rfl⟩ := r; rfl
  | ref _ => cases r; rfl
  | ty _ => cases r; rfl
theorem RelV.inj {x y : V} {u : Value} (r : RelV x u) (q : RelV y u) : x = y := Option.some.inj (r.abs.symm.trans q.abs)
theorem Vals.inj : ∀ {xs ys : List V} {us : List Value}, Vals xs us → Vals ys us → xs = ys
  | _, _, _, .nil, .nil => rfl
  | _, _, _, .cons r t, .cons r' t' => by rw [r.inj r', Vals.inj t t']
section
variable {X : Cx} {pins : List (Addr × Obj)} {σ : St} {H : Hp} {s : Shared} {a : Addr} {xs ys : List V}
theorem SqL.of {K : PySem.W.Frag} (h : H a = some (.lst xs)) : SqL K H a xs := .inl (.inl h)
theorem SqT.of {K : PySem.W.Frag} (h : H a = some (.tup xs)) : SqT K H a xs := .inl (.inl h)
theorem Inv.list (I : Inv X pins σ H s) (h : SqL X.K H a xs) : ∃ its : List Value, Vals xs its ∧ PlainL s.heap a its.toArray ∧ xs.length ≤ sizeLine := by
  rcases h with h | ⟨o, its, n, hk, hc, hd, hs, hz, r⟩
  · obtain ⟨z, its, n, r, e⟩ := h.ok I.hok
    exact ⟨its, r, ⟨_, n, e, rfl, rfl, rfl⟩, z⟩
  · refine ⟨its.toList, r, ⟨o, n, I.kIn a o hk, hc, hd, by simpa using hs⟩, ?_⟩
    have e := r.length
    simp only [Array.length_toList] at e
    omega
theorem Inv.tuple (I : Inv X pins σ H s) (h : SqT X.K H a xs) : ∃ its : List Value, Vals xs its ∧ IsTup s.heap a its.toArray ∧ xs.length ≤ sizeLine := by
  rcases h with h | ⟨o, its, n, hk, hc, hs, hz, r⟩
  · obtain ⟨z, its, r, p⟩ := h.ok I.hok
    exact ⟨its, r, p, z⟩
  · refine ⟨its.toList, r, ⟨o, I.kIn a o hk, hc, n, by simpa using hs⟩, ?_⟩
    have e := r.length
    simp only [Array.length_toList] at e
    omega
theorem Inv.list_inj (I : Inv X pins σ H s) (h : SqL X.K H a xs) (h' : SqL X.K H a ys) : xs = ys := by
  obtain ⟨its, r, ⟨o, n, e, _, _, d⟩, _⟩ := I.list h
  obtain ⟨its', r', ⟨o', n', e', _, _, d'⟩, _⟩ := I.list h'
  rw [e] at e'; cases e'
  rw [d] at d'
  injection d' with d1 _
  have : its = its' := by simpa using congrArg Array.toList d1
  subst this
  exact r.inj r'
theorem Inv.tuple_inj (I : Inv X pins σ H s) (h : SqT X.K H a xs) (h' : SqT X.K H a ys) : xs = ys := by
  obtain ⟨its, r, ⟨o, e, _, n, d⟩, _⟩ := I.tuple h
  obtain ⟨its', r', ⟨o', e', _, n', d'⟩, _⟩ := I.tuple h'
  rw [e] at e'; cases e'
  rw [d] at d'
  injection d' with d1 _
  have : its = its' := by simpa using congrArg Array.toList d1
  subst this
  exact r.inj r'
end

/-! ### another wish about exceptions -/
abbrev Cx.wish (X : Cx) (E : Value → Shared → Prop) : Cx := { X with xe := E }
/-- no exception leaves -/
abbrev Cx.nox (X : Cx) : Cx := X.wish fun _ _ => False
theorem Cx.Ok.wish {X : Cx} (ok : X.Ok) (E : Value → Shared → Prop) : (X.wish E).Ok :=
  ⟨ok.mod, ok.kind, ok.glob, ok.blt, ok.above, ok.inj, ok.has, ok.cab, ok.hd, ok.frames, ok.stk, ok.exf, ok.bs, ok.bsz, ok.noex, ok.exfs, ok.funs, ok.frf⟩
theorem Cx.Ok.unwish {X : Cx} {E : Value → Shared → Prop} (ok : (X.wish E).Ok) : X.Ok :=
  ⟨ok.mod, ok.kind, ok.glob, ok.blt, ok.above, ok.inj, ok.has, ok.cab, ok.hd, ok.frames, ok.stk, ok.exf, ok.bs, ok.bsz, ok.noex, ok.exfs, ok.funs, ok.frf⟩
section
variable {X : Cx} {pins : List (Addr × Obj)} {σ : St} {H : Hp} {s : Shared} {E : Value → Shared → Prop}
theorem Inv.wish (I : Inv X pins σ H s) (E : Value → Shared → Prop) : Inv (X.wish E) pins σ H s := ⟨I.ok.wish E, I.os, I.bare, I.base, I.loc, I.cell, I.free, I.freeC, I.pin, I.hok, I.len⟩
theorem Inv.unwish (I : Inv (X.wish E) pins σ H s) : Inv X pins σ H s := ⟨I.ok.unwish, I.os, I.bare, I.base, I.loc, I.cell, I.free, I.freeC, I.pin, I.hok, I.len⟩
theorem SP.unwish {D : Ends} {f : Flow} {s' : Shared} (h : SP (X.wish E) pins D f s') : SP X pins D f s' := by
  cases f with
  | next => obtain ⟨σ', H', I, q⟩ := h; exact ⟨σ', H', I.unwish, q⟩
  | brk => obtain ⟨σ', H', I, q⟩ := h; exact ⟨σ', H', I.unwish, q⟩
  | cont => obtain ⟨σ', H', I, q⟩ := h; exact ⟨σ', H', I.unwish, q⟩
  | ret u => obtain ⟨v, σ', H', I, r, q⟩ := h; exact ⟨v, σ', H', I.unwish, r, q⟩
theorem PE.nox {e : Expr} {t : TE} (h : PE X.nox e t) : PE X e t := fun pins s σ H Q I hw =>
  wpAny_mono (h pins s σ H Q (I.wish _) hw) (fun _ _ ⟨v, H', I', r, q⟩ => ⟨v, H', I'.unwish, r, q⟩) fun _ _ z => False.elim z
theorem PT.nox {e : Expr} {t : TT} (h : PT X.nox e t) : PT X e t := fun pins s σ H Q I hw =>
  wpAny_mono (h pins s σ H Q (I.wish _) hw) (fun _ _ ⟨H', I', q⟩ => ⟨H', I'.unwish, q⟩) fun _ _ z => False.elim z
theorem PSs.nox {st : List Stmt} {t : TS} (h : PSs X.nox st t) : PSs X st t := fun pins s σ H D I hw =>
  wpAny_mono (h pins s σ H D (I.wish _) hw) (fun _ _ q => q.unwish) fun _ _ z => False.elim z
end

/-! ### blocks and small statements -/
section
variable {X : Cx} {st : Stmt} {rest : List Stmt} {t u : TS} {e : Expr} {te : TE} {pos : Pos}
def tNext : TS := fun D σ H => D.nx σ H
def tSeq (t u : TS) : TS := fun D σ H => t { D with nx := u D } σ H
theorem pss_nil : PSs X [] tNext := fun _ _ σ H _ I h => wpAny_execs_nil ⟨σ, H, I, h⟩
theorem pss_cons (h1 : PS X st t) (h2 : PSs X rest u) : PSs X (st :: rest) (tSeq t u) := by
  intro pins s σ H D I h
  refine wpAny_execs_cons (thn (h1 pins s σ H { D with nx := u D } I h) fun f s1 q => ?_)
  cases f with
  | next =>
    obtain ⟨σ', H', I', q⟩ := q
    exact h2 pins s1 σ' H' D I' q
  | ret v => exact q
  | brk => exact q
  | cont => exact q
theorem pss_one (h1 : PS X st t) : PSs X [st] t := by
  intro pins s σ H D I h
  refine wpAny_execs_cons (thn (h1 pins s σ H D I h) fun f s1 q => ?_)
  cases f with
  | next => exact wpAny_execs_nil q
  | ret v => exact q
  | brk => exact q
  | cont => exact q
/-- in a def's body nothing is shown -/
theorem Inv.quiet {pins : List (Addr × Obj)} {σ : St} {H : Hp} {s : Shared} (I : Inv X pins σ H s) : interactive X.env = false := by simp [interactive, I.ok.kind]
/-- an expression whose value is dropped -/
def tDrop (te : TE) : TS := fun D σ H => te σ H fun _ H1 => D.nx σ H1
theorem ps_expr (he : PE X e te) (hs : swapsWith e none pos.line X.env = pure false := by rfl) : PS X (.Expr e pos) (tDrop te) := by
  intro pins s σ H D I h
  exact wpAny_Expr_any (thn (he pins s σ H _ I h) fun v s1 ⟨x, H1, I1, r1, q1⟩ => ⟨σ, H1, I1, q1⟩) I.quiet hs
def tRet (te : TE) : TS := fun D σ H => te σ H D.rt
theorem ps_ret (he : PE X e te) : PS X (.Return (some e) pos) (tRet te) := by
  intro pins s σ H D I h
  exact wpAny_Return_some (thn (he pins s σ H _ I h) fun v s1 ⟨x, H1, I1, r1, q1⟩ => ⟨x, σ, H1, I1, r1, q1⟩)
def tIfS (c : TT) (t u : TS) : TS := fun D σ H => c σ H fun b H1 => if b = true then t D σ H1 else u D σ H1
theorem ps_if {c : Expr} {a b : List Stmt} {tc : TT} (hc : PT X c tc) (ha : PSs X a t) (hb : PSs X b u) : PS X (.If c a b pos) (tIfS tc t u) := by
  intro pins s σ H D I h
  refine wpAny_If (thn (hc pins s σ H _ I h) fun d s1 ⟨H1, I1, q1⟩ => ?_)
  cases d with
  | true => exact ha pins s1 σ H1 D I1 q1
  | false => exact hb pins s1 σ H1 D I1 q1
/-- code that the proof never comes to -/
def tNever : TS := fun _ _ _ => False
theorem ps_never : PS X st tNever := fun _ _ _ _ _ _ h => h.elim
end

/-! ### targets -/
abbrev TG := V → St → Hp → (St → Hp → Prop) → Prop
abbrev TGs := List V → St → Hp → (St → Hp → Prop) → Prop
def PG (X : Cx) (target : Expr) (t : TG) : Prop :=
  ∀ (pins : List (Addr × Obj)) (s : Shared) (σ : St) (H : Hp) (v : V) (u : Value) (Q : St → Hp → Prop), Inv X pins σ H s → RelV v u → t v σ H Q →
    wpAny (model X.prog X.w) X.A (assign target X.env u) (fun _ s' => ∃ σ' H', Inv X pins σ' H' s' ∧ Q σ' H') X.xe s
/-- several targets, one after another -/
def PGs (X : Cx) (ts : List Expr) (t : TGs) : Prop :=
  ∀ (pins : List (Addr × Obj)) (s : Shared) (σ : St) (H : Hp) (vs : List V) (us : List Value) (Q : St → Hp → Prop), Inv X pins σ H s → Vals vs us → t vs σ H Q →
    wpAny (model X.prog X.w) X.A (assignInOrder ((assignEach ts X.env).map (·.2)) us) (fun _ s' => ∃ σ' H', Inv X pins σ' H' s' ∧ Q σ' H') X.xe s
/-- o[i] = v, by values -/
abbrev TSet := V → V → V → Hp → (Hp → Prop) → Prop
def PSet (X : Cx) (t : TSet) : Prop :=
  ∀ (pins : List (Addr × Obj)) (s : Shared) (σ : St) (H : Hp) (o i v : V) (ov iv u : Value) (Q : Hp → Prop), Inv X pins σ H s → RelV o ov → RelV i iv → RelV v u → t o i v H Q →
    wpAny (model X.prog X.w) X.A (setItem ov iv u) (fun _ s' => ∃ H', Inv X pins σ H' s' ∧ Q H') X.xe s
section
variable {X : Cx} {pos : Pos}
def gName (i : Nat) : TG := fun v σ H Q => Q (σ.set i (some v)) H
theorem pg_name {i : Nat} {x : Str} (hN : X.N.Nodup) (hi : X.N[i]? = some x) (hx : Loc X.env.scope x) (hf : X.fn x = true ∨ X.env.scope.names.lookup x = some .local := by first | exact .inl rfl | exact .inr rfl | assumption) : PG X (.Name x pos) (gName i) := by
  intro pins s σ H v u Q I r h
  exact wpAny_assign_Name (store_ok I hN hi hx r (fun s' I' => ⟨_, H, I', h⟩) hf)
def gNil : TGs := fun vs σ H Q => vs = [] ∧ Q σ H
def gCons (t : TG) (u : TGs) : TGs := fun vs σ H Q => ∃ v r, vs = v :: r ∧ t v σ H fun σ' H' => u r σ' H' Q
theorem pgs_nil : PGs X [] gNil := by
  intro pins s σ H vs us Q I r h
  obtain ⟨e, h⟩ := h
  subst e
  cases r
  exact assignInOrder_nil ⟨σ, H, I, h⟩
theorem pgs_cons {e : Expr} {es : List Expr} {t : TG} {u : TGs} (h1 : PG X e t) (h2 : PGs X es u)
    (hs : (assignEach (e :: es) X.env).map (·.2) = assign e X.env :: (assignEach es X.env).map (·.2) := by rfl) : PGs X (e :: es) (gCons t u) := by
  intro pins s σ H vs us Q I r h
  obtain ⟨v, vr, e1, h⟩ := h
  subst e1
  cases r with
  | cons r rr =>
    rw [hs]
    refine assignInOrder_cons (thn (h1 pins s σ H _ _ _ I r h) fun _ s1 ⟨σ1, H1, I1, q1⟩ => ?_)
    exact h2 pins s1 σ1 H1 _ _ Q I1 rr q1
/-- (a, b, ..) = a tuple of that length -/
def gTup (K : PySem.W.Frag) (n : Nat) (t : TGs) : TG := fun v σ H Q => ∃ a xs, v = .ref a ∧ SqT K H a xs ∧ xs.length = n ∧ t xs σ H Q
theorem pg_tup {es : List Expr} {k : Nat} {t : TGs} {n : Nat} (hc : X.calm = true) (h : PGs X es t)
    (hn : (assignEach es X.env).length = n := by rfl) (hst : (assignEach es X.env).findIdx? (·.1) = none := by rfl) : PG X (.Tuple es k pos) (gTup X.K n t) := by
  intro pins s σ H v u Q I r hw
  obtain ⟨a, xs, e1, hq, hl, hw⟩ := hw
  subst e1
  cases r
  obtain ⟨its, rv, ht, hz⟩ := I.tuple hq
  refine assign_Tuple_tuple (I.ok.hd hc) ht (by simp [hn, ← hl, rv.length]) hst fun h' hx => ?_
  have I1 : Inv X pins σ H { s with heap := h' } := I.kept (t' := s.toks) fun b o e => hx b o (Nat.ne_of_lt (Heap.lt_size e)) e
  exact h pins _ σ H xs _ Q I1 (by simpa using rv) hw
/-- o[i] = .. -/
def gSub (to ti : TE) (t : TSet) : TG := fun v σ H Q => to σ H fun o H1 => ti σ H1 fun i H2 => t o i v H2 fun H3 => Q σ H3
theorem pg_sub {o i : Expr} {to ti : TE} {t : TSet} (ho : PE X o to) (hi : PE X i ti) (hs : PSet X t)
    (ha : ∀ v, assign (.Subscript o i pos) X.env v = (do
      let ov ← holding [v] (eval o X.env)
      let iv ← holding [v, ov] (eval i X.env)
      standAt pos
      holding [v, ov, iv] (setItem ov iv v)
      release [v, ov, iv] []) := by intro _; rfl) : PG X (.Subscript o i pos) (gSub to ti t) := by
  intro pins s σ H v u Q I r h
  rw [ha]
  refine wpAny_bind (wpAny_holding (thn (ho pins s σ H _ I h) fun ov s1 ⟨x, H1, I1, r1, q1⟩ => ?_))
  refine wpAny_bind (wpAny_holding (thn (hi pins s1 σ H1 _ I1 q1) fun iv s2 ⟨y, H2, I2, r2, q2⟩ => ?_))
  refine wpAny_bind (wpAny_standAt (wpAny_bind (wpAny_holding (thn (hs pins s2 σ H2 x y v ov iv u _ I2 r1 r2 r q2) fun _ s3 ⟨H3, I3, q3⟩ => ?_))))
  exact wpAny_release ⟨σ, H3, I3, q3⟩
/-- target = value -/
def tAsg (te : TE) (g : TG) : TS := fun D σ H => te σ H fun x H1 => g x σ H1 D.nx
theorem ps_asg {tg e : Expr} {te : TE} {g : TG} (he : PE X e te) (hg : PG X tg g) (hs : swapsWithSole [tg] e pos.line X.env = pure false := by rfl) (hw : swappedStores [tg] e X.env = pure none := by rfl)
    (h1 : (assignEach [tg] X.env).map (·.2) = [assign tg X.env] := by rfl) : PS X (.Assign [tg] e pos) (tAsg te g) := by
  intro pins s σ H D I h
  refine wpAny_Assign_stores (thn (he pins s σ H _ I h) fun v s1 ⟨x, H1, I1, r1, q1⟩ => ?_) hs hw
  rw [h1]
  exact thn (hg pins s1 σ H1 x v _ I1 r1 q1) fun _ s2 q => q
/-- name = value -/
theorem ps_set {i : Nat} {x : Str} {e : Expr} {te : TE} {pos' : Pos} (hN : X.N.Nodup) (hi : X.N[i]? = some x) (hx : Loc X.env.scope x) (he : PE X e te) (hs : swapsWith e (some (.Name x pos')) pos.line X.env = pure false := by rfl) (hf : X.fn x = true ∨ X.env.scope.names.lookup x = some .local := by first | exact .inl rfl | exact .inr rfl | assumption) :
    PS X (.Assign [.Name x pos'] e pos) (tAsg te (gName i)) := by
  intro pins s σ H D I h
  refine wpAny_Assign_Name (thn (he pins s σ H _ I h) fun v s1 ⟨y, H1, I1, r1, q1⟩ => ?_) hs
  exact store_ok I1 hN hi hx r1 (fun s2 I2 => ⟨_, H1, I2, q1⟩) hf
/-- a, b = x, y with plain local names: stored from the right; the pair itself is not tracked (the opening rows as in PyProof/Rows/TupAssign.lean:23) -/
def tPar (i j : Nat) (ta : TA) : TS := fun D σ H => ta σ H fun vs H1 => ∃ v w, vs = [v, w] ∧ D.nx ((σ.set i (some v)).set j (some w)) H1
theorem ps_par {i j : Nat} {x y : Str} {a b : Expr} {ta : TA} {px py pt : Pos} {kt k2 pt2} (hc : X.calm = true) (hN : X.N.Nodup) (hi : X.N[i]? = some x) (hj : X.N[j]? = some y) (hij : i ≠ j)
    (hx : X.env.scope.names.lookup x = some .local) (hy : X.env.scope.names.lookup y = some .local) (ha : PA X [a, b] ta)
    (hw : swappedStores [.Tuple [.Name x px, .Name y py] kt pt] (.Tuple [a, b] k2 pt2) X.env = pure (some [x, y]))
    (hs : swapsWithSole [.Tuple [.Name x px, .Name y py] kt pt] (.Tuple [a, b] k2 pt2) pos.line X.env = pure false := by rfl) :
    PS X (.Assign [.Tuple [.Name x px, .Name y py] kt pt] (.Tuple [a, b] k2 pt2) pos) (tPar i j ta) := by
  intro pins s σ H D I h
  rw [exec_Assign_arm]
  refine wpAny_bind (wpAny_standAt ?_)
  rw [hs]
  refine wpAny_bind (wpAny_pure ?_)
  rw [if_neg (by decide)]
  refine wpAny_bind (Tuple_ (thn (ha _ pins s σ H _ I h) fun us s1 ⟨vs, H1, I1, r1, q1⟩ => ?_))
  obtain ⟨v, w, e1, q1⟩ := q1
  subst e1
  obtain ⟨u1, u2, rfl, rv, rw'⟩ : ∃ u1 u2, us = [u1, u2] ∧ RelV v u1 ∧ RelV w u2 := by
    cases r1 with
    | cons p q =>
      cases q with
      | cons p' q' =>
        cases q'
        exact ⟨_, _, rfl, p, p'⟩
  refine wpAny_newObj_type ?_ (by show 2 ≤ sizeLine; decide)
  have I2 : Inv X pins σ H1 { s1 with heap := s1.heap.push { cls := .type "tuple", data := .seq [u1, u2].toArray } } := I1.kept (t' := s1.toks) fun b o e => Heap.get?_push_of_some _ e
  rw [hw]
  refine wpAny_bind (wpAny_pure ?_)
  show wpAny (model X.prog X.w) X.A (do rule "assign.swapped-stores"; let items ← unpackItems (.ref s1.heap.objs.size) 2 none; assignInOrder [fun v => bindName X.env y v, fun v => bindName X.env x v] items.reverse; pure Flow.next) _ _ _
  refine wpAny_bind (wpAny_rule (wpAny_bind (unpackItems_tuple (items := #[u1, u2]) (I.ok.hd hc) (IsTup.new s1.heap _) fun h' hx' => ?_)))
  have I3 := I2.kept (h' := h') (t' := s1.toks) fun b o e => hx' b o (Nat.ne_of_lt (Heap.lt_size e)) e
  show wpAny _ _ (assignInOrder [fun v => bindName X.env y v, fun v => bindName X.env x v] [u2, u1] >>= fun _ => pure Flow.next) _ _ _
  refine wpAny_bind (assignInOrder_cons (wpAny_bindName (store_ok I3 hN hj (.inl hy) rw' (fun s2 I4 => ?_) (.inr hy))))
  refine assignInOrder_cons (wpAny_bindName (store_ok I4 hN hi (.inl hx) rv (fun s3 I5 => assignInOrder_nil (wpAny_pure ?_)) (.inr hx)))
  rw [List.set_comm _ _ (Ne.symm hij)] at I5
  exact ⟨_, H1, I5, q1⟩
end

/-! ### while -/
section
variable {X : Cx} {pos : Pos}
end

/-! ### what a loop or a comprehension walks -/
/-- at turn i: it yields x (the heap may grow), or it stops -/
structure It where
  go : Nat → Hp → Prop
  yld : Nat → Hp → V → Hp → Prop
  stop : Nat → Hp → Prop
/-- the iterator's own objects may turn: they are not the frame's, not pinned, younger than the entry (or a comprehension's own) -/
def FpOk (X : Cx) (pins : List (Addr × Obj)) (H : Hp) (b : Addr) : Prop :=
  H b = none ∧ b ≠ X.env.locals ∧ b ∉ X.fs ∧ (b ∈ X.ex ∨ X.s_0.heap.objs.size ≤ b) ∧ (∀ x c, X.env.cells.lookup x = some c → c ≠ b) ∧ ∀ p ∈ X.pn ++ pins, p.1 ≠ b
theorem Inv.fpOk {X : Cx} {pins : List (Addr × Obj)} {σ : St} {H H' : Hp} {s : Shared} {b : Addr} (I : Inv X pins σ H s) (hb : s.heap.objs.size ≤ b) (hn : H' b = none) : FpOk X pins H' b := by
  refine ⟨hn, Nat.ne_of_gt (Nat.lt_of_lt_of_le I.lt hb), I.nofs hb, .inr (Nat.le_trans I.sz hb), fun x c e z => ?_, fun p hp z => ?_⟩
  · obtain ⟨v, q⟩ := I.cell x c e
    exact absurd (Nat.lt_of_lt_of_le q.lt (by rw [z]; exact hb)) (Nat.lt_irrefl _)
  · exact absurd (Nat.lt_of_lt_of_le (Heap.lt_size (I.pin p hp).1) (by rw [z]; exact hb)) (Nat.lt_irrefl _)
structure Turn (P : Program) (w : World) (K : PySem.W.Frag) (tg : Expr) (J : It) (fp : List Addr) (it : Addr) (tn : Nat → Heap → Prop) : Prop where
  mem : it ∈ fp
  obj : ∀ i h, tn i h → ∀ b ∈ fp, ∃ o, h.get? b = some o ∧ ∀ v, o.data ≠ .cell v
  keep : ∀ i h h', tn i h → (∀ b ∈ fp, ∀ o, h.get? b = some o → h'.get? b = some o) → tn i h'
  item : ∀ (X : Cx), X.prog = P → X.w = w → X.K = K → X.calm = true → ∀ (i : Nat) (pins : List (Addr × Obj)) (s : Shared) (σ : St) (H : Hp) (E : Value → Shared → Prop), Inv X pins σ H s → (∀ b ∈ fp, FpOk X pins H b) → tn i s.heap → J.go i H →
    wpAny (model P w) X.A (pyNext (.ref it)) (fun r s1 => ∃ u, r = some u ∧
      wpAny (model P w) X.A (letOwnedTupleGo tg (.ref it) u) (fun _ s2 => ∃ x H', Inv X pins σ H' s2 ∧ RelV x u ∧ J.yld i H x H' ∧ tn (i + 1) s2.heap ∧ ∀ b ∈ fp, H' b = none) E s1) E s
  done : ∀ (X : Cx), X.prog = P → X.w = w → X.K = K → X.calm = true → ∀ (i : Nat) (pins : List (Addr × Obj)) (s : Shared) (σ : St) (H : Hp) (E : Value → Shared → Prop), Inv X pins σ H s → (∀ b ∈ fp, FpOk X pins H b) → tn i s.heap → J.stop i H →
    wpAny (model P w) X.A (pyNext (.ref it)) (fun r s1 => r = none ∧ Inv X pins σ H s1) E s
  self : ∀ (A : Around) (i : Nat) (s : Shared) (Q : Value → Shared → Prop) (E : Value → Shared → Prop), tn i s.heap → Q (.ref it) s → wpAny (model P w) A (pyIter (.ref it)) Q E s
abbrev TI := St → Hp → (It → Hp → Prop) → Prop
/-- an iterator has come -/
def PIE (X : Cx) (pins : List (Addr × Obj)) (σ : St) (tg : Expr) (R : It → Hp → Prop) (itv : Value) (s2 : Shared) : Prop :=
  ∃ (it : Addr) (fp : List Addr) (tn : Nat → Heap → Prop) (J : It) (H' : Hp), itv = .ref it ∧ Inv X pins σ H' s2 ∧ Turn X.prog X.w X.K tg J fp it tn ∧ tn 0 s2.heap ∧ (∀ b ∈ fp, FpOk X pins H' b) ∧ R J H'
def PI (X : Cx) (tg iter : Expr) (wi : TI) : Prop :=
  ∀ (pins : List (Addr × Obj)) (s : Shared) (σ : St) (H : Hp) (R : It → Hp → Prop), Inv X pins σ H s → wi σ H R →
    wpAny (model X.prog X.w) X.A (eval iter X.env) (fun v s1 => wpAny (model X.prog X.w) X.A (pyIter v) (PIE X pins σ tg R) X.xe s1) X.xe s

/-- the step ahead of the store is nothing for an iterator that keeps no tuple -/
theorem go_of {M : Model} {A : Around} {E : Value → Shared → Prop} {s : Shared} {tg : Expr} {it : Addr} {u : Value} {o : Obj} {n : String} {vs : Array Value} {Q : Unit → Shared → Prop} (ho : s.heap.get? it = some o) (hc : o.cls = .type n) (hd : o.data = .fields vs)
    (hn : ["enumerate", "zip", "dict_itemiterator", "dict_reverseitemiterator", "odict_iterator", "itertools.zip_longest", "itertools.pairwise"].contains n = false) (hQ : Q () s) : wpAny M A (letOwnedTupleGo tg (.ref it) u) Q E s := by
  unfold letOwnedTupleGo
  cases tg <;> first
    | exact wpAny_pure hQ
    | (cases u <;> first
        | exact wpAny_pure hQ
        | (refine wpAny_bind (wpAny_load ho ?_)
           rw [hc, hd]
           show wpAny M A (if (["enumerate", "zip", "dict_itemiterator", "dict_reverseitemiterator", "odict_iterator", "itertools.zip_longest", "itertools.pairwise"].contains n && vs[0]? == some (rawInt _)) = true then _ else _) Q E s
           rw [if_neg (by intro h; rw [hn, Bool.false_and] at h; cases h)]
           exact wpAny_pure hQ))

/-- the list at a, as it stands at each turn (a loop may append to it) -/
def Itl (K : PySem.W.Frag) (a : Addr) : It :=
  ⟨fun i H => ∃ xs x, SqL K H a xs ∧ xs[i]? = some x, fun i H x H' => H' = H ∧ ∀ xs, SqL K H a xs → xs[i]? = some x, fun i H => ∃ xs, SqL K H a xs ∧ xs.length ≤ i⟩
def Itt (K : PySem.W.Frag) (a : Addr) : It :=
  ⟨fun i H => ∃ xs x, SqT K H a xs ∧ xs[i]? = some x, fun i H x H' => H' = H ∧ ∀ xs, SqT K H a xs → xs[i]? = some x, fun i H => ∃ xs, SqT K H a xs ∧ xs.length ≤ i⟩
/-- lo, lo + 1, .. (n of them) -/
def Itr (lo : Int) (n : Nat) : It := ⟨fun i _ => i < n, fun i H x H' => H' = H ∧ x = .int (lo + i), fun i _ => n ≤ i⟩
theorem turn_list {P : Program} {w : World} {K : PySem.W.Frag} {tg : Expr} (a it : Addr) : Turn P w K tg (Itl K a) [it] it (fun i h => h.IsListIter it a i) where
  mem := by simp
  obj := fun i h st b hb => by
    have e : b = it := by simpa using hb
    subst e
    obtain ⟨o, e, c, d⟩ := st
    exact ⟨o, e, fun v z => by rw [d] at z; cases z⟩
  keep := fun i h h' st k => st.at fun o e => k it (by simp) o e
  item := by
    intro X hP hw hK hc i pins s σ H E I hf st hg
    subst hP hw hK
    obtain ⟨xs, x, hq, hx⟩ := hg
    obtain ⟨its, rv, p, hz⟩ := I.list hq
    obtain ⟨u, hu, ru⟩ := rv.get hx
    obtain ⟨f0, f1, f2, f3, f4, f5⟩ := hf it (by simp)
    refine wpAny_pyNext_list_item st p.isList (x := u) (by simpa using hu) fun h' st' sb => ?_
    have I1 : Inv X pins σ H { s with heap := h' } := I.turned (t' := s.toks) (fun b o hb e => (sb.2 b hb).trans e) f0 f1 f3 f4 f5
    obtain ⟨o, e, c, d⟩ := id st'
    exact ⟨u, rfl, go_of (s := { s with heap := h' }) e c d (by decide) ⟨x, H, I1, ru, ⟨rfl, fun ys hy => by rw [I.list_inj hy hq]; exact hx⟩, st', fun b hb => (hf b hb).1⟩⟩
  done := by
    intro X hP hw hK hc i pins s σ H E I hf st hg
    subst hP hw hK
    obtain ⟨xs, hq, hx⟩ := hg
    obtain ⟨its, rv, p, hz⟩ := I.list hq
    obtain ⟨f0, f1, f2, f3, f4, f5⟩ := hf it (by simp)
    have hl := rv.length
    exact wpAny_pyNext_list_end (I.ok.hd hc) st p.isList (by simp; omega) fun h' eb => ⟨rfl, I.turned (t' := s.toks) (fun b o hb e => eb b o hb e) f0 f1 f3 f4 f5⟩
  self := fun _ _ _ _ _ st h => wpAny_pyIter_listiter st h
theorem turn_tuple {P : Program} {w : World} {K : PySem.W.Frag} {tg : Expr} (a it : Addr) : Turn P w K tg (Itt K a) [it] it (fun i h => h.IsTupleIter it a i) where
  mem := by simp
  obj := fun i h st b hb => by
    have e : b = it := by simpa using hb
    subst e
    obtain ⟨o, e, c, d⟩ := st
    exact ⟨o, e, fun v z => by rw [d] at z; cases z⟩
  keep := fun i h h' st k => st.at fun o e => k it (by simp) o e
  item := by
    intro X hP hw hK hc i pins s σ H E I hf st hg
    subst hP hw hK
    obtain ⟨xs, x, hq, hx⟩ := hg
    obtain ⟨its, rv, p, hz⟩ := I.tuple hq
    obtain ⟨u, hu, ru⟩ := rv.get hx
    obtain ⟨f0, f1, f2, f3, f4, f5⟩ := hf it (by simp)
    refine wpAny_pyNext_tuple_item st (show s.heap.IsTuple a its.toArray from p) (x := u) (by simpa using hu) fun h' st' sb => ?_
    have I1 : Inv X pins σ H { s with heap := h' } := I.turned (t' := s.toks) (fun b o hb e => (sb.2 b hb).trans e) f0 f1 f3 f4 f5
    obtain ⟨o, e, c, d⟩ := id st'
    exact ⟨u, rfl, go_of (s := { s with heap := h' }) e c d (by decide) ⟨x, H, I1, ru, ⟨rfl, fun ys hy => by rw [I.tuple_inj hy hq]; exact hx⟩, st', fun b hb => (hf b hb).1⟩⟩
  done := by
    intro X hP hw hK hc i pins s σ H E I hf st hg
    subst hP hw hK
    obtain ⟨xs, hq, hx⟩ := hg
    obtain ⟨its, rv, p, hz⟩ := I.tuple hq
    obtain ⟨f0, f1, f2, f3, f4, f5⟩ := hf it (by simp)
    have hl := rv.length
    exact wpAny_pyNext_tuple_end (I.ok.hd hc) st (show s.heap.IsTuple a its.toArray from p) (by simp; omega) fun h' eb => ⟨rfl, I.turned (t' := s.toks) (fun b o hb e => eb b o hb e) f0 f1 f3 f4 f5⟩
  self := fun _ _ _ _ _ st h => wpAny_pyIter_tupleiter st h
theorem turn_range {P : Program} {w : World} {K : PySem.W.Frag} {tg : Expr} (it : Addr) (lo : Int) (n : Nat) : Turn P w K tg (Itr lo n) [it] it (fun i h => IsRangeIter h it (lo + (i : Nat) * 1) ((n : Int) - (i : Nat)) 1) where
  mem := by simp
  obj := fun i h st b hb => by
    have e : b = it := by simpa using hb
    subst e
    exact ⟨_, st, fun v z => by
      have z' : Data.fields _ = Data.cell v := z
      cases z'⟩
  keep := fun i h h' st k => k it (by simp) _ st
  item := by
    intro X hP hw hK hc i pins s σ H E I hf st hg
    subst hP hw hK
    obtain ⟨f0, f1, f2, f3, f4, f5⟩ := hf it (by simp)
    have W := Walks.range (prog := X.prog) (w := X.w) (I.ok.hd hc) it lo 1 n
    refine W.item i s _ _ hg st fun v h' tk hv st' kk => ?_
    obtain ⟨t, rfl⟩ := hv
    have I1 : Inv X pins σ H { s with heap := h', toks := tk } := I.turned (fun b o hb e => kk b o (by simpa using hb) e) f0 f1 f3 f4 f5
    refine ⟨_, rfl, go_of (s := { s with heap := h', toks := tk }) (n := "range_iterator") st' rfl rfl (by decide) ⟨.int (lo + i), H, I1, ⟨t, ?_⟩, ⟨rfl, rfl⟩, st', fun b hb => (hf b hb).1⟩⟩
    rw [Int.mul_one]
  done := by
    intro X hP hw hK hc i pins s σ H E I hf st hg
    subst hP hw hK
    obtain ⟨f0, f1, f2, f3, f4, f5⟩ := hf it (by simp)
    exact wpAny_pyNext_range_end (I.ok.hd hc) st (by have : n ≤ i := hg; omega) fun h' eb => ⟨rfl, I.turned (t' := s.toks) (fun b o hb e => eb b o hb e) f0 f1 f3 f4 f5⟩
  self := fun _ _ _ _ _ st h => wpAny_pyIter_rangeiter st h
end L2

namespace L2
open PySem PySem.Spec PyProof.Rows
section
variable {X : Cx} {tg : Expr}
def iList (K : PySem.W.Frag) (tl : TE) : TI := fun σ H R => tl σ H fun x H1 => ∃ a, x = .ref a ∧ (∃ xs, SqL K H1 a xs) ∧ R (Itl K a) H1
def iTup (K : PySem.W.Frag) (tl : TE) : TI := fun σ H R => tl σ H fun x H1 => ∃ a, x = .ref a ∧ (∃ xs, SqT K H1 a xs) ∧ R (Itt K a) H1
theorem pi_list {l : Expr} {tl : TE} (hl : PE X l tl) : PI X tg l (iList X.K tl) := by
  intro pins s σ H R I h
  refine thn (hl pins s σ H _ I h) fun v s1 ⟨x, H1, I1, r1, q1⟩ => ?_
  obtain ⟨a, e, ⟨xs, hq⟩, q⟩ := q1
  subst e
  cases r1
  obtain ⟨its, rv, p, hz⟩ := I1.list hq
  refine wpAny_pyIter_list p.isList ?_
  refine ⟨s1.heap.objs.size, [s1.heap.objs.size], _, _, H1, rfl, I1.kept (t' := s1.toks) fun b o e => Heap.get?_push_of_some _ e, turn_list a _, ⟨_, Heap.get?_push_size _ rfl, rfl, rfl⟩, fun b hb => ?_, q⟩
  have e : b = s1.heap.objs.size := by simpa using hb
  subst e
  exact I1.fpOk (Nat.le_refl _) (I1.hok.fresh (Nat.le_refl _))
theorem pi_tup {l : Expr} {tl : TE} (hl : PE X l tl) : PI X tg l (iTup X.K tl) := by
  intro pins s σ H R I h
  refine thn (hl pins s σ H _ I h) fun v s1 ⟨x, H1, I1, r1, q1⟩ => ?_
  obtain ⟨a, e, ⟨xs, hq⟩, q⟩ := q1
  subst e
  cases r1
  obtain ⟨its, rv, p, hz⟩ := I1.tuple hq
  refine wpAny_pyIter_tuple (show s1.heap.IsTuple a its.toArray from p) ?_
  refine ⟨s1.heap.objs.size, [s1.heap.objs.size], _, _, H1, rfl, I1.kept (t' := s1.toks) fun b o e => Heap.get?_push_of_some _ e, turn_tuple a _, ⟨_, Heap.get?_push_size _ rfl, rfl, rfl⟩, fun b hb => ?_, q⟩
  have e : b = s1.heap.objs.size := by simpa using hb
  subst e
  exact I1.fpOk (Nat.le_refl _) (I1.hok.fresh (Nat.le_refl _))
/-- a range object just made, walked -/
theorem range_it {pins : List (Addr × Obj)} {σ : St} {H : Hp} {s : Shared} {R : It → Hp → Prop} {E : Value → Shared → Prop} {lo hi : Int} {t u v : Tok} {tk : Nat} (I : Inv X pins σ H s) (h1 : -(2 ^ 62) ≤ lo) (h2 : lo < 2 ^ 62) (h3 : -(2 ^ 62) ≤ hi) (h4 : hi < 2 ^ 62)
    (q : R (Itr lo (hi - lo).toNat) H) : wpAny (model X.prog X.w) X.A (pyIter (.ref s.heap.objs.size)) (PIE X pins σ tg R) E { s with heap := s.heap.push { cls := .type "range", data := .fields #[.int lo t, .int hi u, .int 1 v] }, toks := tk } := by
  refine wpAny_pyIter_range (IsRange.new ..) (small_one h1 h2 h3 h4) ?_
  have I1 : Inv X pins σ H { s with heap := s.heap.push { cls := .type "range", data := .fields #[.int lo t, .int hi u, .int 1 v] }, toks := tk } := I.kept fun b o e => Heap.get?_push_of_some _ e
  refine ⟨(s.heap.push { cls := .type "range", data := .fields #[.int lo t, .int hi u, .int 1 v] }).objs.size, [(s.heap.push { cls := .type "range", data := .fields #[.int lo t, .int hi u, .int 1 v] }).objs.size], _, _, H, rfl,
    I1.kept (t' := tk) fun b o e => Heap.get?_push_of_some _ e, turn_range _ lo (hi - lo).toNat, ?_, fun b hb => ?_, q⟩
  · have e1 : lo + ((0 : Nat) : Int) * 1 = lo := by simp
    have e2 : (((hi - lo).toNat : Nat) : Int) - ((0 : Nat) : Int) = Builtin.Range.rangeSize lo hi 1 := by rw [rangeSize_one]; split <;> omega
    show IsRangeIter _ _ (lo + ((0 : Nat) : Int) * 1) ((((hi - lo).toNat : Nat) : Int) - ((0 : Nat) : Int)) 1
    rw [e1, e2]
    exact Heap.get?_push_size _ rfl
  · have e : b = (s.heap.push { cls := .type "range", data := .fields #[.int lo t, .int hi u, .int 1 v] }).objs.size := by simpa using hb
    subst e
    exact I1.fpOk (Nat.le_refl _) (I1.hok.fresh (Nat.le_refl _))
def iRng1 (ta : TA) : TI := fun σ H R => ta σ H fun vs H1 => ∃ j : Int, vs = [.int j] ∧ -(2 ^ 62) ≤ j ∧ j < 2 ^ 62 ∧ R (Itr 0 j.toNat) H1
theorem pi_range1 {a : Expr} {ta : TA} {p pos : Pos} (hg : Gl X "range") (hm : X.mg "range" = none) (ha : PA X [a] ta) (hs : starEach [a] X.env = [(false, eval a X.env)] := by rfl) : PI X tg (.Call (.Name "range" p) [a] [] pos) (iRng1 ta) := by
  intro pins s σ H R I h
  refine Call_ (ld_blt I hg hm boot_range (PyProof.Rows.callWith_type1 (thn (ha pos pins s σ H _ I h) fun us s1 ⟨vs, H1, I1, r1, q1⟩ => ?_) hs rfl))
  obtain ⟨j, e, q1, q2, q⟩ := q1
  subst e
  cases r1 with
  | cons r rr =>
    cases rr
    obtain ⟨t, rfl⟩ := r
    exact call_range_1 (range_it I1 (by omega) (by omega) q1 q2 (by simpa using q))
/-! ### for -/
/-- W: the invariant by the turn and a measure; N: what the body is to reach -/
def tFor (wi : TI) (g : TG) (tb : TS) : TS := fun D σ H => wi σ H fun J H1 => ∃ W : Nat → Nat → St → Hp → Prop, (∃ m, W 0 m σ H1) ∧ ∀ i m σ H, W i m σ H →
  (J.stop i H ∧ D.nx σ H) ∨ (J.go i H ∧ ∃ N : St → Hp → Prop, (∀ σ' H', N σ' H' → ∃ m', m' < m ∧ W (i + 1) m' σ' H') ∧ ∀ x H', J.yld i H x H' → g x σ H' fun σ2 H2 => tb { D with nx := N, ct := N, bk := D.nx } σ2 H2)
/-- the records at fp as they stand -/
def pinsAt (fp : List Addr) (h : Heap) : List (Addr × Obj) := fp.filterMap fun b => (h.get? b).map fun o => (b, o)
theorem mem_pinsAt {fp : List Addr} {h : Heap} {b : Addr} {o : Obj} (hb : b ∈ fp) (e : h.get? b = some o) : (b, o) ∈ pinsAt fp h := List.mem_filterMap.mpr ⟨b, hb, by rw [e]; rfl⟩
theorem of_pinsAt {fp : List Addr} {h : Heap} {p : Addr × Obj} (hp : p ∈ pinsAt fp h) : p.1 ∈ fp ∧ h.get? p.1 = some p.2 := by
  obtain ⟨b, hb, e⟩ := List.mem_filterMap.mp hp
  cases q : h.get? b with
  | none => rw [q] at e; cases e
  | some o =>
    rw [q] at e
    have e' : (b, o) = p := Option.some.inj e
    subst e'
    exact ⟨hb, q⟩
theorem Inv.pinned {pins : List (Addr × Obj)} {σ : St} {H : Hp} {s : Shared} {fp : List Addr} (I : Inv X pins σ H s) (hf : ∀ b ∈ fp, FpOk X pins H b) (ho : ∀ b ∈ fp, ∃ o, s.heap.get? b = some o ∧ ∀ v, o.data ≠ .cell v) : Inv X (pins ++ pinsAt fp s.heap) σ H s :=
  I.pins_of fun p hp => (List.mem_append.mp hp).elim (fun z => I.pin p (List.mem_append_right _ z)) fun z => by
    obtain ⟨hb, e⟩ := of_pinsAt z
    obtain ⟨f0, f1, f2, _⟩ := hf p.1 hb
    obtain ⟨o, e', d⟩ := ho p.1 hb
    rw [e] at e'; cases e'
    exact ⟨e, f0, f1, f2, d⟩
theorem Inv.unpinned {pins pl : List (Addr × Obj)} {σ : St} {H : Hp} {s : Shared} (I : Inv X (pins ++ pl) σ H s) : Inv X pins σ H s := I.pins_of fun p hp => I.pin p (List.mem_append_right _ (List.mem_append_left _ hp))
theorem ps_for {iter : Expr} {body : List Stmt} {wi : TI} {g : TG} {tb : TS} {pos : Pos} (hp : PassesOwn (model X.prog X.w) X.A X.env X.xe) (hc : X.calm = true) (hi : PI X tg iter wi) (hg : PG X tg g) (hb : PSs X body tb)
    (hs : ∀ x, foldedSetIterable iter X.env x = pure x := by intro _; rfl) : PS X (.For tg iter body [] pos) (tFor wi g tb) := by
  intro pins s σ H D I h
  refine wpAny_For (thn (hi pins s σ H _ I h) fun v s1 h1 => thn h1 fun itv s2 h2 => ?_) hs
  obtain ⟨it, fp, tn, J, H2, e, I2, T, st2, f2, W, ⟨m0, w0⟩, turn⟩ := h2
  subst e
  -- what stays true of the iterator's objects through the loop
  have stat : ∀ {H' : Hp}, (∀ b ∈ fp, H' b = none) → ∀ b ∈ fp, FpOk X pins H' b := fun hn b hb => ⟨hn b hb, (f2 b hb).2⟩
  refine codeAny_forLoop_any (fun n s' => ∃ i σ' H', Inv X pins σ' H' s' ∧ tn i s'.heap ∧ (∀ b ∈ fp, H' b = none) ∧ W i n σ' H') ?_ m0 ⟨0, σ, H2, I2, st2, fun b hb => (f2 b hb).1, w0⟩
  rintro n s3 ⟨i, σ3, H3, I3, st3, fr3, w3⟩
  rcases turn i n σ3 H3 w3 with ⟨stop, qn⟩ | ⟨go, N, hN, step⟩
  · refine wpAny_passesOwn hp (thn (T.done X rfl rfl rfl hc i pins s3 σ3 H3 X.xe I3 (stat fr3) st3 stop) fun r s4 ⟨hr, I4⟩ => ?_)
    subst hr
    exact wpAny_execs_nil ⟨σ3, H3, I4, qn⟩
  · refine wpAny_passesOwn hp (thn (T.item X rfl rfl rfl hc i pins s3 σ3 H3 X.xe I3 (stat fr3) st3 go) fun r s4 ⟨u, hr, h4⟩ => ?_)
    subst hr
    refine wpAny_passesOwn hp (thn h4 fun _ s5 ⟨x, H5, I5, r5, y5, st5, fr5⟩ => ?_)
    have I5' := I5.pinned (stat fr5) (T.obj _ _ st5)
    refine wpAny_passesOwn hp (thn (hg _ s5 σ3 H5 x u _ I5' r5 (step x H5 y5)) fun _ s6 ⟨σ6, H6, I6, q6⟩ => ?_)
    refine wpAny_passesOwn hp (thn (hb _ s6 σ6 H6 _ I6 q6) fun f s7 q7 => ?_)
    have again : ∀ {σ7 : St} {H7 : Hp}, Inv X (pins ++ pinsAt fp s5.heap) σ7 H7 s7 → N σ7 H7 → ∃ m, m < n ∧ ∃ i σ' H', Inv X pins σ' H' s7 ∧ tn i s7.heap ∧ (∀ b ∈ fp, H' b = none) ∧ W i m σ' H' := fun {σ7 H7} I7 n7 => by
      obtain ⟨m', hm, w7⟩ := hN σ7 H7 n7
      refine ⟨m', hm, i + 1, σ7, H7, I7.unpinned, T.keep _ _ _ st5 fun b hb o e => (I7.pin (b, o) (List.mem_append_right _ (List.mem_append_right _ (mem_pinsAt hb e)))).1, fun b hb => ?_, w7⟩
      obtain ⟨o, e, d⟩ := T.obj _ _ st5 b hb
      exact (I7.pin (b, o) (List.mem_append_right _ (List.mem_append_right _ (mem_pinsAt hb e)))).2.1
    cases f with
    | next => obtain ⟨σ7, H7, I7, n7⟩ := q7; exact again I7 n7
    | cont => obtain ⟨σ7, H7, I7, n7⟩ := q7; exact again I7 n7
    | brk => obtain ⟨σ7, H7, I7, q7⟩ := q7; exact ⟨σ7, H7, I7.unpinned, q7⟩
    | ret v => obtain ⟨x7, σ7, H7, I7, r7, q7⟩ := q7; exact ⟨x7, σ7, H7, I7.unpinned, r7, q7⟩
end

/-! ### the forms one uses -/
end L2

namespace L2
open PySem PySem.Spec PyProof.Rows

abbrev R2 := V → V → Hp → VK → Prop
/-- a two-place operation on values: f is binaryOp op, inplaceOp op or compareOp op -/
def OpR (X : Cx) (f : Value → Value → Sem Value) (r : R2) : Prop :=
  ∀ (pins : List (Addr × Obj)) (s : Shared) (σ : St) (H : Hp) (x y : V) (v u : Value) (Q : VK), Inv X pins σ H s → RelV x v → RelV y u → r x y H Q →
    wpAny (model X.prog X.w) X.A (f v u) (EP X pins σ Q) X.xe s
/-- a one-place operation -/
def UnR (X : Cx) (f : Value → Sem Value) (r : V → Hp → VK → Prop) : Prop :=
  ∀ (pins : List (Addr × Obj)) (s : Shared) (σ : St) (H : Hp) (x : V) (v : Value) (Q : VK), Inv X pins σ H s → RelV x v → r x H Q →
    wpAny (model X.prog X.w) X.A (f v) (EP X pins σ Q) X.xe s
/-- a call of a value that is known (a builtin, a type) with values -/
def CallR (X : Cx) (f : Value) (r : List V → Hp → VK → Prop) : Prop :=
  ∀ (pins : List (Addr × Obj)) (s : Shared) (σ : St) (H : Hp) (xs : List V) (us : List Value) (Q : VK), Inv X pins σ H s → Vals xs us → r xs H Q →
    wpAny (model X.prog X.w) X.A (call f us) (EP X pins σ Q) X.xe s
def tOp (r : R2) (ta tb : TE) : TE := fun σ H Q => ta σ H fun x H1 => tb σ H1 fun y H2 => r x y H2 Q
def tUn (r : V → Hp → VK → Prop) (ta : TE) : TE := fun σ H Q => ta σ H fun x H1 => r x H1 Q
/-- ints in, under C, and a value out -/
def rI (C : Int → Int → Prop) (g : Int → Int → V) : R2 := fun x y H Q => ∃ i j, x = .int i ∧ y = .int j ∧ C i j ∧ Q (g i j) H
def rI0 (g : Int → Int → V) : R2 := fun x y H Q => ∃ i j, x = .int i ∧ y = .int j ∧ Q (g i j) H
def rU (g : Int → V) : V → Hp → VK → Prop := fun x H Q => ∃ i, x = .int i ∧ Q (g i) H

section
variable {X : Cx} {a b c : Expr} {ta tb tc : TE} {pos : Pos}

theorem binT (ha : PE X a ta) (hb : PE X b tb) {pins : List (Addr × Obj)} {s : Shared} {σ : St} {H : Hp} {R : V → V → Hp → Prop} (I : Inv X pins σ H s)
    (h : ta σ H fun x H1 => tb σ H1 fun y H2 => R x y H2) {Q : Value → Shared → Prop} {f : Value → Value → Sem Value}
    (hf : ∀ v u s2 x y H2, Inv X pins σ H2 s2 → RelV x v → RelV y u → R x y H2 → wpAny (model X.prog X.w) X.A (f v u) Q X.xe s2) :
    wpAny (model X.prog X.w) X.A (eval a X.env) (fun v s₁ => wpAny (model X.prog X.w) X.A (eval b X.env) (fun u s₂ => wpAny (model X.prog X.w) X.A (f v u) Q X.xe s₂) X.xe s₁) X.xe s := by
  refine thn (ha pins s σ H _ I h) fun v s1 ⟨x, H1, I1, r1, q1⟩ => ?_
  refine thn (hb pins s1 σ H1 _ I1 q1) fun u s2 ⟨y, H2, I2, r2, q2⟩ => ?_
  exact hf v u s2 x y H2 I2 r1 r2 q2

theorem pe_op {op : Operator} {r : R2} (ho : OpR X (binaryOp op) r) (ha : PE X a ta) (hb : PE X b tb) : PE X (.BinOp a op b pos) (tOp r ta tb) := by
  intro pins s σ H Q I h
  exact wpAny_BinOp (binT ha hb I h fun v u s2 x y H2 I2 rx ry q => ho pins s2 σ H2 x y v u Q I2 rx ry q)
theorem pe_un {op : UnaryOp} {r : V → Hp → VK → Prop} (ho : UnR X (unaryOp op) r) (ha : PE X a ta) : PE X (.UnaryOp op a pos) (tUn r ta) := by
  intro pins s σ H Q I h
  exact UnaryOp_ (thn (ha pins s σ H _ I h) fun v s1 ⟨x, H1, I1, r1, q1⟩ => ho pins s1 σ H1 x v Q I1 r1 q1)
/-! ### ints -/
theorem opI {f : Value → Value → Sem Value} {C : Int → Int → Prop} {g : Int → Int → Int}
    (rule : ∀ (i j : Int) (t u : Tok) (s : Shared) (Q : Value → Shared → Prop) (E : Value → Shared → Prop), C i j → Q (.int (g i j) s.toks) { s with toks := s.toks + 1 } → wpAny (model X.prog X.w) X.A (f (.int i t) (.int j u)) Q E s) :
    OpR X f (rI C fun i j => .int (g i j)) := by
  intro pins s σ H x y v u Q I rx ry h
  obtain ⟨i, j, rfl, rfl, hc, q⟩ := h
  obtain ⟨t, rfl⟩ := rx
  obtain ⟨t', rfl⟩ := ry
  exact rule i j t t' s _ _ hc ⟨.int (g i j), H, I.tok _, ⟨_, rfl⟩, q⟩
theorem opI0 {f : Value → Value → Sem Value} {g : Int → Int → Int}
    (rule : ∀ (i j : Int) (t u : Tok) (s : Shared) (Q : Value → Shared → Prop) (E : Value → Shared → Prop), Q (.int (g i j) s.toks) { s with toks := s.toks + 1 } → wpAny (model X.prog X.w) X.A (f (.int i t) (.int j u)) Q E s) :
    OpR X f (rI0 fun i j => .int (g i j)) := by
  intro pins s σ H x y v u Q I rx ry h
  obtain ⟨i, j, rfl, rfl, q⟩ := h
  obtain ⟨t, rfl⟩ := rx
  obtain ⟨t', rfl⟩ := ry
  exact rule i j t t' s _ _ ⟨.int (g i j), H, I.tok _, ⟨_, rfl⟩, q⟩
theorem opB0 {f : Value → Value → Sem Value} {g : Int → Int → Bool}
    (rule : ∀ (i j : Int) (t u : Tok) (s : Shared) (Q : Value → Shared → Prop) (E : Value → Shared → Prop), Q (.bool (g i j)) s → wpAny (model X.prog X.w) X.A (f (.int i t) (.int j u)) Q E s) :
    OpR X f (rI0 fun i j => .bl (g i j)) := by
  intro pins s σ H x y v u Q I rx ry h
  obtain ⟨i, j, rfl, rfl, q⟩ := h
  obtain ⟨t, rfl⟩ := rx
  obtain ⟨t', rfl⟩ := ry
  exact rule i j t t' s _ _ ⟨.bl (g i j), H, I, rfl, q⟩

def CDiv (i j : Int) : Prop := 0 < j ∧ j < 1073741824
def CPow (i j : Int) : Prop := 0 ≤ j ∧ j ≤ 1000000 ∧ i.natAbs < 2 ^ 64
def CMul (i j : Int) : Prop := (-(2 ^ 64) < i ∧ i < 2 ^ 64) ∨ (-(2 ^ 64) < j ∧ j < 2 ^ 64)
theorem CMul.ok {i j : Int} (h : CMul i j) : IntMulOk i j := by
  rcases h with ⟨h1, h2⟩ | ⟨h1, h2⟩
  · exact .of_left (intBits_le_64 h1 h2)
  · exact .of_right (intBits_le_64 h1 h2)
theorem op_add : OpR X (binaryOp .Add) (rI0 fun i j => .int (i + j)) := opI0 fun _ _ _ _ _ _ _ q => add_int q
theorem op_sub : OpR X (binaryOp .Sub) (rI0 fun i j => .int (i - j)) := opI0 fun _ _ _ _ _ _ _ q => sub_int q
/-- // by a positive divisor -/
theorem op_fdiv : OpR X (binaryOp .FloorDiv) (rI CDiv fun i j => .int (i / j)) := opI fun i j _ _ _ _ _ hc q => by
  have h1 : (0 : Int) < j := hc.1
  have h2 : j < 1073741824 := hc.2
  exact floordiv_int (by omega) (by rw [Int.fdiv_eq_ediv_of_nonneg i (by omega)]; exact q) (.inl (PyProof.noPylong_small (by omega)))
/-- % by a positive divisor of any size -/
theorem op_mod : OpR X (binaryOp .Mod) (rI (fun _ j => 0 < j) fun i j => .int (i % j)) := opI fun i j _ _ _ _ _ hc q => by
  have h1 : (0 : Int) < j := hc
  exact mod_int' (by omega) (by rw [Int.fmod_eq_emod_of_nonneg i (by omega)]; exact q)
theorem op_pow : OpR X (binaryOp .Pow) (rI CPow fun i j => .int (i ^ j.toNat)) := opI fun _ _ _ _ _ _ _ hc q => pow_int_small hc.1 hc.2.1 hc.2.2 q
theorem unI {f : Value → Sem Value} {g : Int → Int}
    (rule : ∀ (i : Int) (t : Tok) (s : Shared) (Q : Value → Shared → Prop) (E : Value → Shared → Prop), Q (.int (g i) s.toks) { s with toks := s.toks + 1 } → wpAny (model X.prog X.w) X.A (f (.int i t)) Q E s) :
    UnR X f (rU fun i => .int (g i)) := by
  intro pins s σ H x v Q I rx h
  obtain ⟨i, rfl, q⟩ := h
  obtain ⟨t, rfl⟩ := rx
  exact rule i t s _ _ ⟨.int (g i), H, I.tok _, ⟨_, rfl⟩, q⟩
theorem un_neg : UnR X (unaryOp .USub) (rU fun i => .int (-i)) := unI fun _ _ _ _ _ q => neg_int q
/-! ### bools among ints: n += (a < b) -/
end

/-! ### comparisons -/
section
variable {X : Cx} {a b c : Expr} {ta tb tc : TE} {pos : Pos}
theorem op_lt : OpR X (compareOp .Lt) (rI0 fun i j => .bl (decide (i < j))) := opB0 fun _ _ _ _ _ _ _ q => lt_int q
theorem op_le : OpR X (compareOp .LtE) (rI0 fun i j => .bl (decide (i ≤ j))) := opB0 fun _ _ _ _ _ _ _ q => le_int q
theorem op_gt : OpR X (compareOp .Gt) (rI0 fun i j => .bl (decide (j < i))) := opB0 fun _ _ _ _ _ _ _ q => gt_int q
theorem op_ge : OpR X (compareOp .GtE) (rI0 fun i j => .bl (decide (j ≤ i))) := opB0 fun _ _ _ _ _ _ _ q => ge_int q
/-- two rules for one operation: by cases -/
theorem OpR.or {f : Value → Value → Sem Value} {r r' : R2} (h : OpR X f r) (h' : OpR X f r') : OpR X f (fun x y H Q => r x y H Q ∨ r' x y H Q) := by
  intro pins s σ H x y v u Q I rx ry q
  rcases q with q | q
  · exact h pins s σ H x y v u Q I rx ry q
  · exact h' pins s σ H x y v u Q I rx ry q

theorem nomark (b : Expr) {op : CmpOp} (h : op ≠ .In := by decide) (h2 : op ≠ .NotIn := by decide) : behindInMarks op b = false := by
  have e1 : (op == CmpOp.In) = false := by cases op <;> first | rfl | exact absurd rfl h
  have e2 : (op == CmpOp.NotIn) = false := by cases op <;> first | rfl | exact absurd rfl h2
  cases b <;> simp [behindInMarks, e1, e2]
/-- a comparison as a value; hm: nomark b, or (for in, not in) by with_unfolding_all rfl -/
theorem pe_cmpR {op : CmpOp} {r : R2} (ho : OpR X (compareOp op) r) (ha : PE X a ta) (hb : PE X b tb) (hm : behindInMarks op b = false) : PE X (.Compare a [op] [b] pos) (tOp r ta tb) := by
  intro pins s σ H Q I h
  exact wpAny_Compare1 (binT ha hb I h fun v u s2 x y H2 I2 rx ry q => ho pins s2 σ H2 x y v u Q I2 rx ry q) hm
/-- a reading of a value as a test -/
def tTest (t : TE) : TT := fun σ H Q => t σ H fun x H' => ∃ k, x = .bl k ∧ Q k H'
theorem pt_cmpR {op : CmpOp} {r : R2} (ho : OpR X (compareOp op) r) (ha : PE X a ta) (hb : PE X b tb) (hm : behindInMarks op b = false) : PT X (.Compare a [op] [b] pos) (tTest (tOp r ta tb)) := by
  intro pins s σ H Q I h
  refine wpAny_isTrue_Compare1 (thn (ha pins s σ H _ I h) fun v s1 ⟨x, H1, I1, r1, q1⟩ => thn (hb pins s1 σ H1 _ I1 q1) fun u s2 ⟨y, H2, I2, r2, q2⟩ =>
    thn (ho pins s2 σ H2 x y v u _ I2 r1 r2 q2) fun c s3 ⟨z, H3, I3, r3, k, e, q3⟩ => ?_) hm
  subst e
  cases r3
  exact wpAny_truthy_bool ⟨H3, I3, q3⟩
/-- a op1 b op2 c -/
def tChain (r r' : R2) (ta tb tc : TE) : TE := fun σ H Q => ta σ H fun x H1 => tb σ H1 fun y H2 => r x y H2 fun z H3 => ∃ k, z = .bl k ∧
  (if k = true then tc σ H3 fun w' H4 => r' y w' H4 Q else Q (.bl false) H3)
theorem pe_chain {op op' : CmpOp} {r r' : R2} (ho : OpR X (compareOp op) r) (ho' : OpR X (compareOp op') r') (ha : PE X a ta) (hb : PE X b tb) (hc : PE X c tc)
    (hm : lastMarks [op, op'] [b, c] = false := by with_unfolding_all rfl) : PE X (.Compare a [op, op'] [b, c] pos) (tChain r r' ta tb tc) := by
  intro pins s σ H Q I h
  refine Compare_chain (thn (ha pins s σ H _ I h) fun v s1 ⟨x, H1, I1, r1, q1⟩ => chain_link (thn (hb pins s1 σ H1 _ I1 q1) fun u s2 ⟨y, H2, I2, r2, q2⟩ =>
    thn (ho pins s2 σ H2 x y v u _ I2 r1 r2 q2) fun d s3 ⟨z, H3, I3, r3, k, e, q3⟩ => ?_)) hm
  subst e
  cases r3
  refine wpAny_truthy_bool ?_
  cases k with
  | false => exact ite_ff ⟨.bl false, H3, I3, rfl, q3⟩
  | true => exact ite_tt (chain_last (thn (hc pins s3 σ H3 _ I3 q3) fun w' s4 ⟨z', H4, I4, r4, q4⟩ => ho' pins s4 σ H4 y z' u w' Q I4 r2 r4 q4))
theorem pt_chain {op op' : CmpOp} {r r' : R2} (ho : OpR X (compareOp op) r) (ho' : OpR X (compareOp op') r') (ha : PE X a ta) (hb : PE X b tb) (hc : PE X c tc)
    (hm : lastMarks [op, op'] [b, c] = false := by with_unfolding_all rfl) : PT X (.Compare a [op, op'] [b, c] pos) (tTest (tChain r r' ta tb tc)) := by
  intro pins s σ H Q I h
  refine isTrue_chain (thn (ha pins s σ H _ I h) fun v s1 ⟨x, H1, I1, r1, q1⟩ => test_link (thn (hb pins s1 σ H1 _ I1 q1) fun u s2 ⟨y, H2, I2, r2, q2⟩ =>
    thn (ho pins s2 σ H2 x y v u _ I2 r1 r2 q2) fun d s3 ⟨z, H3, I3, r3, k, e, q3⟩ => ?_)) hm
  subst e
  cases r3
  refine wpAny_truthy_bool ?_
  cases k with
  | false =>
    obtain ⟨k', e', q'⟩ := q3
    cases e'
    exact ite_ff ⟨H3, I3, q'⟩
  | true =>
    refine ite_tt (test_last (thn (hc pins s3 σ H3 _ I3 q3) fun w' s4 ⟨z', H4, I4, r4, q4⟩ => thn (ho' pins s4 σ H4 y z' u w' _ I4 r2 r4 q4) fun d' s5 ⟨z2, H5, I5, r5, k2, e2, q5⟩ => ?_))
    subst e2
    cases r5
    exact wpAny_truthy_bool ⟨H5, I5, q5⟩

/-! ### truth -/
theorem line63 : (sizeLine : Nat) < 2 ^ 63 := by rw [sizeLine_eq]; decide
/-! ### strs and bytes -/
theorem op_add_str : OpR X (binaryOp .Add) (fun x y H Q => ∃ i j, x = .str i ∧ y = .str j ∧ i.length + j.length ≤ sizeLine ∧ Q (.str (i ++ j)) H) := by
  intro pins s σ H x y v u Q I rx ry h
  obtain ⟨i, j, rfl, rfl, hz, q⟩ := h
  obtain ⟨t, rfl⟩ := rx
  obtain ⟨t', rfl⟩ := ry
  exact add_str (fun t' tk => ⟨.str (i ++ j), H, I.tok _, ⟨_, rfl⟩, q⟩) hz
/-! ### scalar builtins, by CallR -/
theorem vals1 {x : V} {us : List Value} (r : Vals [x] us) : ∃ u, us = [u] ∧ RelV x u := by
  cases r with
  | cons r1 r2 => cases r2; exact ⟨_, rfl, r1⟩
theorem vals2 {x y : V} {us : List Value} (r : Vals [x, y] us) : ∃ u w', us = [u, w'] ∧ RelV x u ∧ RelV y w' := by
  cases r with
  | cons r1 r2 =>
    cases r2 with
    | cons r3 r4 => cases r4; exact ⟨_, _, rfl, r1, r3⟩
theorem call_max2 (hc : X.calm = true) : CallR X (.builtin "max") (fun xs H Q => ∃ i j, xs = [.int i, .int j] ∧ Q (.int (if j > i then j else i)) H) := by
  intro pins s σ H xs us Q I r h
  obtain ⟨i, j, rfl, q⟩ := h
  obtain ⟨u, w', rfl, ⟨t, rfl⟩, ⟨t', rfl⟩⟩ := vals2 r
  refine max_two_ints (I.ok.hd hc) fun h' tk k => ⟨_, H, I.kept k, ?_, q⟩
  by_cases hj : j > i
  · rw [if_pos hj, if_pos hj]; exact ⟨_, rfl⟩
  · rw [if_neg hj, if_neg hj]; exact ⟨_, rfl⟩
theorem call_min2 (hc : X.calm = true) : CallR X (.builtin "min") (fun xs H Q => ∃ i j, xs = [.int i, .int j] ∧ Q (.int (if j < i then j else i)) H) := by
  intro pins s σ H xs us Q I r h
  obtain ⟨i, j, rfl, q⟩ := h
  obtain ⟨u, w', rfl, ⟨t, rfl⟩, ⟨t', rfl⟩⟩ := vals2 r
  refine min_two_ints (I.ok.hd hc) fun h' tk k => ⟨_, H, I.kept k, ?_, q⟩
  by_cases hj : j < i
  · rw [if_pos hj, if_pos hj]; exact ⟨_, rfl⟩
  · rw [if_neg hj, if_neg hj]; exact ⟨_, rfl⟩
end
end L2

namespace L2
open PySem PySem.Spec PyProof.Rows

/-! ### an instance, its attributes a map -/
structure ObjM (h : Heap) (x dx C : Addr) (mA : Str → Option Value) : Prop where
  obj : h.get? x = some (PySem.W.instObj C dx)
  ns : h.Ns1 dx mA
  ne : dx ≠ x

theorem lookIn_ns {h : Heap} {dx : Addr} {mA : Str → Option Value} (n : h.Ns1 dx mA) : ∃ od, h.get? dx = some od ∧ ∀ name, PySem.W.lookIn name od = some (mA name) := by
  obtain ⟨o, es, ep, ho, hd, hk, _, hm⟩ := n
  refine ⟨o, ho, fun name => ?_⟩
  have e := hm name
  unfold nsFind findBy at e
  rw [← Array.find?_toList] at e
  unfold PySem.W.lookIn
  rw [hd]
  dsimp only
  split
  · rename_i y q
    rw [q] at e
    exact congrArg some e
  · rename_i q
    rw [q] at e
    have a : es.toList.any (·.refKey) = false := by
      rw [List.any_eq_false]
      intro y hy
      obtain ⟨z, t, hkey⟩ := hk y (Array.mem_toList_iff.mp hy)
      simp [DictEntry.refKey, hkey]
    have a' : ¬ es.toList.any (·.refKey) = true := by rw [a]; exact Bool.false_ne_true
    rw [if_neg a']
    exact congrArg some e

theorem ObjM.look {h : Heap} {x dx C : Addr} {mA : Str → Option Value} (I : ObjM h x dx C mA) : ∃ od, PySem.W.InstAt h x (PySem.W.instObj C dx) C (some od) ∧ ∀ name, PySem.W.lookIn name od = some (mA name) :=
  let ⟨od, ho, hl⟩ := lookIn_ns I.ns
  ⟨od, ⟨I.obj, rfl, rfl, ho⟩, hl⟩

section
variable {prog : Program} {w : World} {A : Around} {E : Value → Shared → Prop} {s : Shared} {K : PySem.W.Frag} {x dx C f : Addr} {mA : Str → Option Value} {name : Str} {v : Value}

end

/-! ### the attributes as a list of pairs -/
def putF (f : Str) (v : V) : List (Str × V) → List (Str × V)
  | [] => [(f, v)]
  | (g, x) :: r => if g = f then (g, v) :: r else (g, x) :: putF f v r
section
variable {P : Program} {w : World} {H H' : Hp} {h h' : Heap} {a C dx : Addr} {fs fs' : List (Str × V)}
end

/-! ### what of the text a class must have -/
structure Cls (K : PySem.W.Frag) (C : Addr) : Prop where
  pg : PySem.W.plainGet K C Str.empty = true
  hd : PySem.W.hasDictIn K C = true
  po : PySem.W.plainOver K C = true
  sa : PySem.W.findIn K (.ref C) "__setattr__" = some (some (.builtin "object.__setattr__"))
theorem Cls.get {K : PySem.W.Frag} {C : Addr} (c : Cls K C) (f : Str) : PySem.W.plainGet K C f = true := c.pg
section
variable {X : Cx} {pins : List (Addr × Obj)} {σ : St} {H : Hp} {s : Shared} {a C dx : Addr} {fs : List (Str × V)} {f : Str} {v : V} {A : Around} {E : Value → Shared → Prop}

/-- a new instance, tracked, without attributes -/
theorem Inv.made (I : Inv X pins σ H s) : Inv X pins σ (upd (upd H s.heap.objs.size (.own (s.heap.objs.size + 1))) (s.heap.objs.size + 1) (.ins C s.heap.objs.size []))
    { s with heap := (s.heap.push PySem.W.emptyDict).push (PySem.W.instObj C s.heap.objs.size) } := by
  have e1 : (s.heap.push PySem.W.emptyDict).get? s.heap.objs.size = some PySem.W.emptyDict := Heap.get?_push_size s.heap rfl
  have e2 : ((s.heap.push PySem.W.emptyDict).push (PySem.W.instObj C s.heap.objs.size)).get? (s.heap.objs.size + 1) = some (PySem.W.instObj C s.heap.objs.size) := by
    have := Heap.get?_push_size (s.heap.push PySem.W.emptyDict) (o := PySem.W.instObj C s.heap.objs.size) rfl
    rwa [Heap.size_push] at this
  have e3 : (s.heap.push PySem.W.emptyDict).Ns s.heap.objs.size (fun _ => none) := ⟨PySem.W.emptyDict, #[], _, e1, rfl, (fun e he => absurd he (by simp)), fun _ => rfl⟩
  have I1 := I.laid (a := s.heap.objs.size) (o := .own (s.heap.objs.size + 1)) (h' := s.heap.push PySem.W.emptyDict) (t' := s.toks) (fun b u q => Heap.get?_push_of_some _ q) (Nat.le_refl _) ⟨_, e1⟩
  refine I1.laid (a := s.heap.objs.size + 1) (o := .ins C s.heap.objs.size []) (t' := s.toks) (fun b u q => Heap.get?_push_of_some _ q) (Nat.le_of_eq (Heap.size_push _ _)) ?_
  have ne : s.heap.objs.size ≠ s.heap.objs.size + 1 := Nat.ne_of_lt (Nat.lt_succ_self _)
  refine ⟨by rw [upd_ne ne, upd_same], Nat.zero_le _, ne, e2, fun _ => none, (Heap.Ns1.of_empty e3).at fun o q => Heap.get?_push_of_some _ q, fun _ => True.intro, fun y hy => absurd rfl hy⟩

end

/-! ### readings and rules -/
section
variable {X : Cx} {o e value : Expr} {f : Str} {pos pos' tpos : Pos} {ta tv : TE}
end

/-! ### isinstance -/
section
variable {X : Cx} {pins : List (Addr × Obj)} {σ : St} {H : Hp} {s : Shared} {A : Around} {E : Value → Shared → Prop} {Q : Value → Shared → Prop} {c : Value} {b : Bool}
end
end L2

namespace L2
open PySem PySem.Spec PyProof.Rows

/-! ### room -/
structure Room (k : Nat) (A : Around) : Prop where
  hd : A.handled = none
  dp : A.depth + 3 * k + 5 < recursionLimit
  un : A.units + 16 * k + 200 < cLine
theorem Room.mono {j k : Nat} {A : Around} (r : Room k A) (h : j ≤ k) : Room j A := ⟨r.hd, by have := r.dp; omega, by have := r.un; omega⟩
theorem Room.deeper {k : Nat} {A : Around} (r : Room (k + 1) A) (env : Env) : Room k (A.deeper env) :=
  ⟨r.hd, by have := r.dp; show A.depth + 1 + 3 * k + 5 < _; omega, by have := r.un; show A.units + 3 + 16 * k + 200 < _; omega⟩
theorem Room.in1 {k : Nat} {A : Around} (r : Room (k + 1) A) : Room k A.in1 :=
  ⟨r.hd, by have := r.dp; show A.depth + 3 * k + 5 < _; omega, by have := r.un; show A.units + 1 + 16 * k + 200 < _; omega⟩
theorem Room.depth {k : Nat} {A : Around} (r : Room k A) : A.depth < recursionLimit := by have := r.dp; omega
theorem Room.units {k : Nat} {A : Around} (r : Room k A) : A.units + 64 < cLine := by have := r.un; omega
/-! ### argument lists and displays -/
def tNil : TA := fun _ H Q => Q [] H
def tCons (ta : TE) (tr : TA) : TA := fun σ H Q => ta σ H fun x H1 => tr σ H1 fun xs H2 => Q (x :: xs) H2
section
variable {X : Cx} {e : Expr} {es : List Expr} {te : TE} {t : TA} {pos : Pos}
theorem pa_nil : PA X [] tNil := fun _ _ _ _ H Q I h => Calls.spliced_nil ⟨[], H, I, .nil, h⟩
theorem pa_cons (ha : PE X e te) (hr : PA X es t) (hs : starEach (e :: es) X.env = (false, eval e X.env) :: starEach es X.env := by rfl) : PA X (e :: es) (tCons te t) := by
  intro pos pins s σ H Q I h
  rw [hs]
  show wpAny _ _ (spliced ((false, eval e X.env) :: backTo pos (starEach es X.env))) _ _ s
  refine Calls.spliced_cons (thn (ha pins s σ H _ I h) fun u s1 ⟨x, H1, I1, r1, q1⟩ => ?_)
  exact thn (hr pos pins s1 σ H1 _ I1 q1) fun us s2 ⟨xs, H2, I2, r2, q2⟩ => ⟨x :: xs, H2, I2, .cons r1 r2, q2⟩

/-- a tuple, a list of written items -/
def tTup (t : TA) : TE := fun σ H Q => t σ H fun xs H1 => xs.length ≤ sizeLine ∧ ∀ p, H1 p = none → Q (.ref p) (upd H1 p (.tup xs))
def tLst (t : TA) : TE := fun σ H Q => t σ H fun xs H1 => xs.length ≤ sizeLine ∧ ∀ p, H1 p = none → Q (.ref p) (upd H1 p (.lst xs))
theorem pe_tup {x1} (h : PA X es t) : PE X (.Tuple es x1 pos) (tTup t) := by
  intro pins s σ H Q I hq
  refine wpAny_Tuple_spliced (thn (h pos pins s σ H _ I hq) fun us s1 ⟨xs, H1, I1, r, z, q⟩ => ⟨by rw [← r.length]; exact z, ?_⟩)
  have hf : H1 s1.heap.objs.size = none := I1.hok.fresh (Nat.le_refl _)
  refine ⟨.ref s1.heap.objs.size, upd H1 s1.heap.objs.size (.tup xs), I1.laid (t' := s1.toks) (fun b u e => Heap.get?_push_of_some _ e) (Nat.le_refl _) ?_, rfl, q _ hf⟩
  exact ⟨z, us, r, ⟨_, Heap.get?_push_size _ rfl, rfl, _, rfl⟩⟩
theorem pe_lst (h : PA X es t) : PE X (.List es pos) (tLst t) := by
  intro pins s σ H Q I hq
  refine wpAny_List_spliced (thn (h pos pins s σ H _ I hq) fun us s1 ⟨xs, H1, I1, r, z, q⟩ => ⟨by rw [← r.length]; exact z, ?_⟩)
  have hf : H1 s1.heap.objs.size = none := I1.hok.fresh (Nat.le_refl _)
  refine ⟨.ref s1.heap.objs.size, upd H1 s1.heap.objs.size (.lst xs), I1.laid (t' := s1.toks) (fun b u e => Heap.get?_push_of_some _ e) (Nat.le_refl _) ?_, rfl, q _ hf⟩
  exact ⟨z, us, 0, r, Heap.get?_push_size _ rfl⟩
end

/-! ### what a def promises -/
/-- a def's promise: the bound arguments in the parameters' order, the heap, the wanted end, the wanted exception -/
abbrev Sp := List V → Hp → VK → XK → Prop
/-- how an exception lies behind a call (file 08 gives it): the callers' frames, abstract heap and state ahead of the call, the wish, the exception, the state -/
abbrev CXT := List Env → Hp → Shared → XK → Value → Shared → Prop

/-- the state at a call -/
structure Env0 (P : Program) (w : World) (K : PySem.W.Frag) (mg : Str → Option Value) (base : Heap) (A : Around) (outer : List Env) (s : Shared) (H : Hp) : Prop where
  frames : A.frames = some outer
  mod : Mod K mg base
  bs : ∀ b o, base.get? b = some o → s.heap.get? b = some o ∧ H b = none
  bsz : base.objs.size ≤ s.heap.objs.size
  funs : s.heap.FunFrames base outer
  frf : ∀ b ∈ frs outer, H b = none
  hok : HOk P w H s.heap
  bare : AllBare s.gens
/-- a call's end -/
def CE (outer : List Env) (P : Program) (w : World) (H : Hp) (s : Shared) (Q : VK) (u : Value) (s' : Shared) : Prop :=
  ∃ v H', s'.os = s.os ∧ AllBare s'.gens ∧ Un (frs outer) [] H H' s.heap s'.heap ∧ HOk P w H' s'.heap ∧ RelV v u ∧ Q v H'
def CR (CX : CXT) (outer : List Env) (P : Program) (w : World) (H : Hp) (s : Shared) (Q : VK) (E : XK) (r : Result) (s' : Shared) : Prop :=
  match r with
  | .ok (.ret u) => CE outer P w H s Q u s'
  | .ok _ => False
  | .error e => CX outer H s E e s'
structure FnOk (P : Program) (w : World) (K : PySem.W.Frag) (mg : Str → Option Value) (base : Heap) (CX : CXT) (k : Nat) (f : Addr) (fd : FuncData) (ps : List Str) (sp : Sp) : Prop where
  len : ∀ vs H Q E, sp vs H Q E → vs.length = ps.length
  run : ∀ (A : Around) (outer : List Env) (s : Shared) (H : Hp) (args : Args) (us : List Value) (vs : List V) (Q : VK) (E : XK), Room k A → Env0 P w K mg base A outer s H → BindsTo s fd args (ps.zip us) → Vals vs us → sp vs H Q E →
    codeAny (model P w) A (.call (.ref f) args) (CR CX outer P w H s Q E) s
theorem FnOk.mono {P : Program} {w : World} {K : PySem.W.Frag} {mg : Str → Option Value} {base : Heap} {CX : CXT} {j k : Nat} {f : Addr} {fd : FuncData} {ps : List Str} {sp : Sp} (F : FnOk P w K mg base CX j f fd ps sp) (h : j ≤ k) :
    FnOk P w K mg base CX k f fd ps sp := ⟨F.len, fun A outer s H args us vs Q E hr => F.run A outer s H args us vs Q E (hr.mono h)⟩
/-- a weaker promise -/
theorem FnOk.imp {P : Program} {w : World} {K : PySem.W.Frag} {mg : Str → Option Value} {base : Heap} {CX : CXT} {k : Nat} {f : Addr} {fd : FuncData} {ps : List Str} {sp sp' : Sp} (F : FnOk P w K mg base CX k f fd ps sp)
    (h : ∀ vs H Q E, sp' vs H Q E → sp vs H Q E) : FnOk P w K mg base CX k f fd ps sp' :=
  ⟨fun vs H Q E q => F.len vs H Q E (h _ _ _ _ q), fun A outer s H args us vs Q E hr he hb hv hs => F.run A outer s H args us vs Q E hr he hb hv (h _ _ _ _ hs)⟩

theorem Env0.in1 {P : Program} {w : World} {K : PySem.W.Frag} {mg : Str → Option Value} {base : Heap} {A : Around} {outer : List Env} {s : Shared} {H : Hp} (e : Env0 P w K mg base A outer s H) :
    Env0 P w K mg base A.in1 outer s H := ⟨e.frames, e.mod, e.bs, e.bsz, e.funs, e.frf, e.hok, e.bare⟩

section
variable {X : Cx} {pins : List (Addr × Obj)} {σ : St} {H : Hp} {s s' : Shared}
/-- from a body: what a callee wants -/
theorem Inv.env0 (I : Inv X pins σ H s) : Env0 X.prog X.w X.K X.mg X.base X.A X.stack s H :=
  ⟨I.ok.frames, I.ok.mod, I.bs, Nat.le_trans I.ok.bsz I.sz, I.stack, I.stkFree, I.hok, I.bare⟩
/-- behind a call -/
theorem Inv.after {Q : VK} {u : Value} (I : Inv X pins σ H s) (h : CE X.stack X.prog X.w H s Q u s') : EP X pins σ Q u s' := by
  obtain ⟨v, H', os, bare, un, hok, r, q⟩ := h
  obtain ⟨hh, g, d, t, os'⟩ := s'
  obtain rfl : os' = s.os := os
  exact ⟨v, H', I.call (h' := hh) (g' := g) (d' := d) (t' := t) (ch := []) un hok bare (fun b z => absurd z (by simp)), r, q⟩
end

/-! ### calls -/
/-- f(..): the written arguments, then the defaults dvs; E: what is wanted of an exception -/
def tCall (sp : Sp) (dvs : List V) (E : XK) (t : TA) : TE := fun σ H Q => t σ H fun vs H1 => sp (vs ++ dvs) H1 Q E
/-- how the parameters are bound: us the positional arguments, kw the keywords' values by name, ds the defaults that fill up -/
def Binds (K : PySem.W.Frag) (fd : FuncData) (ps : List Str) (ds : List Value) : Prop :=
  ∀ (s : Shared) (us : List Value), K.In s.heap → (us ++ ds).length = ps.length → BindsTo s fd ⟨us, []⟩ (ps.zip (us ++ ds))
/-- every parameter is given -/
theorem Binds.all {K : PySem.W.Frag} {fd : FuncData} {ps : List Str} (h : ∀ us : List Value, us.length = ps.length → bindArgs fd ⟨us, []⟩ = pure (ps.zip us)) : Binds K fd ps [] := fun s us _ hl => by
  rw [List.append_nil] at hl ⊢
  exact .of_eq (h us hl)

/-- an exception of a callee reaches what this body wants of exceptions -/
def Passes (CX : CXT) (X : Cx) (E : XK) : Prop := ∀ (pins : List (Addr × Obj)) (σ : St) (H : Hp) (s : Shared) (e : Value) (s' : Shared), Inv X pins σ H s → CX X.stack H s E e s' → X.xe e s'

section
variable {X : Cx} {CX : CXT} {k : Nat} {f C : Addr} {fd : FuncData} {ps : List Str} {sp : Sp} {dvs : List V} {ds : List Value} {E : XK} {x m : Str} {p pos apos : Pos} {e o : Expr} {es : List Expr} {ta : TE} {t : TA}

/-- the callee runs -/
theorem run_fn {pins : List (Addr × Obj)} {σ : St} {H : Hp} {s : Shared} {Q : VK} {us : List Value} {vs : List V} (F : FnOk X.prog X.w X.K X.mg X.base CX k f fd ps sp) (hr : Room k X.A) (hb : Binds X.K fd ps ds) (hd : Vals dvs ds) (hx : Passes CX X E)
    (I : Inv X pins σ H s) (r : Vals vs us) (h : sp (vs ++ dvs) H Q E) : wpAny (model X.prog X.w) X.A (call (.ref f) us) (EP X pins σ Q) X.xe s := by
  have r2 : Vals (vs ++ dvs) (us ++ ds) := r.append hd
  have hl : (us ++ ds).length = ps.length := by rw [← r2.length]; exact F.len _ _ _ _ h
  refine wpAny_call (codeAny_mono (F.run X.A X.stack s H ⟨us, []⟩ (us ++ ds) (vs ++ dvs) Q E hr I.env0 (hb s us I.kIn hl) r2 h) fun r s' hq => ?_)
  cases r with
  | error e => exact hx pins σ H s e s' I hq
  | ok fl =>
    cases fl with
    | ret u => exact I.after hq
    | next => exact False.elim hq
    | brk => exact False.elim hq
    | cont => exact False.elim hq

theorem pe_call (F : FnOk X.prog X.w X.K X.mg X.base CX k f fd ps sp) (hr : Room k X.A) (hg : Gl X x) (hm : X.mg x = some (.ref f)) (hk : PySem.W.keepIn X.K (.ref f) = true) (hb : Binds X.K fd ps ds) (hd : Vals dvs ds) (hx : Passes CX X E)
    (ha : PA X (e :: es) t) (hdb : (x == ("__debug__" : Str)) = false := by decide) (he : starEach (e :: es) X.env = (false, eval e X.env) :: starEach es X.env := by rfl) (hpl : (backTo pos (starEach es X.env)).any (·.1) = false := by rfl) :
    PE X (.Call (.Name x p) (e :: es) [] pos) (tCall sp dvs E t) := by
  intro pins s σ H Q I h
  refine wpAny_Call_Name_kw (ld_glob I hg hm ?_ hdb)
  refine PySem.W.callWith_K (h₀ := X.base) I.ok.mod.kin hk (thn (ha pos pins s σ H _ I h) fun us s1 ⟨vs, H1, I1, r, q⟩ => ⟨I1.kIn, ?_⟩) he hpl
  exact run_fn F hr hb hd hx I1 r q
end

/-! ### keywords -/
section
variable {X : Cx} {CX : CXT} {k : Nat} {f C : Addr} {fd : FuncData} {ps ks : List Str} {sp : Sp} {E : XK} {x m : Str} {p pos apos kpos : Pos} {e o : Expr} {es : List Expr} {kws : List Keyword} {te ta : TE} {t tk : TA} {nm : Option Str}
variable {g : List Value → List Value → List Value} {gV : List V → List V → List V}
end

/-! ### a def's body keeps its promise -/
/-- names: the parameters first -/
structure FnScope (N P : List Str) (sc : Scope) : Prop where
  kind : sc.kind = .function
  co : sc.isCoroutine = false
  gen : sc.isGenerator = false
  nd : N.Nodup
  pre : N.take P.length = P
  par : ∀ x ∈ P, sc.names.lookup x = some .local ∨ sc.names.lookup x = some .cell
  nofree : ∀ y ∈ sc.names, y.2 ≠ .free

theorem bindL_out {kindOf : Str → Option NameKind} {x : Str} : ∀ {binds : List (Str × Value)} {m : Str → Option Value}, (∀ v, (x, v) ∉ binds) → bindL kindOf binds m x = m x
  | [], _, _ => rfl
  | (n, v) :: r, m, h => by
    unfold bindL
    rw [bindL_out fun w hw => h w (List.mem_cons_of_mem _ hw)]
    split
    · have : x ≠ n := by rintro rfl; exact h v List.mem_cons_self
      simp [this]
    · rfl
theorem bindC_out {kindOf : Str → Option NameKind} {x : Str} : ∀ {binds : List (Str × Value)} {m : Str → Option Value}, (∀ v, (x, v) ∉ binds) → bindC kindOf binds m x = m x
  | [], _, _ => rfl
  | (n, v) :: r, m, h => by
    unfold bindC
    rw [bindC_out fun w hw => h w (List.mem_cons_of_mem _ hw)]
    split
    · rfl
    · have : x ≠ n := by rintro rfl; exact h v List.mem_cons_self
      simp [this]
theorem bindL_get {kindOf : Str → Option NameKind} {x : Str} {v : Value} : ∀ {P : List Str} {vs : List Value} {i : Nat} {m : Str → Option Value}, P.Nodup → P[i]? = some x → vs[i]? = some v → kindOf x = some .local →
    bindL kindOf (P.zip vs) m x = some v
  | [], _, _, _, _, h, _, _ => by simp at h
  | _ :: _, [], _, _, _, _, h, _ => by simp at h
  | p :: P, w :: vs, 0, m, nd, h1, h2, hk => by
    simp at h1 h2; subst h1; subst h2
    show bindL kindOf ((p, w) :: P.zip vs) m p = _
    unfold bindL
    rw [bindL_out fun v hv => (List.nodup_cons.mp nd).1 (List.of_mem_zip hv).1, if_pos hk]
    simp
  | p :: P, w :: vs, i + 1, m, nd, h1, h2, hk => by
    show bindL kindOf ((p, w) :: P.zip vs) m x = _
    unfold bindL
    exact bindL_get (i := i) (List.nodup_cons.mp nd).2 (by simpa using h1) (by simpa using h2) hk
theorem bindC_get {kindOf : Str → Option NameKind} {x : Str} {v : Value} : ∀ {P : List Str} {vs : List Value} {i : Nat} {m : Str → Option Value}, P.Nodup → P[i]? = some x → vs[i]? = some v → kindOf x ≠ some .local →
    bindC kindOf (P.zip vs) m x = some v
  | [], _, _, _, _, h, _, _ => by simp at h
  | _ :: _, [], _, _, _, _, h, _ => by simp at h
  | p :: P, w :: vs, 0, m, nd, h1, h2, hk => by
    simp at h1 h2; subst h1; subst h2
    show bindC kindOf ((p, w) :: P.zip vs) m p = _
    unfold bindC
    rw [bindC_out fun v hv => (List.nodup_cons.mp nd).1 (List.of_mem_zip hv).1, if_neg hk]
    simp
  | p :: P, w :: vs, i + 1, m, nd, h1, h2, hk => by
    show bindC kindOf ((p, w) :: P.zip vs) m x = _
    unfold bindC
    exact bindC_get (i := i) (List.nodup_cons.mp nd).2 (by simpa using h1) (by simpa using h2) hk

/-- the names' values at the entry -/
def start (N : List Str) (vs : List V) : St := vs.map some ++ List.replicate (N.length - vs.length) none

/-- the context of a def's body, at its entry; an exception leaves the frame, then lies as CX says -/
def cxOf (CX : CXT) (P : Program) (w : World) (K : PySem.W.Frag) (mg : Str → Option Value) (base : Heap) (N : List Str) (qual : Str) (scope : Scope) (f : Addr) (cd : Value) (A : Around) (outer : List Env) (s : Shared) (H : Hp) (E : XK) : Cx where
  prog := P
  w := w
  K := K
  mg := mg
  base := base
  A := A.deeper (envOfC qual scope s.heap.objs.size f cd)
  N := N
  s_0 := s
  H_0 := H
  env := envOfC qual scope s.heap.objs.size f cd
  outer := outer
  stack := envOfC qual scope s.heap.objs.size f cd :: outer
  ex := []
  calm := true
  fn := fun _ => true
  pn := []
  xe := fun e s' => wpAny (model P w) (A.deeper (envOfC qual scope s.heap.objs.size f cd)) (leaving (envOfC qual scope s.heap.objs.size f cd) e) (fun _ s'' => CX outer H s E e s'') (fun e' s'' => CX outer H s E e' s'') s'

theorem cell_has {sc : Scope} {n : Nat} {x : Str} (h : sc.names.lookup x = some .cell) : ∃ c, (cellsFrom n sc.names []).lookup x = some c := by
  have q := PySem.W.cellsFrom_some sc.names n [] (.inl h)
  exact Option.isSome_iff_exists.mp q

theorem inv_start {CX : CXT} {P : Program} {w : World} {K : PySem.W.Frag} {mg : Str → Option Value} {base : Heap} {N ps : List Str} {qual : Str} {scope : Scope} {f : Addr} {cd : Value} {A : Around} {outer : List Env} {s s1 : Shared} {H : Hp} {E : XK} {us : List Value} {vs : List V}
    (S : FnScope N ps scope) (hd : A.handled = none) (e0 : Env0 P w K mg base A outer s H) (hl : vs.length = ps.length) (r : Vals vs us)
    (x : InCallC s s.heap.objs.size (bindL (envOfC qual scope s.heap.objs.size f cd).kindOf (ps.zip us) fun _ => none) (cellsFrom (s.heap.objs.size + 1) scope.names []) (bindC (envOfC qual scope s.heap.objs.size f cd).kindOf (ps.zip us) fun _ => none) s1) :
    Inv (cxOf CX P w K mg base N qual scope f cd A outer s H E) [] (start N vs) H s1 := by
  have hpl : ps.length ≤ N.length := by have := congrArg List.length S.pre; rw [List.length_take] at this; omega
  obtain ⟨h1, tk, rfl, hk⟩ := x.done
  have noA : ∀ b : Addr, b ∉ (cxOf CX P w K mg base N qual scope f cd A outer s H E).ex := fun b z => absurd (show b ∈ ([] : List Addr) from z) (by simp)
  refine ⟨⟨e0.mod, S.kind, rfl, rfl, Nat.le_refl _, fun y z c h1 h2 => ?_, fun y hy => ?_, fun y c _ h => ?_, fun _ => hd, Around.frames_deeper e0.frames, .inr ⟨rfl, rfl⟩, fun b z => absurd z (noA b), e0.bs, e0.bsz, fun b _ _ => noA b, fun b z => absurd z (noA b), e0.funs, e0.frf⟩,
    rfl, e0.bare, Un.kept hk, ⟨_, x.toInCall.ns, fun i y v h1 h2 h3 => ?_⟩, fun y c h => ⟨_, x.cell y c h⟩, e0.hok.fresh (Nat.le_refl _), fun y c h => ?_, fun p hp => absurd (show p ∈ ([] : List (Addr × Obj)) from hp) (by simp), e0.hok.kept hk, ?_⟩
  · exact name_of_addr x.apart (PySem.mem_of_lookup h1) (PySem.mem_of_lookup h2)
  · have hy : scope.names.lookup y = some .cell ∨ scope.names.lookup y = some .free := hy
    rcases hy with hy | hy
    · exact cell_has hy
    · exact absurd rfl (S.nofree _ (PySem.mem_of_lookup hy))
  · exact Nat.le_of_lt (x.above y c (PySem.mem_of_lookup h))
  · have hi : i < vs.length := by
      unfold start at h2
      by_cases hi : i < vs.length
      · exact hi
      · rw [List.getElem?_append_right (by simpa using hi)] at h2
        rw [List.getElem?_replicate] at h2
        split at h2 <;> cases h2
    have ha : vs[i]? = some v := by
      unfold start at h2
      rw [List.getElem?_append_left (by simpa using hi), List.getElem?_map] at h2
      cases e : vs[i]? with
      | none => rw [e] at h2; cases h2
      | some a => rw [e] at h2; cases h2; rfl
    obtain ⟨u, hu, rv⟩ := r.get ha
    have hp : ps[i]? = some y := by
      rw [← S.pre, List.getElem?_take_of_lt (by omega)]; exact h1
    have ndP : ps.Nodup := by rw [← S.pre]; exact S.nd.sublist (List.take_sublist _ _)
    refine ⟨u, rv, ?_⟩
    rcases S.par y (List.mem_of_getElem? hp) with k | k
    · exact .inl ⟨k, bindL_get ndP hp hu k⟩
    · obtain ⟨c, e⟩ := cell_has (n := s.heap.objs.size + 1) k
      refine .inr ⟨.inl k, c, e, ?_⟩
      have q := x.cell y c e
      rw [bindC_get ndP hp hu (by show scope.names.lookup y ≠ _; rw [k]; decide)] at q
      exact q
  · exact e0.hok.fresh (Nat.le_of_lt (x.above y c (PySem.mem_of_lookup h)))
  · unfold start
    show _ = N.length
    rw [List.length_append, List.length_map, List.length_replicate]
    omega

/-- THE RULE: a def (or a method) of the text, by its body. The body's reading t is chosen for each entry; it is run at the parameters' values -/
theorem fn_of {CX : CXT} {P : Program} {w : World} {K : PySem.W.Frag} {mg : Str → Option Value} {base : Heap} {k : Nat} {f : Addr} {name qual : Str} {params : Arguments} {body : List Stmt} {scope : Scope} {dV kV doc pm cdv ct oc : Value} {an od : Option Addr}
    {osl : Array (Option Value)} {N ps : List Str} {sp : Sp} (lk : K.lookup f = some ⟨oc, od, .func (PySem.W.fnOf name qual params body scope dV kV doc pm an cdv ct), osl⟩) (hcd : PySem.W.codeIn K cdv qual = true) (S : FnScope N ps scope)
    (len : ∀ vs H Q E, sp vs H Q E → vs.length = ps.length)
    (hbody : ∀ (A : Around) (outer : List Env) (s : Shared) (H : Hp) (vs : List V) (Q : VK) (E : XK), Room k (A.deeper (envOfC qual scope s.heap.objs.size f cdv)) → sp vs H Q E →
      ∃ t, PSs (cxOf CX P w K mg base N qual scope f cdv A outer s H E) body t ∧ t { nx := fun _ H' => Q .non H', rt := Q } (start N vs) H) :
    FnOk P w K mg base CX (k + 1) f (PySem.W.fnOf name qual params body scope dV kV doc pm an cdv ct) ps sp := by
  refine ⟨len, fun A outer s H args us vs Q E hr e0 hb r hsp => ?_⟩
  have hl := len _ _ _ _ hsp
  have KX : K.In s.heap := e0.mod.kin.keeps fun b o e => (e0.bs b o e).1
  have lim : s.heap.NoLimit := e0.mod.nolimit.keeps fun b o e => (e0.bs b o e).1
  have hkind : ∀ y ∈ ps.zip us, scope.names.lookup y.1 = some .local ∨ (scope.names.lookup y.1 = some .cell ∧ ((cellsFrom (s.heap.objs.size + 1) scope.names []).lookup y.1).isSome = true) := fun ⟨n, v⟩ hy => by
    rcases S.par n (List.of_mem_zip hy).1 with q | q
    · exact .inl q
    · exact .inr ⟨q, PySem.W.cellsFrom_some _ _ _ (.inl q)⟩
  refine codeAny_call_function hr.depth (KX _ _ lk) rfl S.co S.gen rfl (PySem.W.codeRec_of KX hcd) (hb _ _ _ _ ?_)
  refine wpAny_newFunctionEnv_cells S.kind hkind fun env he s1 x => ?_
  subst he
  refine ⟨lim.keeps x.toInCall.keep, codeAny_func ?_⟩
  obtain ⟨t, ht, hq⟩ := hbody A outer s H vs Q E (hr.deeper _) hsp
  have I : Inv (cxOf CX P w K mg base N qual scope f cdv A outer s H E) [] (start N vs) H s1 := inv_start S hr.hd e0 hl r x
  refine wpAny_mono (ht [] s1 (start N vs) H _ I hq) (fun fl s' hs => ?_) fun e s' hs => hs
  have fin : ∀ {σ' : St} {H' : Hp} {v : V} {u : Value}, Inv (cxOf CX P w K mg base N qual scope f cdv A outer s H E) [] σ' H' s' → RelV v u → Q v H' → CE outer P w H s Q u s' :=
    fun {σ' H' v u} J rv q => ⟨v, H', J.os, J.bare, J.base, J.hok, rv, q⟩
  cases fl with
  | ret u =>
    obtain ⟨v, σ', H', J, rv, q⟩ := hs
    exact fin J rv q
  | next =>
    obtain ⟨σ', H', J, q⟩ := hs
    exact fin (v := V.non) (u := Value.none) J rfl q
  | brk =>
    obtain ⟨_, _, _, q⟩ := hs
    exact False.elim q
  | cont =>
    obtain ⟨_, _, _, q⟩ := hs
    exact False.elim q
end L2

namespace L2
open PySem PySem.Spec PyProof.Rows
section
variable {X : Cx} {x : Str} {p pos : Pos} {e : Expr} {es : List Expr} {t : TA} {id T : String} {r : List V → Hp → VK → Prop}

def tCB (r : List V → Hp → VK → Prop) (t : TA) : TE := fun σ H Q => t σ H fun vs H1 => r vs H1 Q
/-- f(e, ..), f a built-in function -/
theorem pe_callB (hc : CallR X (.builtin id) r) (hg : Gl X x) (hm : X.mg x = none) (hv : bootBuiltins x = some (.builtin id)) (ha : PA X (e :: es) t) (hn : x ≠ "__name__" := by decide) (hdb : (x == ("__debug__" : Str)) = false := by decide)
    (he : starEach (e :: es) X.env = (false, eval e X.env) :: starEach es X.env := by rfl) (hpl : (backTo pos (starEach es X.env)).any (·.1) = false := by rfl) : PE X (.Call (.Name x p) (e :: es) [] pos) (tCB r t) := by
  intro pins s σ H Q I h
  refine wpAny_Call_Name_kw (ld_blt I hg hm hv ?_ hn hdb)
  exact PyProof.Rows.callWith_builtin1 (thn (ha pos pins s σ H _ I h) fun us s1 ⟨vs, H1, I1, r1, q1⟩ => hc pins s1 σ H1 vs us Q I1 r1 q1) he hpl
/-- T(e, ..), T a built-in type -/
theorem pe_callTy (hc : CallR X (.type T) r) (hg : Gl X x) (hm : X.mg x = none) (hv : bootBuiltins x = some (.type T)) (ha : PA X (e :: es) t) (hn : x ≠ "__name__" := by decide) (hdb : (x == ("__debug__" : Str)) = false := by decide)
    (he : starEach (e :: es) X.env = (false, eval e X.env) :: starEach es X.env := by rfl) (hpl : (backTo pos (starEach es X.env)).any (·.1) = false := by rfl) : PE X (.Call (.Name x p) (e :: es) [] pos) (tCB r t) := by
  intro pins s σ H Q I h
  refine wpAny_Call_Name_kw (ld_blt I hg hm hv ?_ hn hdb)
  exact PyProof.Rows.callWith_type1 (thn (ha pos pins s σ H _ I h) fun us s1 ⟨vs, H1, I1, r1, q1⟩ => hc pins s1 σ H1 vs us Q I1 r1 q1) he hpl
end
end L2

namespace HT
open PySem PyProof.Rows

/-- t < u of tuples of ints -/
def lexLt : List Int → List Int → Bool
  | [], [] => false
  | [], _ :: _ => true
  | _ :: _, [] => false
  | x :: xs, y :: ys => if x = y then lexLt xs ys else decide (x < y)
theorem lexLt_cons (x y : Int) (xs ys : List Int) : lexLt (x :: xs) (y :: ys) = if x = y then lexLt xs ys else decide (x < y) := rfl
section
open PySem.SeqAt
open PySem.AutoSeq1 (wpAny_loadPart')
open PySem.MeetsSeq PySem.MeetsSeq2 PySem.MeetsSeq3

end

section
variable {prog : Program} {w : World} {A : Around} {E : Value → Shared → Prop} {s : Shared}

/-! ### t[a:b], not the whole -/
/-- a slice's bound as a place among n (d where it is left out) -/
def sIx (n d : Nat) : Option Int → Nat
  | none => d
  | some v => if v < 0 then (v + (n : Int)).toNat else min v.toNat n
theorem sIx_le (n d : Nat) (hd : d ≤ n) (o : Option Int) : sIx n d o ≤ n := by
  cases o with
  | none => exact hd
  | some v =>
    show (if v < 0 then (v + (n : Int)).toNat else min v.toNat n) ≤ n
    by_cases hv : v < 0
    · rw [if_pos hv]; omega
    · rw [if_neg hv]; exact Nat.min_le_right _ _
theorem clip_eq (v : Int) (n d : Nat) : (if v < 0 then max (v + (n : Int)) 0 else min v (n : Int)) = ((sIx n d (some v) : Nat) : Int) := by
  show (if v < 0 then max (v + (n : Int)) 0 else min v (n : Int)) = (((if v < 0 then (v + (n : Int)).toNat else min v.toNat n) : Nat) : Int)
  by_cases hv : v < 0
  · simp only [if_pos hv]; omega
  · simp only [if_neg hv]; omega
theorem adjust_gen (lo hi : Option Int) (n : Nat) : Builtin.Slice.sliceAdjust lo hi 1 (n : Int) = (((sIx n 0 lo : Nat) : Int), ((sIx n n hi : Nat) : Int)) := by
  have h1 : ¬ ((1 : Int) < 0) := by omega
  unfold Builtin.Slice.sliceAdjust
  simp only [h1, if_false]
  refine Prod.ext ?_ ?_
  · cases lo with
    | none => rfl
    | some v => exact clip_eq v n 0
  · cases hi with
    | none => rfl
    | some v => exact clip_eq v n n
theorem places_gen (i j : Nat) : Builtin.Slice.slicePlaces (i : Int) (j : Int) 1 = j - i := by
  unfold Builtin.Slice.slicePlaces
  have h1 : (1 : Int) > 0 := by omega
  simp only [h1, if_true, Int.ediv_one]
  split <;> omega
theorem slicePart_ {v : Value} {o : Option Int} {Q : Option Int → Shared → Prop} (p : IsPart v o) (h : Q o s) : wpAny (model prog w) A (Builtin.Slice.slicePartIndex v) Q E s := by
  cases p with
  | none => exact slicePart_none h
  | int i t => exact slicePart_int h
theorem sliceApplied_gen {sl : Addr} {vl vu : Value} {lo hi : Option Int} {n : Nat} {Q : Int × Int × Nat → Shared → Prop} (hs : s.heap.IsSliceOf sl vl vu .none) (pl : IsPart vl lo) (pu : IsPart vu hi)
    (h : Q (((sIx n 0 lo : Nat) : Int), 1, sIx n n hi - sIx n 0 lo) s) : wpAny (model prog w) A (Builtin.Slice.sliceApplied (.ref sl) (pure (n : Int))) Q E s := by
  obtain ⟨os, hos, hcs, hds⟩ := id hs
  unfold Builtin.Slice.sliceApplied Builtin.Slice.sliceFields
  refine wpAny_bind (wpAny_bind (wpAny_field hos hds (x := vl) rfl (wpAny_bind (wpAny_field hos hds (x := vu) rfl (wpAny_bind (wpAny_field hos hds (x := .none) rfl (wpAny_pure ?_)))))))
  refine wpAny_bind (slicePart_none ?_)
  show wpAny _ _ (if ((1 : Int) == 0) = true then _ else _) _ _ s
  rw [if_neg (by decide)]
  refine wpAny_bind (slicePart_ pl (wpAny_bind (slicePart_ pu (wpAny_bind (wpAny_pure ?_)))))
  show wpAny _ _ (match Builtin.Slice.sliceAdjust lo hi 1 (n : Int) with | (lo, hi) => pure (lo, (1 : Int), Builtin.Slice.slicePlaces lo hi 1)) _ _ s
  rw [adjust_gen lo hi n]
  show wpAny _ _ (pure (((sIx n 0 lo : Nat) : Int), (1 : Int), Builtin.Slice.slicePlaces ((sIx n 0 lo : Nat) : Int) ((sIx n n hi : Nat) : Int) 1)) _ _ s
  rw [places_gen]
  exact wpAny_pure h
theorem pick_gen (xs : Array Value) (i k : Nat) : ((List.range k).filterMap fun (m : Nat) => xs[((i : Int) + (m : Int) * 1).toNat]?).toArray = ((xs.toList.drop i).take k).toArray := by
  have e : (fun (m : Nat) => xs[((i : Int) + (m : Int) * 1).toNat]?) = fun m => xs[i + m]? := by
    funext m
    have : ((i : Int) + (m : Int) * 1).toNat = i + m := by omega
    rw [this]
  rw [e]
  have := pick_run xs i k
  rw [List.filterMap_map] at this
  have e2 : ((fun x => xs[x]?) ∘ fun x => i + x) = fun m => xs[i + m]? := rfl
  rw [e2] at this
  rw [this]

theorem getItem_tuple_cut {t sl : Addr} {items : Array Value} {vl vu : Value} {lo hi : Option Int} {Q : Value → Shared → Prop} (ht : IsTup s.heap t items) (hs : s.heap.IsSliceOf sl vl vu .none) (pl : IsPart vl lo) (pu : IsPart vu hi)
    (hw : ¬ (sIx items.size 0 lo = 0 ∧ sIx items.size items.size hi = items.size))
    (h : Q (.ref s.heap.objs.size) { s with heap := s.heap.push { cls := .type "tuple", data := .seq ((items.toList.drop (sIx items.size 0 lo)).take (sIx items.size items.size hi - sIx items.size 0 lo)).toArray } })
    (hsz : items.size ≤ sizeLine) : wpAny (model prog w) A (getItem (.ref t) (.ref sl)) Q E s := by
  have htake : sizeOk (.seq ((items.toList.drop (sIx items.size 0 lo)).take (sIx items.size items.size hi - sIx items.size 0 lo)).toArray) := by
    show ((items.toList.drop (sIx items.size 0 lo)).take (sIx items.size items.size hi - sIx items.size 0 lo)).toArray.size ≤ sizeLine
    rw [List.size_toArray, List.length_take, List.length_drop, Array.length_toList]
    omega
  have hj : sIx items.size items.size hi ≤ items.size := sIx_le _ _ (Nat.le_refl _) hi
  obtain ⟨os, hos, hcs, hds⟩ := id hs
  have hTs : s.TypeIs (.ref sl) "slice" := ⟨os, hos, hcs⟩
  unfold getItem
  try with_reducible refine wpAny_holding ?_
  first | refine wpAny_bind (wpAny_pure ?_) | skip
  refine wpAny_bind (wpAny_sequenceKey ht.typeIs (by decide) ?_)
  refine wpAny_bind (wpAny_callSpecial?_slot (name := Str.ofString "__getitem__") ht.typeIs PyProof.Rows.slot_tuple_getitem
    (wpAny_call_entry PyProof.Rows.slot_tuple_getitem ht.typeIs entry_tuple_getitem ?_ (args_tuple_getitem _ _)))
  show wpAny _ _ (Builtin.Tuple.tupleItemsOf (.ref t) >>= _) _ _ s
  refine wpAny_bind (tupleItemsOf_ ht ?_)
  refine wpAny_bind (wpAny_typeOf hTs ?_)
  rw [if_pos (by decide)]
  refine wpAny_bind (sliceApplied_gen hs pl pu ?_)
  have hno : ¬ ((((sIx items.size 0 lo : Nat) : Int) == 0 && (1 : Int) == 1 && (sIx items.size items.size hi - sIx items.size 0 lo) == items.size) = true) := by
    intro q
    rw [Bool.and_eq_true, Bool.and_eq_true] at q
    have q1 : ((sIx items.size 0 lo : Nat) : Int) = 0 := eq_of_beq q.1.1
    have q2 : sIx items.size items.size hi - sIx items.size 0 lo = items.size := eq_of_beq q.2
    exact hw ⟨by omega, by omega⟩
  show wpAny _ _ (if (((sIx items.size 0 lo : Nat) : Int) == 0 && (1 : Int) == 1 && (sIx items.size items.size hi - sIx items.size 0 lo) == items.size) = true then _ else _) _ _ s
  rw [if_neg hno, pick_gen]
  first
    | exact wpAny_bind (m := Builtin.Tuple.tupleExact _) (wpAny_newObj_type (wpAny_pure ⟨_, rfl, wpAny_pure h⟩) htake)
    | exact wpAny_bind (m := Builtin.Tuple.tupleExact _) (wpAny_newObj_type (wpAny_bind (wpAny_pure (wpAny_pure ⟨_, rfl, wpAny_pure h⟩))) htake)
    | exact wpAny_bind (wpAny_bind (m := Builtin.Tuple.tupleExact _) (wpAny_newObj_type (wpAny_pure (wpAny_pure ⟨_, rfl, wpAny_pure h⟩)) htake))
    | exact wpAny_bind (wpAny_bind (m := Builtin.Tuple.tupleExact _) (wpAny_newObj_type (wpAny_pure ⟨_, rfl, wpAny_pure h⟩) htake))
end
end HT

namespace L2
open PySem PySem.Spec PyProof.Rows

/-! ### the parts of a slice -/
abbrev TO := St → Hp → (Option Int → Hp → Prop) → Prop
/-- a slice's part (left out, or an int) -/
def PO (X : Cx) (e : Option Expr) (t : TO) : Prop :=
  ∀ (pins : List (Addr × Obj)) (s : Shared) (σ : St) (H : Hp) (Q : Option Int → Hp → Prop), Inv X pins σ H s → t σ H Q →
    wpAny (model X.prog X.w) X.A (evalPart e X.env) (fun u s' => ∃ o H', Inv X pins σ H' s' ∧ IsPart u o ∧ Q o H') X.xe s
def tNoPart : TO := fun _ H Q => Q none H
def tPart (t : TE) : TO := fun σ H Q => t σ H fun x H1 => ∃ i, x = .int i ∧ Q (some i) H1

theorem intsAre_of {ns : List Int} : ∀ {us : List Value}, Vals (ns.map V.int) us → IntsAre us ns := by
  induction ns with
  | nil => intro us r; rw [List.map_nil] at r; cases r; exact .nil
  | cons n ns ih =>
    intro us r
    rw [List.map_cons] at r
    cases r with
    | cons r1 r2 =>
      obtain ⟨t, e⟩ := r1
      subst e
      exact .cons n t (ih r2)

section
variable {X : Cx} {e : Expr} {te : TE} {lo hi : Option Expr} {tl th : TO} {pos p2 : Pos}

theorem po_none : PO X none tNoPart := by
  intro pins s σ H Q I h
  rw [evalPart_none]
  exact wpAny_pure ⟨none, H, I, .none, h⟩
theorem po_some (h : PE X e te) : PO X (some e) (tPart te) := by
  intro pins s σ H Q I hw
  rw [evalPart_some]
  refine thn (h pins s σ H _ I hw) fun u s1 ⟨x, H1, I1, r1, q1⟩ => ?_
  obtain ⟨i, rfl, q⟩ := q1
  obtain ⟨t, rfl⟩ := r1
  exact ⟨some i, H1, I1, .int i t, q⟩

/-- what a slice of a value is, by values: the slice object stands at sl -/
def SlR (X : Cx) (r : V → Option Int → Option Int → Hp → VK → Prop) : Prop :=
  ∀ (pins : List (Addr × Obj)) (s : Shared) (σ : St) (H : Hp) (x : V) (v vl vu : Value) (lo hi : Option Int) (sl : Addr) (Q : VK), Inv X pins σ H s → RelV x v → s.heap.IsSliceOf sl vl vu .none → IsPart vl lo → IsPart vu hi → r x lo hi H Q →
    ∃ T id, typeLookup (.type T) "__getitem__" = pure (some (.builtin id)) ∧ s.TypeIs v T ∧ wpAny (model X.prog X.w) X.A (getItem v (.ref sl)) (EP X pins σ Q) X.xe s
theorem SlR.or {r r' : V → Option Int → Option Int → Hp → VK → Prop} (h : SlR X r) (h' : SlR X r') : SlR X (fun x lo hi H Q => r x lo hi H Q ∨ r' x lo hi H Q) := by
  intro pins s σ H x v vl vu lo hi sl Q I rx hs pl pu q
  rcases q with q | q
  · exact h pins s σ H x v vl vu lo hi sl Q I rx hs pl pu q
  · exact h' pins s σ H x v vl vu lo hi sl Q I rx hs pl pu q
def tSl (r : V → Option Int → Option Int → Hp → VK → Prop) (te : TE) (tl th : TO) : TE := fun σ H Q => te σ H fun x H1 => tl σ H1 fun l H2 => th σ H2 fun u H3 => r x l u H3 Q
/-- a[lo:hi], any a -/
theorem pe_slice {r : V → Option Int → Option Int → Hp → VK → Prop} (hr : SlR X r) (he : PE X e te) (hl : PO X lo tl) (hu : PO X hi th) : PE X (.Subscript e (.Slice lo hi none p2) pos) (tSl r te tl th) := by
  intro pins s σ H Q I h
  refine Subscript_ (thn (he pins s σ H _ I h) fun v s1 ⟨x, H1, I1, r1, q1⟩ => ?_)
  refine wpAny_Slice (thn (hl pins s1 σ H1 _ I1 q1) fun vl s2 ⟨l, H2, I2, pl, q2⟩ => thn (hu pins s2 σ H2 _ I2 q2) fun vu s3 ⟨u, H3, I3, pu, q3⟩ => ?_)
  rw [evalPart_none]
  refine wpAny_pure ?_
  have I4 : Inv X pins σ H3 { s3 with heap := s3.heap.push { cls := .type "slice", data := .fields #[vl, vu, .none] } } := I3.kept (t' := s3.toks) fun b ob q => Heap.get?_push_of_some _ q
  obtain ⟨T, id, hT, ht, hg⟩ := hr pins { s3 with heap := s3.heap.push { cls := .type "slice", data := .fields #[vl, vu, .none] } } σ H3 x v vl vu l u s3.heap.objs.size Q I4 r1 (Heap.IsSliceOf.new ..) pl pu q3
  show wpAny (model X.prog X.w) X.A (subscriptTail e (.Slice lo hi none p2) v (.ref s3.heap.objs.size)) (EP X pins σ Q) X.xe { s3 with heap := s3.heap.push { cls := .type "slice", data := .fields #[vl, vu, .none] } }
  exact tail_any (ops := [.ref s3.heap.objs.size, v]) ht hT hg (by with_unfolding_all rfl)

/-- the items of xs[lo:hi] -/
def cutV (xs : List V) (lo hi : Option Int) : List V := (xs.drop (HT.sIx xs.length 0 lo)).take (HT.sIx xs.length xs.length hi - HT.sIx xs.length 0 lo)
theorem cutV_length (xs : List V) (lo hi : Option Int) : (cutV xs lo hi).length ≤ xs.length := by
  unfold cutV
  rw [List.length_take, List.length_drop]
  omega
/-- t[lo:hi], not the whole of it (the whole would be t itself) -/
def rSlT (K : PySem.W.Frag) : V → Option Int → Option Int → Hp → VK → Prop := fun x lo hi H Q => ∃ a xs, x = .ref a ∧ SqT K H a xs ∧
  ¬ (HT.sIx xs.length 0 lo = 0 ∧ HT.sIx xs.length xs.length hi = xs.length) ∧ ∀ p, H p = none → Q (.ref p) (upd H p (.tup (cutV xs lo hi)))
theorem sl_tup : SlR X (rSlT X.K) := by
  intro pins s σ H x v vl vu lo hi sl Q I rx hs pl pu h
  obtain ⟨a, xs, rfl, hx, hw, q⟩ := h
  cases rx
  obtain ⟨its, r, ht, hz⟩ := I.tuple hx
  have hlen : its.toArray.size = xs.length := by rw [List.size_toArray]; exact r.length.symm
  refine ⟨"tuple", _, PyProof.Rows.slot_tuple_getitem.lookup, ht.typeIs, ?_⟩
  refine HT.getItem_tuple_cut ht hs pl pu (by rw [hlen]; exact hw) ?_ (by rw [hlen]; exact hz)
  rw [hlen]
  refine ⟨.ref s.heap.objs.size, _, I.laid (t' := s.toks) (o := .tup (cutV xs lo hi)) (fun b ob q => Heap.get?_push_of_some _ q) (Nat.le_refl _) ?_, rfl, q _ (I.hok.fresh (Nat.le_refl _))⟩
  exact ⟨Nat.le_trans (cutV_length xs lo hi) hz, _, (r.drop (HT.sIx xs.length 0 lo)).take (HT.sIx xs.length xs.length hi - HT.sIx xs.length 0 lo), IsTup.new _ _⟩

/-! ### t < u, t + u -/
end
end L2

namespace L2
open PySem PySem.Spec PyProof.Rows

/-! ### places -/
/-- the place that an index of any sign means -/
def ixN (n : Nat) (i : Int) : Option Nat := if 0 ≤ i then (if i < n then some i.toNat else none) else if -(n : Int) ≤ i then some (i + n).toNat else none
def atI {α : Type} (xs : List α) (i : Int) : Option α := (ixN xs.length i).bind fun j => xs[j]?
theorem ixN_seq {n : Nat} {i : Int} {j : Nat} (h : ixN n i = some j) : seqIndex? i n = some j ∧ j < n ∧ -(n : Int) ≤ i ∧ i < n := by
  unfold ixN at h
  by_cases h0 : 0 ≤ i
  · rw [if_pos h0] at h
    by_cases h1 : i < n
    · rw [if_pos h1] at h
      have e : i.toNat = j := Option.some.inj h
      exact ⟨by rw [seqIndex_of h0 h1, e], by omega, by omega, h1⟩
    · rw [if_neg h1] at h; cases h
  · rw [if_neg h0] at h
    by_cases h1 : -(n : Int) ≤ i
    · rw [if_pos h1] at h
      have e : (i + n).toNat = j := Option.some.inj h
      exact ⟨by rw [seqIndex_neg (by omega) h1, e], by omega, h1, by omega⟩
    · rw [if_neg h1] at h; cases h
theorem atI_get {α : Type} {xs : List α} {i : Int} {v : α} (h : atI xs i = some v) : ∃ j, seqIndex? i xs.length = some j ∧ xs[j]? = some v ∧ j < xs.length ∧ -(xs.length : Int) ≤ i ∧ i < xs.length := by
  unfold atI at h
  cases e : ixN xs.length i with
  | none => rw [e] at h; cases h
  | some j =>
    rw [e] at h
    obtain ⟨h1, h2, h3, h4⟩ := ixN_seq e
    exact ⟨j, h1, h, h2, h3, h4⟩
/-! ### what may be subscripted -/
/-- what stands as an index of a plain subscript -/
def PlainIx (b : Expr) : Prop := ∀ o i, subscripted b false o i = operate [o, i] (getItem o i)
/-- a subscript by values -/
def IxR (X : Cx) (r : R2) : Prop :=
  ∀ (value slice : Expr) (pins : List (Addr × Obj)) (s : Shared) (σ : St) (H : Hp) (x y : V) (v u : Value) (Q : VK), Inv X pins σ H s → RelV x v → RelV y u → r x y H Q →
    subscripted slice false v u = operate [v, u] (getItem v u) → wpAny (model X.prog X.w) X.A (subscriptTail value slice v u) (EP X pins σ Q) X.xe s
/-- a call of a builtin's method by values: the receiver, the arguments -/
def MtR (X : Cx) (id : String) (r : V → List V → Hp → VK → Prop) : Prop :=
  ∀ (pins : List (Addr × Obj)) (s : Shared) (σ : St) (H : Hp) (x : V) (xs : List V) (v : Value) (us : List Value) (Q : VK), Inv X pins σ H s → RelV x v → Vals xs us → r x xs H Q →
    wpAny (model X.prog X.w) X.A (call (.builtin id) (v :: us)) (EP X pins σ Q) X.xe s
section
variable {X : Cx} {a b : Expr} {ta tb : TE} {pos : Pos}
theorem IxR.or {r r' : R2} (h : IxR X r) (h' : IxR X r') : IxR X (fun x y H Q => r x y H Q ∨ r' x y H Q) := by
  intro value slice pins s σ H x y v u Q I rx ry q hs
  rcases q with q | q
  · exact h value slice pins s σ H x y v u Q I rx ry q hs
  · exact h' value slice pins s σ H x y v u Q I rx ry q hs
theorem MtR.or {id : String} {r r' : V → List V → Hp → VK → Prop} (h : MtR X id r) (h' : MtR X id r') : MtR X id (fun x xs H Q => r x xs H Q ∨ r' x xs H Q) := by
  intro pins s σ H x xs v us Q I rx rs q
  rcases q with q | q
  · exact h pins s σ H x xs v us Q I rx rs q
  · exact h' pins s σ H x xs v us Q I rx rs q
/-- a[b] -/
theorem pe_ix {r : R2} (hr : IxR X r) (ha : PE X a ta) (hb : PE X b tb) (hs : PlainIx b) : PE X (.Subscript a b pos) (tOp r ta tb) := by
  intro pins s σ H Q I h
  exact Subscript_ (binT ha hb I h fun v u s2 x y H2 I2 rx ry q => hr a b pins s2 σ H2 x y v u Q I2 rx ry q (hs _ _))

def rIxL (K : PySem.W.Frag) : R2 := fun x y H Q => ∃ p xs i v, x = .ref p ∧ y = .int i ∧ SqL K H p xs ∧ atI xs i = some v ∧ Q v H
def rIxT (K : PySem.W.Frag) : R2 := fun x y H Q => ∃ p xs i v, x = .ref p ∧ y = .int i ∧ SqT K H p xs ∧ atI xs i = some v ∧ Q v H
theorem ix_list : IxR X (rIxL X.K) := by
  intro value slice pins s σ H x y v u Q I rx ry h hs
  obtain ⟨p, xs, i, z, rfl, rfl, hq, he, q⟩ := h
  cases rx
  obtain ⟨t, rfl⟩ := ry
  obtain ⟨its, r, pl, hz⟩ := I.list hq
  obtain ⟨j, h1, h2, h3, h4, h5⟩ := atI_get he
  obtain ⟨w, ew, rw'⟩ := r.get h2
  have hl := r.length
  have hn := line63
  have fin : EP X pins σ Q w s := ⟨z, H, I, rw', q⟩
  by_cases h0 : 0 ≤ i
  · have hj : i.toNat = j := by
      rw [seqIndex_of h0 h5] at h1
      exact Option.some.inj h1
    exact item_listR pl.isList h0 (by omega) (by rw [hj]; simpa using ew) fin hs
  · have hj : (i + (its.toArray.size : Int)).toNat = j := by
      rw [seqIndex_neg (by omega) h4] at h1
      rw [List.size_toArray, ← hl]
      exact Option.some.inj h1
    exact subscriptTail_builtinR (x := w) pl.isList.typeIs slot_list_getitem.lookup
      (wpAny_getItem_list_neg (Q := fun r s' => r = w ∧ EP X pins σ Q r s') pl.isList (by omega) (by rw [List.size_toArray] <;> omega) (by omega) (by rw [hj]; simpa using ew) ⟨rfl, fin⟩) hs
theorem ix_tup : IxR X (rIxT X.K) := by
  intro value slice pins s σ H x y v u Q I rx ry h hs
  obtain ⟨p, xs, i, z, rfl, rfl, hq, he, q⟩ := h
  cases rx
  obtain ⟨t, rfl⟩ := ry
  obtain ⟨its, r, pl, hz⟩ := I.tuple hq
  obtain ⟨j, h1, h2, h3, h4, h5⟩ := atI_get he
  obtain ⟨w, ew, rw'⟩ := r.get h2
  have hl := r.length
  have hn := line63
  have fin : EP X pins σ Q w s := ⟨z, H, I, rw', q⟩
  exact subscriptTail_builtinR (x := w) pl.typeIs slot_tuple_getitem.lookup
    (getItem_tuple (j := j) (Q := fun r s' => r = w ∧ EP X pins σ Q r s') pl (by omega) (by omega) (by rw [List.size_toArray, ← hl]; exact h1) (by simpa using ew) ⟨rfl, fin⟩) hs
/-! ### xs[i] = v, any sign -/
/-- the list's object behind a store -/
theorem mapSeq_set (its : List Value) (n j : Nat) (u : Value) : Obj.mapSeq (·.setIfInBounds j u) { cls := .type "list", data := .seq its.toArray n } = { cls := .type "list", data := .seq (its.set j u).toArray n } := by
  simp [Obj.mapSeq]
theorem Inv.lst {pins : List (Addr × Obj)} {σ : St} {H : Hp} {s : Shared} {p : Addr} {xs : List V} (I : Inv X pins σ H s) (h : H p = some (.lst xs)) :
    ∃ (its : List Value) (n : Nat), Vals xs its ∧ s.heap.get? p = some { cls := .type "list", data := .seq its.toArray n } ∧ xs.length ≤ sizeLine := by
  obtain ⟨z, its, n, r, e⟩ := I.hok p _ h
  exact ⟨its, n, r, e, z⟩
/-- the list at p is written by an update of its object -/
theorem Inv.lstUpd {pins : List (Addr × Obj)} {σ : St} {H : Hp} {s : Shared} {p : Addr} {xs ys : List V} {its its' : List Value} {n n' : Nat} {f : Obj → Obj} (I : Inv X pins σ H s) (h : H p = some (.lst xs))
    (ho : s.heap.get? p = some { cls := .type "list", data := .seq its.toArray n }) (hf : f { cls := .type "list", data := .seq its.toArray n } = { cls := .type "list", data := .seq its'.toArray n' }) (r : Vals ys its') (hz : ys.length ≤ sizeLine) (t : Nat) :
    Inv X pins σ (upd H p (.lst ys)) { s with heap := s.heap.update p f, toks := t } := by
  have e : (s.heap.update p f).get? p = some { cls := .type "list", data := .seq its'.toArray n' } := by
    rw [Heap.get?_update_self f ho (by rw [hf] <;> rfl), hf]
  refine I.write (x := p) (e := p) (by rw [h]; trivial) (.inl rfl) (fun b u hb q => (Heap.get?_update_other _ _ (Ne.symm hb)).trans q) ⟨_, e⟩ ?_
  exact ⟨hz, its', n', r, e⟩
def rSetL : V → V → V → Hp → (Hp → Prop) → Prop := fun o i v H Q => ∃ p xs k j, o = .ref p ∧ i = .int k ∧ H p = some (.lst xs) ∧ ixN xs.length k = some j ∧ Q (upd H p (.lst (xs.set j v)))
theorem set_list : PSet X rSetL := by
  intro pins s σ H o i v ov iv u Q I ro ri rv h
  obtain ⟨p, xs, k, j, rfl, rfl, hp, hj, q⟩ := h
  cases ro
  obtain ⟨t, rfl⟩ := ri
  obtain ⟨its, n, r, ho, hz⟩ := I.lst hp
  obtain ⟨h1, h2, h3, h4⟩ := ixN_seq hj
  have hl := r.length
  have hn := line63
  have I' : Inv X pins σ (upd H p (.lst (xs.set j v))) { s with heap := s.heap.update p (Obj.mapSeq (·.setIfInBounds j u)) } :=
    I.lstUpd hp ho (mapSeq_set its n j u) (r.set rv j) (by rw [List.length_set]; exact hz) s.toks
  by_cases h0 : 0 ≤ k
  · have hk : k.toNat = j := by
      rw [seqIndex_of h0 h4] at h1
      exact Option.some.inj h1
    exact PySem.W.ki_setAt ho h0 (by omega) (by rw [List.size_toArray, ← hl]; exact h4) (by rw [hk]; exact ⟨_, I', q⟩)
  · have hk : (k + (its.toArray.size : Int)).toNat = j := by
      rw [seqIndex_neg (by omega) h3] at h1
      rw [List.size_toArray, ← hl]
      exact Option.some.inj h1
    exact PySem.W.ki_setBack ho (by omega) (by rw [List.size_toArray, ← hl]; exact h3) (by omega) (by rw [hk]; exact ⟨_, I', q⟩)

/-! ### slices -/
theorem slice_bounds (lo hi : Option Int) (n : Nat) : (sliceBounds lo hi none n).1 = ((HT.sIx n 0 lo : Nat) : Int) ∧ (sliceBounds lo hi none n).2.1 = ((HT.sIx n n hi : Nat) : Int) ∧ (sliceBounds lo hi none n).2.2 = 1 := by
  refine ⟨?_, ?_, rfl⟩
  · cases lo with
    | none => simp [sliceBounds, HT.sIx]
    | some i =>
      simp only [sliceBounds, HT.sIx, Option.getD_none, show (1 : Int) > 0 by decide, if_true]
      by_cases h : i < 0
      · simp only [h, if_true] <;> omega
      · simp only [h, if_false] <;> omega
  · cases hi with
    | none => simp [sliceBounds, HT.sIx]
    | some i =>
      simp only [sliceBounds, HT.sIx, Option.getD_none, show (1 : Int) > 0 by decide, if_true]
      by_cases h : i < 0
      · simp only [h, if_true] <;> omega
      · simp only [h, if_false] <;> omega
theorem slicePick_cut (its : List Value) (lo hi : Option Int) : slicePick its.toArray lo hi none = ((its.drop (HT.sIx its.length 0 lo)).take (HT.sIx its.length its.length hi - HT.sIx its.length 0 lo)).toArray := by
  obtain ⟨h1, h2, h3⟩ := slice_bounds lo hi its.toArray.size
  unfold slicePick
  rw [h1, h2, h3]
  simp only [sliceRange_one, pick_run, List.size_toArray] <;> rfl
/-- xs[lo:hi] of a list: a new list -/
def rSlL (K : PySem.W.Frag) : V → Option Int → Option Int → Hp → VK → Prop := fun x lo hi H Q => ∃ a xs, x = .ref a ∧ SqL K H a xs ∧ ∀ p, H p = none → Q (.ref p) (upd H p (.lst (cutV xs lo hi)))
theorem sl_list : SlR X (rSlL X.K) := by
  intro pins s σ H x v vl vu lo hi sl Q I rx hs pl pu h
  obtain ⟨a, xs, rfl, hx, q⟩ := h
  cases rx
  obtain ⟨its, r, ht, hz⟩ := I.list hx
  have hlen := r.length
  refine ⟨"list", _, slot_list_getitem.lookup, ht.isList.typeIs, ?_⟩
  refine wpAny_getItem_list_slice ht.isList hs pl pu .none (by simp) ?_ (by rw [List.size_toArray] <;> omega)
  rw [slicePick_cut, ← hlen]
  refine ⟨.ref s.heap.objs.size, _, I.laid (t' := s.toks) (o := .lst (cutV xs lo hi)) (fun b ob q => Heap.get?_push_of_some _ q) (Nat.le_refl _) ?_, rfl, q _ (I.hok.fresh (Nat.le_refl _))⟩
  exact ⟨Nat.le_trans (cutV_length xs lo hi) hz, _, 0, (r.drop (HT.sIx xs.length 0 lo)).take (HT.sIx xs.length xs.length hi - HT.sIx xs.length 0 lo), Heap.get?_push_size _ rfl⟩

/-! ### in, not in: flat items -/
def flatV : V → Bool
  | .non => true
  | .bl _ => true
  | .int _ => true
  | .str _ => true
  | _ => false
/-- == of flat values -/
def eqV : V → V → Bool
  | .non, .non => true
  | .bl a, .bl b => a == b
  | .bl a, .int b => (if a then 1 else 0) == b
  | .int a, .bl b => a == (if b then 1 else 0)
  | .int a, .int b => a == b
  | .str a, .str b => a == b
  | _, _ => false
theorem eqAt_V {A : Around} {s : Shared} {y x : V} {u v : Value} (ry : RelV y u) (rx : RelV x v) (fy : flatV y = true) (fx : flatV x = true) : SeqAt.EqAt A s u v (eqV y x) := by
  cases y with
  | non =>
    cases ry
    cases x with
    | non => cases rx; exact SeqAt.EqAt.same _
    | bl b => cases rx; exact SeqAt.EqAt.none_bool b
    | int b => obtain ⟨t, rfl⟩ := rx; exact SeqAt.EqAt.none_int b t
    | str b => obtain ⟨t, rfl⟩ := rx; exact SeqAt.EqAt.none_str b t
    | _ => exact absurd (show false = true from fx) Bool.false_ne_true
  | bl a =>
    cases ry
    cases x with
    | non => cases rx; exact SeqAt.EqAt.bool_none a
    | bl b => cases rx; exact SeqAt.EqAt.bool_bool a b
    | int b => obtain ⟨t, rfl⟩ := rx; exact SeqAt.EqAt.bool_int a b t
    | str b => obtain ⟨t, rfl⟩ := rx; exact SeqAt.EqAt.bool_str a b t
    | _ => exact absurd (show false = true from fx) Bool.false_ne_true
  | int a =>
    obtain ⟨t', rfl⟩ := ry
    cases x with
    | non => cases rx; exact SeqAt.EqAt.int_none a t'
    | bl b => cases rx; exact SeqAt.EqAt.int_bool a t' b
    | int b => obtain ⟨t, rfl⟩ := rx; exact SeqAt.EqAt.int_int a t' b t
    | str b => obtain ⟨t, rfl⟩ := rx; exact SeqAt.EqAt.int_str a t' b t
    | _ => exact absurd (show false = true from fx) Bool.false_ne_true
  | str a =>
    obtain ⟨t', rfl⟩ := ry
    cases x with
    | non => cases rx; exact SeqAt.EqAt.str_none a t'
    | bl b => cases rx; exact SeqAt.EqAt.str_bool a t' b
    | int b => obtain ⟨t, rfl⟩ := rx; exact SeqAt.EqAt.str_int a t' b t
    | str b => obtain ⟨t, rfl⟩ := rx; exact SeqAt.EqAt.str_str a t' b t
    | _ => exact absurd (show false = true from fx) Bool.false_ne_true
  | _ => exact absurd (show false = true from fy) Bool.false_ne_true
/-- the items' answers, read off the values (a value's own answer does not lean on its token) -/
def eqU (x : V) (u : Value) : Bool := match u with
  | .none => eqV .non x
  | .bool b => eqV (.bl b) x
  | .int i _ => eqV (.int i) x
  | .str z _ => eqV (.str z) x
  | _ => false
theorem eqU_of {x y : V} {u : Value} (r : RelV y u) (f : flatV y = true) : eqU x u = eqV y x := by
  cases y with
  | non => cases r; rfl
  | bl b => cases r; rfl
  | int i => obtain ⟨t, rfl⟩ := r; rfl
  | str z => obtain ⟨t, rfl⟩ := r; rfl
  | _ => exact absurd (show false = true from f) Bool.false_ne_true
theorem any_eqU {x : V} : ∀ {xs : List V} {us : List Value}, Vals xs us → xs.all flatV = true → us.any (eqU x) = xs.any fun y => eqV y x
  | _, _, .nil, _ => rfl
  | y :: xs, u :: us, .cons r t, f => by
    rw [List.all_cons, Bool.and_eq_true] at f
    rw [List.any_cons, List.any_cons, eqU_of r f.1, any_eqU t f.2]
theorem mem_eqAt {A : Around} {s : Shared} {x : V} {v : Value} (rx : RelV x v) (fx : flatV x = true) : ∀ {xs : List V} {us : List Value}, Vals xs us → xs.all flatV = true → ∀ u ∈ us, SeqAt.EqAt A s u v (eqU x u)
  | _, _, .nil, _ => fun u hu => by cases hu
  | y :: xs, u :: us, .cons r t, f => fun u' hu => by
    rw [List.all_cons, Bool.and_eq_true] at f
    rcases List.mem_cons.mp hu with rfl | hu
    · rw [eqU_of r f.1]; exact eqAt_V r rx f.1 fx
    · exact mem_eqAt rx fx t f.2 u' hu
def inV (x : V) (xs : List V) : Bool := xs.any fun y => eqV y x
/-- x in a list or tuple of flat items -/
def rIn (K : PySem.W.Frag) (neg : Bool) : R2 := fun x y H Q => ∃ p xs, y = .ref p ∧ (SqL K H p xs ∨ SqT K H p xs) ∧ flatV x = true ∧ xs.all flatV = true ∧ Q (.bl (if neg then !inV x xs else inV x xs)) H
theorem op_notIn_seq : OpR X (compareOp .NotIn) (rIn X.K true) := by
  intro pins s σ H x y v u Q I rx ry h
  obtain ⟨p, xs, rfl, hq, fx, fs, q⟩ := h
  cases ry
  rcases hq with hq | hq
  · obtain ⟨its, r, pl, hz⟩ := I.list hq
    refine SeqAt.notIn_listAt (eqU x) pl.isList (fun w hw => mem_eqAt rx fx r fs w (by simpa using hw)) ⟨.bl _, H, I, rfl, ?_⟩
    rw [show its.toArray.any (eqU x) = its.any (eqU x) by simp, any_eqU r fs]
    exact q
  · obtain ⟨its, r, pl, hz⟩ := I.tuple hq
    refine SeqAt.notIn_tupleAt (eqU x) pl (fun w hw => mem_eqAt rx fx r fs w (by simpa using hw)) ⟨.bl _, H, I, rfl, ?_⟩
    rw [show its.toArray.any (eqU x) = its.any (eqU x) by simp, any_eqU r fs]
    exact q
/-! ### len, list(x), tuple(x) of any list or tuple that is read -/
theorem call_len_seq : CallR X (.builtin "len") (fun xs H Q => ∃ p ys, xs = [.ref p] ∧ (SqL X.K H p ys ∨ SqT X.K H p ys) ∧ Q (.int ys.length) H) := by
  intro pins s σ H xs us Q I r h
  obtain ⟨p, ys, rfl, hq, q⟩ := h
  obtain ⟨u, rfl, rx⟩ := vals1 r
  cases rx
  have hn := line63
  rcases hq with hq | hq
  · obtain ⟨its, r', pl, hz⟩ := I.list hq
    have hlen := r'.length
    exact Calls.call_len_list pl.isList (by simp only [List.size_toArray] <;> omega) ⟨.int ys.length, H, I.tok _, ⟨s.toks + 1, by rw [List.size_toArray, hlen]⟩, q⟩
  · obtain ⟨its, r', pl, hz⟩ := I.tuple hq
    have hlen := r'.length
    exact len_tuple pl (by simp only [List.size_toArray] <;> omega) ⟨.int ys.length, H, I.tok _, ⟨s.toks + 1, by rw [List.size_toArray, hlen]⟩, q⟩
theorem CallR.or {f : Value} {r r' : List V → Hp → VK → Prop} (h : CallR X f r) (h' : CallR X f r') : CallR X f (fun xs H Q => r xs H Q ∨ r' xs H Q) := by
  intro pins s σ H xs us Q I rs q
  rcases q with q | q
  · exact h pins s σ H xs us Q I rs q
  · exact h' pins s σ H xs us Q I rs q
theorem call_list_of : CallR X (.type "list") (fun xs H Q => ∃ p ys, xs = [.ref p] ∧ (SqL X.K H p ys ∨ SqT X.K H p ys) ∧ ∀ l, H l = none → Q (.ref l) (upd H l (.lst ys))) := by
  intro pins s σ H xs us Q I r h
  obtain ⟨p, ys, rfl, hq, q⟩ := h
  obtain ⟨u, rfl, rx⟩ := vals1 r
  cases rx
  have fin : ∀ (its : List Value), Vals ys its → ys.length ≤ sizeLine → ∀ (h' : Heap) (c' : Nat), (∀ b o', s.heap.get? b = some o' → h'.get? b = some o') →
      h'.get? s.heap.objs.size = some { cls := .type "list", dict := none, data := .seq its.toArray c', slots := #[] } → EP X pins σ Q (.ref s.heap.objs.size) { s with heap := h' } := fun its r' hz h' c' kp e =>
    ⟨.ref s.heap.objs.size, _, I.laid (t' := s.toks) kp (Nat.le_refl _) (show ObjOk X.prog X.w _ h' _ (.lst ys) from ⟨hz, its, c', r', e⟩), rfl, q _ (I.hok.fresh (Nat.le_refl _))⟩
  rcases hq with hq | hq
  · obtain ⟨its, r', pl, hz⟩ := I.list hq
    have hlen := r'.length
    obtain ⟨o, ho, hc, n, hd⟩ := pl.isList
    exact call_list_seq p (.inl rfl) ho hc hd (fun h' c' kp e => fin its r' hz h' c' kp e) (by simp only [List.size_toArray] <;> omega)
  · obtain ⟨its, r', pl, hz⟩ := I.tuple hq
    have hlen := r'.length
    obtain ⟨o, ho, hc, n, hd⟩ := pl
    exact call_list_seq p (.inr rfl) ho hc hd (fun h' c' kp e => fin its r' hz h' c' kp e) (by simp only [List.size_toArray] <;> omega)
/-! ### the call of a builtin's method: o.m(..) -/
/-- the value is of that builtin type -/
def tyV (K : PySem.W.Frag) (T : String) (x : V) (H : Hp) : Prop := match x with
  | .str _ => T = "str"
  | .int _ => T = "int"
  | .ref p => (T = "list" ∧ ∃ xs, SqL K H p xs) ∨ (T = "tuple" ∧ ∃ o, K.lookup p = some o ∧ o.cls = .type "tuple" ∧ o.dict = none) ∨
      (T = "dict" ∧ ((∃ kvs, H p = some (.dK kvs)) ∨ ∃ kvs, H p = some (.dT kvs))) ∨ (T = "set" ∧ ∃ S n, H p = some (.set S n))
  | _ => False
theorem tyV_is {pins : List (Addr × Obj)} {σ : St} {H : Hp} {s : Shared} {T : String} {x : V} {v : Value} (I : Inv X pins σ H s) (r : RelV x v) (ty : tyV X.K T x H) :
    s.TypeIs v T ∧ ∀ a, v = .ref a → ∃ ob, s.heap.get? a = some ob ∧ ob.dict = none := by
  cases x with
  | str z =>
    obtain ⟨t, rfl⟩ := r
    cases (show T = "str" from ty)
    exact ⟨typeIs_str s z t, fun _ e => nomatch e⟩
  | int i =>
    obtain ⟨t, rfl⟩ := r
    cases (show T = "int" from ty)
    exact ⟨typeIs_int s i t, fun _ e => nomatch e⟩
  | ref p =>
    cases r
    rcases ty with ⟨rfl, xs, hq⟩ | ⟨rfl, o, hk, hc, hd⟩ | ⟨rfl, hk⟩ | ⟨rfl, S, n, hk⟩
    · obtain ⟨its, _, pl, _⟩ := I.list hq
      refine ⟨pl.isList.typeIs, fun a e => ?_⟩
      cases e
      obtain ⟨o, n, e, c, hd, _⟩ := pl
      exact ⟨o, e, hd⟩
    · refine ⟨⟨o, I.kIn p o hk, hc⟩, fun a e => ?_⟩
      cases e
      exact ⟨o, I.kIn _ o hk, hd⟩
    · have z : ∃ o, s.heap.get? p = some o ∧ o.ExactDict := by
        rcases hk with ⟨kvs, hk⟩ | ⟨kvs, hk⟩
        · obtain ⟨_, _, _, _, o, _, _, e, ex, _⟩ := I.hok p _ hk
          exact ⟨o, e, ex⟩
        · obtain ⟨_, _, _, _, o, _, _, e, ex, _⟩ := I.hok p _ hk
          exact ⟨o, e, ex⟩
      obtain ⟨o, e, ex⟩ := z
      refine ⟨⟨o, e, ex.1⟩, fun a e2 => ?_⟩
      cases e2
      exact ⟨o, e, ex.2.1⟩
    · obtain ⟨o, _, _, _, e, ex, _⟩ := I.hok p _ hk
      refine ⟨⟨o, e, ex.1⟩, fun a e2 => ?_⟩
      cases e2
      exact ⟨o, e, ex.2.1⟩
  | _ => exact False.elim ty
def tBM0 (K : PySem.W.Frag) (T : String) (r : V → List V → Hp → VK → Prop) (to : TE) : TE := fun σ H Q => to σ H fun x H1 => tyV K T x H1 ∧ r x [] H1 Q
def tBM (K : PySem.W.Frag) (T : String) (r : V → List V → Hp → VK → Prop) (to : TE) (t : TA) : TE := fun σ H Q => to σ H fun x H1 => tyV K T x H1 ∧ t σ H1 fun xs H2 => r x xs H2 Q
variable {o e : Expr} {es : List Expr} {to : TE} {t : TA} {name : Str} {apos cpos : Pos} {T id : String} {r : V → List V → Hp → VK → Prop}
theorem pe_bm0 (pa : PlainAttrs T) (slot : Slot T name id) (hty : typeOf (.builtin id) = pure (.type "method_descriptor")) (hm : MtR X id r) (ho : PE X o to)
    (hbase : attributeBase o name X.env (eval o X.env) = eval o X.env := by rfl) (hline : (apos.endLine == cpos.line) = true := by rfl) : PE X (.Call (.Attribute o name apos) [] [] cpos) (tBM0 X.K T r to) := by
  intro pins s σ H Q I h
  refine wpAny_Call_method0_late hbase hline (thn (ho pins s σ H _ I h) fun v s1 ⟨x, H1, I1, r1, ty, q1⟩ => ?_)
  obtain ⟨h1, h2⟩ := tyV_is I1 r1 ty
  exact ⟨T, id, pa, slot, hty, h1, h2, Calls.callWith_builtin rfl (PySem.evalArgs_none (hm pins s1 σ H1 x [] v [] Q I1 r1 .nil q1))⟩
theorem pe_bm (pa : PlainAttrs T) (slot : Slot T name id) (hty : typeOf (.builtin id) = pure (.type "method_descriptor")) (hm : MtR X id r) (ho : PE X o to) (ha : PA X (e :: es) t)
    (hbase : attributeBase o name X.env (eval o X.env) = eval o X.env := by rfl)
    (hfew : ((backTo cpos (starEach (e :: es) X.env)).all (fun x => !x.1) && (backToKw cpos (keywordEach [] X.env)).all (fun x => x.1.isSome)
      && decide ((e :: es).length + ([] : List Keyword).length + (if ([] : List Keyword).isEmpty then 0 else 1) < 30)) = true := by rfl)
    (hline : (apos.endLine == cpos.line) = true := by rfl) (hs : starEach (e :: es) X.env = (false, eval e X.env) :: starEach es X.env := by rfl) (hplain : (backTo cpos (starEach es X.env)).any (·.1) = false := by rfl) :
    PE X (.Call (.Attribute o name apos) (e :: es) [] cpos) (tBM X.K T r to t) := by
  intro pins s σ H Q I h
  refine wpAny_Call_method_late hbase hfew hline rfl (thn (ho pins s σ H _ I h) fun v s1 ⟨x, H1, I1, r1, ty, q1⟩ => ?_)
  obtain ⟨h1, h2⟩ := tyV_is I1 r1 ty
  refine ⟨T, id, pa, slot, hty, h1, h2, ?_⟩
  have hA := ha cpos pins s1 σ H1 _ I1 q1
  rw [hs] at hA ⊢
  refine Calls.callWith_builtin (by show (false || (backTo cpos (starEach es X.env)).any (·.1)) = false; rw [hplain] <;> rfl) (Calls.evalArgs_plain ?_)
  exact thn hA fun us s2 ⟨vs, H2, I2, r2, q2⟩ => hm pins s2 σ H2 x vs v us Q I2 r1 r2 q2
/- xs.append(e), list.index on a module's tuple .. are MtR facts of 06m -/
end
end L2

namespace L2
open PySem PySem.Spec PyProof.Rows

def MtM (X : Cx) (id : String) (r : V → List V → Hp → VK → Prop) : Prop :=
  ∀ (pins : List (Addr × Obj)) (s : Shared) (σ : St) (H : Hp) (x : V) (xs : List V) (v : Value) (us : List Value) (Q : VK), Inv X pins σ H s → RelV x v → Vals xs us → r x xs H Q →
    wpAny (model X.prog X.w) X.A (call (.builtin id) (v :: us)) (EP X pins σ Q) X.xe s

/-! ### lists of values -/
theorem Vals.one : ∀ {x : V} {us : List Value}, Vals [x] us → ∃ u, us = [u] ∧ RelV x u
  | _, _, .cons r .nil => ⟨_, rfl, r⟩
theorem Vals.two : ∀ {x y : V} {us : List Value}, Vals [x, y] us → ∃ u v, us = [u, v] ∧ RelV x u ∧ RelV y v
  | _, _, _, .cons r (.cons q .nil) => ⟨_, _, rfl, r, q⟩
theorem Vals.zero : ∀ {us : List Value}, Vals [] us → us = []
  | _, .nil => rfl
theorem Vals.eraseIdx : ∀ {xs : List V} {us : List Value} (i : Nat), Vals xs us → Vals (xs.eraseIdx i) (us.eraseIdx i)
  | _, _, _, .nil => .nil
  | _, _, 0, .cons _ t => t
  | _, _, i + 1, .cons r t => .cons r (Vals.eraseIdx i t)
theorem Vals.reverse {xs : List V} {us : List Value} (h : Vals xs us) : Vals xs.reverse us.reverse := by
  induction h with
  | nil => exact .nil
  | cons r t ih => rw [List.reverse_cons, List.reverse_cons]; exact Vals.append ih (.cons r .nil)
theorem Vals.rep {xs : List V} {us : List Value} (h : Vals xs us) : ∀ k : Nat, Vals (List.replicate k xs).flatten (List.replicate k us).flatten
  | 0 => .nil
  | k + 1 => by
    rw [List.replicate_succ, List.replicate_succ, List.flatten_cons, List.flatten_cons]
    exact Vals.append h (Vals.rep h k)
theorem foldl_rep (its : List Value) : ∀ (k : Nat) (acc : List Value),
    List.foldl (fun x1 x2 => x1 ++ x2) acc.toArray (List.replicate k its.toArray) = (acc ++ (List.replicate k its).flatten).toArray
  | 0, acc => by simp
  | k + 1, acc => by
    have e : acc.toArray ++ its.toArray = (acc ++ its).toArray := by simp
    have e2 : (acc ++ its) ++ (List.replicate k its).flatten = acc ++ (List.replicate (k + 1) its).flatten := by
      rw [List.replicate_succ, List.flatten_cons, List.append_assoc]
    rw [← e2, ← foldl_rep its k (acc ++ its), ← e, List.replicate_succ, List.foldl_cons]

section
variable {X : Cx} {pins : List (Addr × Obj)} {σ : St} {H : Hp} {s : Shared} {l b : Addr} {xs ys zs : List V}

/-! ### the two steps: a tracked list is rewritten, a new list is laid -/
theorem Inv.lset {its its' : List Value} {n : Nat} {f : Array Value → Array Value} {t' : Nat} (I : Inv X pins σ H s) (hH : H l = some (.lst xs))
    (e : s.heap.get? l = some { cls := .type "list", data := .seq its.toArray n }) (hf : f its.toArray = its'.toArray) (hv : Vals ys its') (hz : ys.length ≤ sizeLine) :
    Inv X pins σ (upd H l (.lst ys)) { s with heap := s.heap.update l (Obj.mapSeq f), toks := t' } := by
  have q := PySem.IsL.update e f
  rw [hf] at q
  refine I.write (x := l) (e := l) (by rw [hH]; exact trivial) (.inl rfl) (fun b' u hb hu => (Heap.get?_update_other s.heap (Obj.mapSeq f) (Ne.symm hb)).trans hu) ⟨_, q⟩ ?_
  exact ⟨hz, its', _, hv, q⟩
theorem Inv.lnew {its : List Value} {t' : Nat} (I : Inv X pins σ H s) (hv : Vals ys its) (hz : ys.length ≤ sizeLine) :
    Inv X pins σ (upd H s.heap.objs.size (.lst ys)) { s with heap := s.heap.push { cls := .type "list", data := .seq its.toArray }, toks := t' } :=
  I.laid (fun _ _ q => Heap.get?_push_of_some _ q) (Nat.le_refl _) ⟨hz, its, 0, hv, Heap.get?_push_size _ rfl⟩
theorem Inv.fresh (I : Inv X pins σ H s) : H s.heap.objs.size = none := I.hok.fresh (Nat.le_refl _)
theorem Inv.lstM (I : Inv X pins σ H s) (hH : H l = some (.lst xs)) : xs.length ≤ sizeLine ∧ ∃ (its : List Value) (n : Nat), Vals xs its ∧ xs.length = its.length ∧ s.heap.get? l = some { cls := .type "list", data := .seq its.toArray n } := by
  obtain ⟨z, its, n, r, e⟩ := I.hok l _ hH
  exact ⟨z, its, n, r, r.length, e⟩

theorem notLongL {n : Nat} (h : n ≤ sizeLine) : Builtin.List.listTooLong n = false := by
  unfold Builtin.List.listTooLong
  exact decide_eq_false (by omega)
end

section
variable {X : Cx}

/-! ### methods -/
def rAppend : V → List V → Hp → VK → Prop := fun x vs H Q => ∃ l xs y, x = .ref l ∧ vs = [y] ∧ H l = some (.lst xs) ∧ xs.length < sizeLine ∧ Q .non (upd H l (.lst (xs ++ [y])))
theorem mt_append : MtM X "list.append" rAppend := by
  intro pins s σ H x vs v us Q I rx rv h
  obtain ⟨l, xs, y, rfl, rfl, hH, hz, q⟩ := h
  cases rx
  obtain ⟨u, rfl, ru⟩ := rv.one
  obtain ⟨z, its, n, r, hl, e⟩ := I.lstM hH
  refine call_meets F.slot_list_append ⟨_, e, rfl⟩ F.entry_list_append (F.args_list_append_2 _ _) (PySem.list_append l its.toArray n u (by rw [List.size_toArray]; omega)) ⟨e, ?_⟩
  refine ⟨.non, _, I.lset (its' := its ++ [u]) hH e (by simp) (r.append (.cons ru .nil)) ?_, rfl, q⟩
  rw [List.length_append, List.length_singleton]
  omega

def rReverse : V → List V → Hp → VK → Prop := fun x vs H Q => ∃ l xs, x = .ref l ∧ vs = [] ∧ H l = some (.lst xs) ∧ Q .non (upd H l (.lst xs.reverse))
theorem mt_reverse : MtM X "list.reverse" rReverse := by
  intro pins s σ H x vs v us Q I rx rv h
  obtain ⟨l, xs, rfl, rfl, hH, q⟩ := h
  cases rx
  have hus := rv.zero
  subst hus
  obtain ⟨z, its, n, r, hl, e⟩ := I.lstM hH
  refine call_meets F.slot_list_reverse ⟨_, e, rfl⟩ F.entry_list_reverse (F.args_list_reverse_1 _) (AutoSeq1.list_reverse_list_0 l its.toArray n (by rw [List.size_toArray]; omega)) ⟨e, ?_⟩
  refine ⟨.non, _, I.lset (its' := its.reverse) hH e (by simp) r.reverse ?_, rfl, q⟩
  rw [List.length_reverse]
  omega

/-! ### list + list, list += list, list * int -/
def rCat : R2 := fun x y H Q => ∃ l b xs zs, x = .ref l ∧ y = .ref b ∧ H l = some (.lst xs) ∧ H b = some (.lst zs) ∧ xs.length + zs.length ≤ sizeLine ∧ ∀ p, H p = none → Q (.ref p) (upd H p (.lst (xs ++ zs)))
theorem op_cat : OpR X (binaryOp .Add) rCat := by
  intro pins s σ H x y v u Q I rx ry h
  obtain ⟨l, b, xs, zs, rfl, rfl, hH, hB, hz, q⟩ := h
  cases rx
  cases ry
  obtain ⟨z, its, n, r, hl, e⟩ := I.lstM hH
  obtain ⟨z2, its2, n2, r2, hl2, e2⟩ := I.lstM hB
  refine PySem.P.add_list e e2 ?_ (by rw [List.size_toArray, List.size_toArray]; omega)
  have ea : its.toArray ++ its2.toArray = (its ++ its2).toArray := by simp
  rw [ea]
  exact ⟨.ref _, _, I.lnew (t' := s.toks) (r.append r2) (by rw [List.length_append]; omega), rfl, q _ I.fresh⟩
/-- a list times an int (a negative one is nothing) -/
def rRep : R2 := fun x y H Q => ∃ l k xs, x = .ref l ∧ y = .int k ∧ H l = some (.lst xs) ∧ -(2 ^ 63) ≤ k ∧ k < 2 ^ 63 ∧ xs.length * k.toNat ≤ sizeLine ∧
  ∀ p, H p = none → Q (.ref p) (upd H p (.lst (List.replicate k.toNat xs).flatten))
theorem len_rep {α : Type} (xs : List α) (k : Nat) : (List.replicate k xs).flatten.length = k * xs.length := by
  induction k with
  | zero => simp
  | succ k ih => rw [List.replicate_succ, List.flatten_cons, List.length_append, ih, Nat.succ_mul, Nat.add_comm]
theorem op_rep : OpR X (binaryOp .Mult) rRep := by
  intro pins s σ H x y v u Q I rx ry h
  obtain ⟨l, k, xs, rfl, rfl, hH, h1, h2, hz, q⟩ := h
  cases rx
  obtain ⟨t, rfl⟩ := ry
  obtain ⟨z, its, n, r, hl, e⟩ := I.lstM hH
  have hlen : its.toArray.size * k.toNat ≤ sizeLine := by rw [List.size_toArray, ← hl]; exact hz
  have hcap : ¬ its.toArray.size * k.toNat > (2 ^ 63 - 1) / 8 := by
    have : (sizeLine : Nat) ≤ (2 ^ 63 - 1) / 8 := by decide
    omega
  have hfit : ¬ (!Builtin.List.listFitsIndex k) = true := by
    rw [fitsIndex_both h1 h2]
    exact Bool.false_ne_true
  have hlong : ¬ Builtin.List.listTooLong (its.toArray.size * k.toNat) = true := by
    rw [notLongL hlen]
    exact Bool.false_ne_true
  have hnew : List.foldl (fun x1 x2 => x1 ++ x2) #[] (List.replicate (if its.toArray.isEmpty = true then 0 else k.toNat) its.toArray) = (List.replicate k.toNat its).flatten.toArray := by
    have f0 : ∀ m : Nat, List.foldl (fun x1 x2 => x1 ++ x2) #[] (List.replicate m its.toArray) = (List.replicate m its).flatten.toArray := fun m => by
      have := foldl_rep its m []
      rw [List.nil_append] at this
      exact this
    rw [f0]
    cases its with
    | nil => simp
    | cons a r' => rw [if_neg (by simp)]
  refine wpAny_binaryOp_repeat_ref (T := "list") (U := "int") (by decide) ⟨_, e, rfl⟩ (fun s' => typeIs_int s' k t) noFill_list_mul F.fills_int_mul F.slot_int_rmul repeat_list F.slot_int_index.lookup
    (call_meets F.slot_int_rmul (typeIs_int s k t) F.entry_int_rmul (F.args_int_rmul_2 _ _) (int___rmul___int_list k t l its.toArray n)
      ⟨e, rfl, ⟨_, e, rfl⟩, call_meets F.slot_list_mul ⟨_, e, rfl⟩ F.entry_list_mul (F.args_list_mul_2 _ _) (AutoListH.list___mul___list_int_3 l its.toArray n k t hfit hcap hlong) ⟨e, ?_⟩⟩)
  rw [hnew]
  exact ⟨.ref _, _, I.lnew (t' := s.toks) (r.rep k.toNat) (by rw [len_rep, Nat.mul_comm]; exact hz), rfl, q _ I.fresh⟩

/-! ### del xs[i] -/
end

/-! ### xs[a:b] = ys -/
section
variable {prog : Program} {w : World} {A : Around} {E : Value → Shared → Prop} {s : Shared}
end

section
variable {X : Cx}
end
end L2

namespace L2
open PySem PySem.Spec PyProof.Rows

theorem Vals.ints : ∀ {ns : List Int} {us : List Value}, Vals (ns.map V.int) us → IntsAre us ns
  | [], us, h => by
    rw [List.map_nil] at h
    cases h
    exact IntsAre.nil
  | n :: ns, us, h => by
    rw [List.map_cons] at h
    cases h with
    | cons r t =>
      obtain ⟨k, rfl⟩ := r
      exact IntsAre.cons n k (Vals.ints t)
theorem vals_of_ints : ∀ {us : List Value} {ns : List Int}, IntsAre us ns → Vals (ns.map V.int) us
  | _, _, .nil => by rw [List.map_nil]; exact Paired.nil
  | _, _, .cons n t h => by rw [List.map_cons]; exact Paired.cons (show RelV (V.int n) (Value.int n t) from ⟨t, rfl⟩) (vals_of_ints h)
theorem Vals.strs : ∀ {xs : List Str} {us : List Value}, Vals (xs.map V.str) us → StrsAre us xs
  | [], us, h => by
    rw [List.map_nil] at h
    cases h
    exact StrsAre.nil
  | x :: xs, us, h => by
    rw [List.map_cons] at h
    cases h with
    | cons r t =>
      obtain ⟨k, rfl⟩ := r
      exact StrsAre.cons x k (Vals.strs t)
theorem Vals.bls : ∀ {bs : List Bool} {us : List Value}, Vals (bs.map V.bl) us → us = bs.map Value.bool
  | [], us, h => by
    rw [List.map_nil] at h
    cases h
    rfl
  | b :: bs, us, h => by
    rw [List.map_cons] at h
    cases h with
    | cons r t =>
      cases r
      rw [Vals.bls t, List.map_cons]
theorem Vals.ref1 {a : Addr} {us : List Value} (r : Vals [V.ref a] us) : us = [Value.ref a] := by
  cases r with
  | cons r t =>
    cases t
    cases r
    rfl
/-! ### the library's walks over a list of ints, kept objects alone -/
section
variable {prog : Program} {w : World} {A : Around} {E : Value → Shared → Prop} {s : Shared} {l : Addr} {its : List Value} {ns : List Int} {Q : Value → Shared → Prop}
theorem sum_raw (hh : A.handled = none) (hl : s.heap.IsList l its.toArray) (hi : IntsAre its ns)
    (h : ∀ h' tk t', (∀ b o, s.heap.get? b = some o → h'.get? b = some o) → Q (.int ns.sum t') { s with heap := h', toks := tk }) : wpAny (model prog w) A (call (.builtin "sum") [.ref l]) Q E s := by
  obtain ⟨xs, e⟩ := hi.allInts.items
  have hn : numsOf (intItems xs).toList = ns := by rw [← e]; exact hi.numsOf
  rw [nums_intItems] at hn
  rw [e] at hl
  refine PySem.sum_intListG hh hl fun h' tk t' hk => ?_
  have := h h' tk t' hk
  rw [preSum_eq, List.take_of_length_le (by simp), hn]; exact this
theorem max_raw (hh : A.handled = none) (hl : s.heap.IsList l its.toArray) (hi : IntsAre its ns) (hne : 0 < ns.length)
    (h : ∀ h' tk M t', (∀ b o, s.heap.get? b = some o → h'.get? b = some o) → M ∈ ns → (∀ a, a ∈ ns → a ≤ M) → Q (.int M t') { s with heap := h', toks := tk }) : wpAny (model prog w) A (call (.builtin "max") [.ref l]) Q E s := by
  obtain ⟨xs, e⟩ := hi.allInts.items
  have hn : numsOf (intItems xs).toList = ns := by rw [← e]; exact hi.numsOf
  rw [nums_intItems] at hn
  subst hn
  rw [e] at hl
  have hsz : 0 < xs.size := by simpa using hne
  refine PySem.max_intList hh hl hsz fun v h' tk hv hk => ?_
  obtain ⟨t, rfl⟩ := intItems_at hv
  obtain ⟨h1, h2⟩ := argBest_gt (numAt xs) (xs.size - 1)
  refine h h' tk _ t hk ?_ fun a ha => ?_
  · rw [numAt_eq]; exact PySem.getD_mem (by rw [List.length_map, Array.length_toList]; omega)
  · obtain ⟨j, hj, rfl⟩ := mem_getD ha
    rw [List.length_map, Array.length_toList] at hj
    rw [← numAt_eq]; exact h2 j (by omega)
theorem min_raw (hh : A.handled = none) (hl : s.heap.IsList l its.toArray) (hi : IntsAre its ns) (hne : 0 < ns.length)
    (h : ∀ h' tk M t', (∀ b o, s.heap.get? b = some o → h'.get? b = some o) → M ∈ ns → (∀ a, a ∈ ns → M ≤ a) → Q (.int M t') { s with heap := h', toks := tk }) : wpAny (model prog w) A (call (.builtin "min") [.ref l]) Q E s := by
  obtain ⟨xs, e⟩ := hi.allInts.items
  have hn : numsOf (intItems xs).toList = ns := by rw [← e]; exact hi.numsOf
  rw [nums_intItems] at hn
  subst hn
  rw [e] at hl
  have hsz : 0 < xs.size := by simpa using hne
  refine PySem.min_intList hh hl hsz fun v h' tk hv hk => ?_
  obtain ⟨t, rfl⟩ := intItems_at hv
  obtain ⟨h1, h2⟩ := argBest_lt (numAt xs) (xs.size - 1)
  refine h h' tk _ t hk ?_ fun a ha => ?_
  · rw [numAt_eq]; exact PySem.getD_mem (by rw [List.length_map, Array.length_toList]; omega)
  · obtain ⟨j, hj, rfl⟩ := mem_getD ha
    rw [List.length_map, Array.length_toList] at hj
    rw [← numAt_eq]; exact h2 j (by omega)
end

/-! ### the calls, by values (CallR of 03t; MtR of 06l) -/
section
variable {X : Cx}
/-- sum(xs) of a list of ints -/
def rSum (K : PySem.W.Frag) : List V → Hp → VK → Prop := fun vs H Q => ∃ (a : Addr) (ns : List Int), vs = [V.ref a] ∧ SqL K H a (ns.map V.int) ∧ Q (.int ns.sum) H
/-- max(xs), min(xs) of a list of ints -/
def rMax (K : PySem.W.Frag) : List V → Hp → VK → Prop := fun vs H Q => ∃ (a : Addr) (ns : List Int), vs = [V.ref a] ∧ SqL K H a (ns.map V.int) ∧ 0 < ns.length ∧ ∀ m, m ∈ ns → (∀ y, y ∈ ns → y ≤ m) → Q (.int m) H
def rMin (K : PySem.W.Frag) : List V → Hp → VK → Prop := fun vs H Q => ∃ (a : Addr) (ns : List Int), vs = [V.ref a] ∧ SqL K H a (ns.map V.int) ∧ 0 < ns.length ∧ ∀ m, m ∈ ns → (∀ y, y ∈ ns → m ≤ y) → Q (.int m) H
theorem cr_sum (hc : X.calm = true) : CallR X (.builtin "sum") (rSum X.K) := by
  intro pins s σ H vs us Q I r h
  obtain ⟨a, ns, rfl, hs, q⟩ := h
  obtain ⟨its, rv, hl, _⟩ := I.list hs
  rw [Vals.ref1 r]
  exact sum_raw (I.ok.hd hc) hl.isList rv.ints fun h' tk t' hk => ⟨.int _, H, I.kept hk, ⟨_, rfl⟩, q⟩
theorem cr_max (hc : X.calm = true) : CallR X (.builtin "max") (rMax X.K) := by
  intro pins s σ H vs us Q I r h
  obtain ⟨a, ns, rfl, hs, hne, q⟩ := h
  obtain ⟨its, rv, hl, _⟩ := I.list hs
  rw [Vals.ref1 r]
  exact max_raw (I.ok.hd hc) hl.isList rv.ints hne fun h' tk m t' hk h1 h2 => ⟨.int _, H, I.kept hk, ⟨_, rfl⟩, q m h1 h2⟩
theorem cr_min (hc : X.calm = true) : CallR X (.builtin "min") (rMin X.K) := by
  intro pins s σ H vs us Q I r h
  obtain ⟨a, ns, rfl, hs, hne, q⟩ := h
  obtain ⟨its, rv, hl, _⟩ := I.list hs
  rw [Vals.ref1 r]
  exact min_raw (I.ok.hd hc) hl.isList rv.ints hne fun h' tk m t' hk h1 h2 => ⟨.int _, H, I.kept hk, ⟨_, rfl⟩, q m h1 h2⟩

/-! sorted, sort (fewer than 64 items: the library's own bound) -/
end

/-! ### list.index, flat items -/
section
variable {X : Cx}
end

/-! ### type(x) of an own instance; is, is not of a module's class -/
section
variable {X : Cx}
end

/-! ### any(xs), all(xs) of a list of bools -/
theorem iter_any {prog : Program} {w : World} {A : Around} {E : Value → Shared → Prop} {s : Shared} {l : Addr} {items : Array Value} {Q : Value → Shared → Prop} (hl : s.heap.IsList l items)
    (h : ∀ s₂ : Shared, s₂ = { s with heap := s.heap.push { cls := .type "list_iterator", data := .fields #[.ref l, .int 0 0] } } →
      (s₂.heap.IsListIter s.heap.objs.size l 0 ∧ s₂.heap.IsList l items) → l ≠ s.heap.objs.size → Q (.ref s.heap.objs.size) s₂) : wpAny (model prog w) A (pyIter (.ref l)) Q E s := by
  have hlt : l < s.heap.objs.size := by obtain ⟨_, e, _⟩ := hl; exact Heap.lt_size e
  exact wpAny_pyIter_list hl (h _ rfl ⟨⟨_, Heap.get?_push_size _ rfl, rfl, rfl⟩, hl.push _⟩ (Nat.ne_of_lt hlt))
theorem truth_bools {prog : Program} {w : World} {A : Around} {bs : List Bool} {its : List Value} (e : its = bs.map Value.bool) :
    TruthOf prog w A (fun i v => its.toArray[i]? = some v) (fun i => bs.getD i false) := fun i v s Q E hv hq => by
  have hv' : its[i]? = some v := by simpa using hv
  rw [e, List.getElem?_map] at hv'
  obtain ⟨b, hb, rfl⟩ := Option.map_eq_some_iff.mp hv'
  have hg : bs.getD i false = b := by rw [List.getD_eq_getElem?_getD, hb] <;> rfl
  have hq' : Q (bs.getD i false) s := hq
  rw [hg] at hq'
  exact wpAny_truthy_bool hq'
theorem all_range : ∀ bs : List Bool, (List.range bs.length).all (fun i => bs.getD i false) = bs.all id
  | [] => rfl
  | b :: bs => by
    rw [List.length_cons, List.range_succ_eq_map, List.all_cons, List.all_map, List.all_cons, ← all_range bs]
    all_goals rfl
section
variable {X : Cx}
def rAll (K : PySem.W.Frag) : List V → Hp → VK → Prop := fun vs H Q => ∃ (a : Addr) (bs : List Bool), vs = [V.ref a] ∧ SqL K H a (bs.map V.bl) ∧ Q (.bl (bs.all id)) H
theorem cr_all (hc : X.calm = true) : CallR X (.builtin "all") (rAll X.K) := by
  intro pins s σ H vs us Q I r h
  obtain ⟨a, bs, rfl, hs, q⟩ := h
  obtain ⟨its, rv, hl, _⟩ := I.list hs
  rw [Vals.ref1 r]
  have hb := rv.bls
  refine call_all_walk (iter_any hl.isList fun s₂ e2 st hne => ?_)
  subst e2
  refine ⟨_, _, _, _, _, _, _, rfl, Walks.list (A := X.A.in1) (I.ok.hd hc) _ a hne its.toArray, st, truth_bools hb, fun h' tk hk => ?_⟩
  refine ⟨.bl _, H, I.kept fun b o eo => hk b o (fun hmem => ?_) (Heap.get?_push_of_some _ eo), ?_, q⟩
  · rcases List.mem_cons.mp hmem with e1 | hmem
    · exact absurd (e1 ▸ Heap.lt_size eo) (Nat.lt_irrefl _)
    · cases hmem
  · show Value.bool _ = Value.bool _
    rw [← all_range, hb, List.size_toArray, List.length_map]
end

/-! ### == and != of data at any depth: none, bools, ints, texts, lists, tuples -/
mutual
inductive Dp (K : PySem.W.Frag) (H : Hp) : V → PyData → Prop
  | non : Dp K H .non .none
  | bl (b : Bool) : Dp K H (.bl b) (.bool b)
  | int (i : Int) : Dp K H (.int i) (.int i)
  | str (x : Str) : Dp K H (.str x) (.str x)
  | lst {a : Addr} {xs : List V} {ds : List PyData} : SqL K H a xs → DpAll K H xs ds → Dp K H (.ref a) (.list ds)
  | tup {a : Addr} {xs : List V} {ds : List PyData} : SqT K H a xs → DpAll K H xs ds → Dp K H (.ref a) (.tuple ds)
inductive DpAll (K : PySem.W.Frag) (H : Hp) : List V → List PyData → Prop
  | nil : DpAll K H [] []
  | cons {v : V} {vs : List V} {d : PyData} {ds : List PyData} : Dp K H v d → DpAll K H vs ds → DpAll K H (v :: vs) (d :: ds)
end
section
variable {X : Cx} {pins : List (Addr × Obj)} {σ : St} {H : Hp} {s : Shared}
mutual
theorem Dp.reads (I : Inv X pins σ H s) : ∀ (d : PyData) (v : V) (u : Value), Dp X.K H v d → RelV v u → ∃ as, Reads s.heap u d as
  | .none, _, _, h, r => by
    cases h
    cases r
    exact ⟨_, Reads.none⟩
  | .bool b, _, _, h, r => by
    cases h
    cases r
    exact ⟨_, Reads.bool b⟩
  | .int i, _, _, h, r => by
    cases h
    obtain ⟨t, rfl⟩ := r
    exact ⟨_, Reads.int i t⟩
  | .str x, _, _, h, r => by
    cases h
    obtain ⟨t, rfl⟩ := r
    exact ⟨_, Reads.str x t⟩
  | .list ds, _, _, h, r => by
    cases h with
    | lst hs ha =>
      cases r
      obtain ⟨its, rv, ⟨o, n, ho, hc, _, hd⟩, _⟩ := I.list hs
      obtain ⟨as, hr⟩ := Dp.readsAll I ds _ its ha rv
      exact ⟨_, Reads.list ho hc hd hr⟩
  | .tuple ds, _, _, h, r => by
    cases h with
    | tup hs ha =>
      cases r
      obtain ⟨its, rv, ⟨o, ho, hc, n, hd⟩, _⟩ := I.tuple hs
      obtain ⟨as, hr⟩ := Dp.readsAll I ds _ its ha rv
      exact ⟨_, Reads.tuple ho hc hd hr⟩
  | .dict _, _, _, h, _ => by cases h
theorem Dp.readsAll (I : Inv X pins σ H s) : ∀ (ds : List PyData) (vs : List V) (us : List Value), DpAll X.K H vs ds → Vals vs us → ∃ as, ReadsAll s.heap us ds as
  | [], _, _, h, r => by
    cases h
    cases r
    exact ⟨_, ReadsAll.nil⟩
  | d :: ds, _, _, h, r => by
    cases h with
    | cons h1 h2 =>
      cases r with
      | cons r1 r2 =>
        obtain ⟨as, q1⟩ := Dp.reads I d _ _ h1 r1
        obtain ⟨bs, q2⟩ := Dp.readsAll I ds _ _ h2 r2
        exact ⟨_, ReadsAll.cons q1 q2⟩
end
end
section
variable {X : Cx}
def rEqD (K : PySem.W.Frag) : R2 := fun x y H Q => ∃ d e, Dp K H x d ∧ Dp K H y e ∧ SeqAt.shaped d = true ∧ SeqAt.shaped e = true ∧ Q (.bl (PyData.eqv d e)) H
def rNeD (K : PySem.W.Frag) : R2 := fun x y H Q => ∃ d e, Dp K H x d ∧ Dp K H y e ∧ SeqAt.shaped d = true ∧ SeqAt.shaped e = true ∧ Q (.bl (!PyData.eqv d e)) H
theorem op_eqD (hu : X.A.units + 64 < cLine) : OpR X (compareOp .Eq) (rEqD X.K) := by
  intro pins s σ H x y v u Q I rx ry h
  obtain ⟨d, e, hd, he, sd, se, q⟩ := h
  obtain ⟨as, r1⟩ := Dp.reads I d x v hd rx
  obtain ⟨bs, r2⟩ := Dp.reads I e y u he ry
  exact SeqAt.compareEq_shaped r1 r2 sd se hu ⟨.bl _, H, I, rfl, q⟩
theorem op_neD (hu : X.A.units + 64 < cLine) : OpR X (compareOp .NotEq) (rNeD X.K) := by
  intro pins s σ H x y v u Q I rx ry h
  obtain ⟨d, e, hd, he, sd, se, q⟩ := h
  obtain ⟨as, r1⟩ := Dp.reads I d x v hd rx
  obtain ⟨bs, r2⟩ := Dp.reads I e y u he ry
  exact SeqAt.compareNe_shaped r1 r2 sd se hu ⟨.bl _, H, I, rfl, q⟩
end
end L2

namespace L2
open PySem PySem.Spec PyProof.Rows
abbrev CellAt (h : Heap) (c : Addr) (v : Option Value) : Prop := h.IsCell c v
def relS (scope sc : Scope) : Scope :=
  { scope with names := scope.names.map fun (n, k) => if (k == .free && sc.kind == .function && sc.names.lookup n == some .cell) then (n, .cell) else (n, k) }

def cloFrom (cells : List (Str × Addr)) : List (Str × NameKind) → List (Str × Addr) → List (Str × Addr)
  | [], acc => acc
  | (n, k) :: r, acc => if k == .free then cloFrom cells r ((n, (cells.lookup n).getD 0) :: acc) else cloFrom cells r acc

theorem closure_loop (env : Env) (f : Str × NameKind → List (Str × Addr) → Sem (ForInStep (List (Str × Addr))))
    (hf : ∀ n k c, f (n, k) c = if k == .free then (do let a ← cellOf env n; pure (.yield ((n, a) :: c))) else pure (.yield c)) :
    ∀ (names : List (Str × NameKind)) (acc : List (Str × Addr)), (∀ y ∈ names, y.2 = .free → ∃ c, env.cells.lookup y.1 = some c) → forIn names acc f = pure (cloFrom env.cells names acc)
  | [], acc, _ => by rw [List.forIn_nil]; rfl
  | (n, k) :: r, acc, h => by
    rw [List.forIn_cons, hf]
    have ih := fun acc => closure_loop env f hf r acc fun y hy => h y (List.mem_cons_of_mem _ hy)
    unfold cloFrom
    by_cases hk : (k == NameKind.free) = true
    · rw [if_pos hk, if_pos hk]
      obtain ⟨c, hc⟩ := h (n, k) List.mem_cons_self (by simpa using hk)
      have e : cellOf env n = pure c := by unfold cellOf; rw [hc]
      rw [e]
      have e2 : (env.cells.lookup n).getD 0 = c := by rw [hc]; rfl
      rw [e2]
      exact ih _
    · rw [if_neg hk, if_neg hk]
      exact ih _
theorem closure_ok {scope : Scope} {env : Env} (h : ∀ y ∈ scope.names, y.2 = .free → ∃ c, env.cells.lookup y.1 = some c) : closureFor scope env = pure (cloFrom env.cells scope.names []) := by
  simp only [closureFor]
  rw [closure_loop env _ (fun n k c => rfl) scope.names [] h]
  rfl

theorem mem_lookup {α : Type} : ∀ {l : List (Str × α)} {n : Str} {c : α}, (n, c) ∈ l → ∃ c', l.lookup n = some c'
  | (k, v) :: r, n, c, h => by
    rw [List.lookup_cons]
    cases hb : n == k with
    | true => exact ⟨_, rfl⟩
    | false =>
      rcases List.mem_cons.mp h with e | h
      · cases e; simp at hb
      · exact mem_lookup h

theorem cloFrom_mem {cells : List (Str × Addr)} : ∀ {names : List (Str × NameKind)} {acc : List (Str × Addr)} {n : Str} {c : Addr}, (n, c) ∈ cloFrom cells names acc → (n, c) ∈ acc ∨ ((n, .free) ∈ names ∧ c = (cells.lookup n).getD 0)
  | [], _, _, _, h => .inl h
  | (m, k) :: r, acc, n, c, h => by
    unfold cloFrom at h
    split at h
    · rename_i hk
      have hk : k = .free := by simpa using hk
      rcases cloFrom_mem h with h | ⟨h1, h2⟩
      · rcases List.mem_cons.mp h with e | h
        · cases e; exact .inr ⟨hk ▸ List.mem_cons_self, rfl⟩
        · exact .inl h
      · exact .inr ⟨List.mem_cons_of_mem _ h1, h2⟩
    · rcases cloFrom_mem h with h | ⟨h1, h2⟩
      · exact .inl h
      · exact .inr ⟨List.mem_cons_of_mem _ h1, h2⟩
theorem cloFrom_acc {cells : List (Str × Addr)} : ∀ {names : List (Str × NameKind)} {acc : List (Str × Addr)} {p : Str × Addr}, p ∈ acc → p ∈ cloFrom cells names acc
  | [], _, _, h => h
  | (m, k) :: r, acc, p, h => by
    unfold cloFrom
    split
    · exact cloFrom_acc (List.mem_cons_of_mem _ h)
    · exact cloFrom_acc h
theorem cloFrom_has {cells : List (Str × Addr)} : ∀ {names : List (Str × NameKind)} {acc : List (Str × Addr)} {n : Str}, (n, .free) ∈ names → (n, (cells.lookup n).getD 0) ∈ cloFrom cells names acc
  | (m, k) :: r, acc, n, h => by
    unfold cloFrom
    rcases List.mem_cons.mp h with e | h
    · cases e
      exact cloFrom_acc List.mem_cons_self
    · split
      · exact cloFrom_has h
      · exact cloFrom_has h

theorem cells_mem : ∀ {names : List (Str × NameKind)} {h : Heap} {acc : List (Str × Addr)} {x : Str} {c : Addr}, (x, c) ∈ cellsFrom h.objs.size names acc →
    (x, c) ∈ acc ∨ ((x, .cell) ∈ names ∧ h.objs.size ≤ c ∧ CellAt (pushCells h names) c none)
  | [], _, _, _, _, h => .inl h
  | (n, k) :: r, h, acc, x, c, hm => by
    unfold cellsFrom at hm
    unfold pushCells
    split at hm
    · rename_i hk
      rw [if_pos hk]
      have hk : k = .cell := by simpa using hk
      rw [← Heap.size_push h { cls := .type "cell", data := .cell none }] at hm
      rcases cells_mem hm with hm | ⟨h1, h2, h3⟩
      · rcases List.mem_cons.mp hm with e | hm
        · cases e
          exact .inr ⟨hk ▸ List.mem_cons_self, Nat.le_refl _, _, pushCells_keeps r _ _ _ (Heap.get?_push_size _ rfl), rfl⟩
        · exact .inl hm
      · rw [Heap.size_push] at h2
        exact .inr ⟨List.mem_cons_of_mem _ h1, Nat.le_of_succ_le h2, h3⟩
    · rename_i hk
      rw [if_neg hk]
      rcases cells_mem hm with hm | ⟨h1, h2, h3⟩
      · exact .inl hm
      · exact .inr ⟨List.mem_cons_of_mem _ h1, h2, h3⟩
theorem cells_acc : ∀ {names : List (Str × NameKind)} {n : Nat} {acc : List (Str × Addr)} {p : Str × Addr}, p ∈ acc → p ∈ cellsFrom n names acc
  | [], _, _, _, h => h
  | (m, k) :: r, n, acc, p, h => by
    unfold cellsFrom
    split
    · exact cells_acc (List.mem_cons_of_mem _ h)
    · exact cells_acc h
theorem cells_has : ∀ {names : List (Str × NameKind)} {n : Nat} {acc : List (Str × Addr)} {x : Str}, (x, .cell) ∈ names → ∃ c, (x, c) ∈ cellsFrom n names acc
  | (m, k) :: r, n, acc, x, h => by
    unfold cellsFrom
    rcases List.mem_cons.mp h with e | h
    · cases e
      exact ⟨n, cells_acc List.mem_cons_self⟩
    · split
      · exact cells_has h
      · exact cells_has h
theorem cells_inj : ∀ {names : List (Str × NameKind)} {h : Heap} {acc : List (Str × Addr)} {x y : Str} {c : Addr}, (∀ p ∈ acc, p.2 < h.objs.size) → (∀ x y c, (x, c) ∈ acc → (y, c) ∈ acc → x = y) →
    (x, c) ∈ cellsFrom h.objs.size names acc → (y, c) ∈ cellsFrom h.objs.size names acc → x = y
  | [], _, _, _, _, _, _, hi, h1, h2 => hi _ _ _ h1 h2
  | (n, k) :: r, h, acc, x, y, c, hl, hi, h1, h2 => by
    unfold cellsFrom at h1 h2
    split at h1
    · rename_i hk
      rw [if_pos hk] at h2
      rw [← Heap.size_push h { cls := .type "cell", data := .cell none }] at h1 h2
      refine cells_inj (h := h.push _) (fun p hp => ?_) (fun x y c a b => ?_) h1 h2
      · rw [Heap.size_push]
        rcases List.mem_cons.mp hp with rfl | hp
        · exact Nat.lt_succ_self _
        · exact Nat.lt_succ_of_lt (hl p hp)
      · rcases List.mem_cons.mp a with e | a <;> rcases List.mem_cons.mp b with e' | b
        · cases e; cases e'; rfl
        · cases e; exact absurd (hl _ b) (Nat.lt_irrefl _)
        · cases e'; exact absurd (hl _ a) (Nat.lt_irrefl _)
        · exact hi _ _ _ a b
    · rename_i hk
      rw [if_neg hk] at h2
      exact cells_inj hl hi h1 h2

theorem newEnv_comp {M : Model} {A : Around} {E : Value → Shared → Prop} {s : Shared} {scope : Scope} {globals : Addr} {closure : List (Str × Addr)} {qual : Str} {func : Option Addr} {code : Value} {around : Env} {builtins : Addr} {Q : Env → Shared → Prop}
    (h : Q (newEnv scope s.heap.objs.size globals (cellsFrom (s.heap.objs.size + 1) scope.names closure) qual func code (some around) builtins)
      { s with heap := pushCells (s.heap.push { cls := .type "dict", data := .dict #[] }) scope.names }) :
    wpAny M A (newFunctionEnv scope globals closure [] qual func code (some around) builtins) Q E s := by
  simp only [newFunctionEnv, Option.isSome_some, if_true]
  refine wpAny_bind (wpAny_alloc ?_)
  refine wpAny_bind (wpAny_layCells _ (fun n k c => rfl) scope.names closure _ _ ?_)
  rw [show ({ s with heap := s.heap.push { cls := .type "dict", data := .dict #[] } } : Shared).heap.objs.size = s.heap.objs.size + 1 from Heap.size_push ..]
  rw [List.forIn_nil]
  exact wpAny_bind (wpAny_pure (wpAny_pure h))

/-- every name of the written scope, in the scope that runs -/
theorem lookup_relS {sc : Scope} : ∀ {names : List (Str × NameKind)} {x : Str} {k : NameKind},
    (names.map fun (n, k) => if (k == NameKind.free && sc.kind == .function && sc.names.lookup n == some .cell) then (n, NameKind.cell) else (n, k)).lookup x = some k →
    ∃ k', names.lookup x = some k' ∧ (k = k' ∨ (k' = .free ∧ k = .cell))
  | [], _, _, h => by simp at h
  | (n, k₀) :: r, x, k, h => by
    have ih := @lookup_relS sc r x k
    have h' : List.lookup x ((if (k₀ == NameKind.free && sc.kind == .function && sc.names.lookup n == some .cell) = true then (n, NameKind.cell) else (n, k₀)) :: (r.map _)) = some k := h
    cases hx : x == n with
    | true =>
      simp only [List.lookup_cons, hx]
      by_cases hc : (k₀ == NameKind.free && sc.kind == .function && sc.names.lookup n == some .cell) = true
      · rw [if_pos hc] at h'
        simp only [List.lookup_cons, hx] at h'
        cases h'
        simp only [Bool.and_eq_true, beq_iff_eq] at hc
        exact ⟨k₀, rfl, .inr ⟨hc.1.1, rfl⟩⟩
      · rw [if_neg hc] at h'
        simp only [List.lookup_cons, hx] at h'
        cases h'
        exact ⟨_, rfl, .inl rfl⟩
    | false =>
      simp only [List.lookup_cons, hx]
      by_cases hc : (k₀ == NameKind.free && sc.kind == .function && sc.names.lookup n == some .cell) = true
      · rw [if_pos hc] at h'
        simp only [List.lookup_cons, hx] at h'
        exact ih h'
      · rw [if_neg hc] at h'
        simp only [List.lookup_cons, hx] at h'
        exact ih h'
/-- the names of a comprehension's block: its own (with their places in N), or captured -/
structure BlkOk (N : List Str) (sc scope : Scope) (own : List (Str × Nat)) : Prop where
  kind : scope.kind = .function
  uniq : ∀ y ∈ scope.names, scope.names.lookup y.1 = some y.2
  ix : ∀ p ∈ own, N[p.2]? = some p.1
  free : ∀ y ∈ scope.names, y.2 = .free → sc.names.lookup y.1 = some .cell ∨ sc.names.lookup y.1 = some .free
  own : ∀ y ∈ scope.names, y.2 = .local ∨ y.2 = .cell → y.1 ∈ own.map (·.1) ∨ y.1 ∉ N
/-- the slots of the block's own names forgotten -/
def wipe (σ : St) : List Nat → St
  | [] => σ
  | v :: vs => (wipe σ vs).set v none
theorem wipe_length (σ : St) : ∀ vs : List Nat, (wipe σ vs).length = σ.length
  | [] => rfl
  | v :: vs => by unfold wipe; rw [List.length_set, wipe_length σ vs]
theorem wipe_some {σ : St} {i : Nat} {x : V} : ∀ {vs : List Nat}, (wipe σ vs)[i]? = some (some x) → σ[i]? = some (some x) ∧ i ∉ vs
  | [], h => ⟨h, by simp⟩
  | v :: vs, h => by
    unfold wipe at h
    by_cases hi : v = i
    · subst hi
      by_cases hv : v < (wipe σ vs).length
      · rw [List.getElem?_set_self hv] at h; cases h
      · rw [List.getElem?_eq_none (by simpa using hv)] at h; cases h
    · rw [List.getElem?_set_ne hi] at h
      obtain ⟨h1, h2⟩ := wipe_some h
      exact ⟨h1, by simp only [List.mem_cons, not_or]; exact ⟨fun e => hi e.symm, h2⟩⟩

/-- the context of a block that starts at s, its iterator's objects at fp -/
abbrev Cx.blk (X : Cx) (s : Shared) (H : Hp) (scope : Scope) (cenv : Env) (fp : List Addr) : Cx := { X with s_0 := s, H_0 := H, env := cenv, outer := X.stack, ex := fp, fn := fun x => scope.names.lookup x == some .cell, pn := [], xe := fun _ _ => False }
section
variable {X : Cx} {pins : List (Addr × Obj)} {σ : St} {H : Hp} {s : Shared}
theorem block_start {scope : Scope} {own : List (Str × Nat)} {fp : List Addr} (I : Inv X pins σ H s) (ok : BlkOk X.N X.env.scope scope own) (hN : X.N.Nodup) (hfp : ∀ b ∈ fp, FpOk X pins H b ∧ b < s.heap.objs.size) :
    Inv (X.blk s H scope (compEnvC scope (cellsFrom (s.heap.objs.size + 1) scope.names (cloFrom X.env.cells scope.names [])) s.heap.objs.size X.env) fp) [] (wipe σ (own.map (·.2))) H { s with heap := pushCells (s.heap.push { cls := .type "dict", data := .dict #[] }) scope.names } := by
  have hfree : ∀ y ∈ scope.names, y.2 = .free → ∃ c, X.env.cells.lookup y.1 = some c := fun y hy e => by
    rcases ok.free y hy e with k | k
    · exact I.ok.has _ (.inl k)
    · exact I.ok.has _ (.inr k)
  generalize hcenv : compEnvC scope (cellsFrom (s.heap.objs.size + 1) scope.names (cloFrom X.env.cells scope.names [])) s.heap.objs.size X.env = cenv
  have kp : ∀ b o, s.heap.get? b = some o → (pushCells (s.heap.push { cls := .type "dict", data := .dict #[] }) scope.names).get? b = some o := fun b o e => pushCells_keeps _ _ _ _ (Heap.get?_push_of_some _ e)
  have hL : cenv.locals = s.heap.objs.size := by rw [← hcenv]; rfl
  have hcl : cenv.cells = cellsFrom (s.heap.objs.size + 1) scope.names (cloFrom X.env.cells scope.names []) := by rw [← hcenv]; rfl
  have hsc : cenv.scope = relS scope X.env.scope := by rw [← hcenv]; rfl
  rw [← Heap.size_push s.heap { cls := .type "dict", data := .dict #[] }] at hcl
  have cm : ∀ {y c}, (y, c) ∈ cloFrom X.env.cells scope.names [] → X.env.cells.lookup y = some c ∧ c < s.heap.objs.size := fun {y c} hm => by
    rcases cloFrom_mem hm with hm | ⟨h1, rfl⟩
    · cases hm
    · obtain ⟨c, hc⟩ := hfree _ h1 rfl
      rw [hc]
      obtain ⟨w, z⟩ := I.cell _ _ hc
      exact ⟨rfl, z.lt⟩
  have mem : ∀ {y c}, cenv.cells.lookup y = some c → (X.env.cells.lookup y = some c ∧ c < s.heap.objs.size) ∨ (s.heap.objs.size + 1 ≤ c ∧ CellAt (pushCells (s.heap.push { cls := .type "dict", data := .dict #[] }) scope.names) c none) := fun {y c} e => by
    rw [hcl] at e
    rcases cells_mem (PySem.mem_of_lookup e) with hm | ⟨_, h2, h3⟩
    · exact .inl (cm hm)
    · rw [Heap.size_push] at h2; exact .inr ⟨h2, h3⟩
  have look : ∀ {y}, scope.names.lookup y = some .free → ∃ c, cenv.cells.lookup y = some c ∧ X.env.cells.lookup y = some c := fun {y} hl => by
    have hy : (y, NameKind.free) ∈ scope.names := PySem.mem_of_lookup hl
    obtain ⟨c', e'⟩ := mem_lookup (cells_acc (names := scope.names) (n := (s.heap.push { cls := .type "dict", data := .dict #[] }).objs.size) (cloFrom_has (cells := X.env.cells) (acc := []) hy))
    rw [← hcl] at e'
    refine ⟨c', e', ?_⟩
    rw [hcl] at e'
    rcases cells_mem (PySem.mem_of_lookup e') with hm | ⟨h1, _, _⟩
    · exact (cm hm).1
    · have := ok.uniq _ h1
      rw [hl] at this; cases this
  have okB : (X.blk s H scope cenv fp).Ok := by
    refine ⟨I.ok.mod, by show cenv.scope.kind = _; rw [hsc]; exact ok.kind, by show cenv.globals = _; rw [← hcenv]; exact I.ok.glob, by show cenv.builtins = _; rw [← hcenv]; exact I.ok.blt, by show s.heap.objs.size ≤ cenv.locals; rw [hL]; exact Nat.le_refl _,
      fun y z c e1 e2 => ?_, fun y hy => ?_, fun y c z e => ?_, I.ok.hd, I.ok.frames, .inl rfl, fun b hb => ⟨?_, fun y c e z => ?_⟩, I.bs, Nat.le_trans I.ok.bsz I.sz, fun b o e hb => ?_, fun b hb z => ?_, I.stack, I.stkFree⟩
    · have e1 : cenv.cells.lookup y = some c := e1
      have e2 : cenv.cells.lookup z = some c := e2
      rw [hcl] at e1 e2
      refine cells_inj (fun p hp => ?_) (fun y z c a b => I.ok.inj y z c (cm a).1 (cm b).1) (PySem.mem_of_lookup e1) (PySem.mem_of_lookup e2)
      rw [Heap.size_push]
      exact Nat.lt_succ_of_lt (cm (y := p.1) (c := p.2) hp).2
    · show ∃ c, cenv.cells.lookup y = some c
      have key : ∀ k, cenv.kindOf y = some k → (k = .cell ∨ k = .free) → ∃ c, cenv.cells.lookup y = some c := fun k hk hk' => by
        unfold Env.kindOf at hk
        rw [hsc] at hk
        obtain ⟨k', e, r⟩ := lookup_relS hk
        have : k' = .cell ∨ k' = .free := by
          rcases r with rfl | ⟨rfl, _⟩
          · exact hk'
          · exact .inr rfl
        rcases this with rfl | rfl
        · obtain ⟨c, hm⟩ := cells_has (n := (s.heap.push { cls := .type "dict", data := .dict #[] }).objs.size) (acc := cloFrom X.env.cells scope.names []) (PySem.mem_of_lookup e)
          obtain ⟨c', e'⟩ := mem_lookup hm
          exact ⟨c', by rw [hcl]; exact e'⟩
        · obtain ⟨c, h1, _⟩ := look e
          exact ⟨c, h1⟩
      rcases hy with hy | hy
      · exact key _ hy (.inl rfl)
      · exact key _ hy (.inr rfl)
    · have z : (scope.names.lookup y == some NameKind.cell) = true := z
      have z : scope.names.lookup y = some .cell := by simpa using z
      have e : cenv.cells.lookup y = some c := e
      rw [hcl] at e
      rcases cells_mem (PySem.mem_of_lookup e) with hm | ⟨_, h2, _⟩
      · rcases cloFrom_mem hm with hm | ⟨h1, _⟩
        · cases hm
        · have q := ok.uniq _ h1
          rw [z] at q; cases q
      · rw [Heap.size_push] at h2
        exact Nat.le_of_succ_le h2
    · show b ≠ cenv.locals
      rw [hL]; exact Nat.ne_of_lt (hfp b hb).2
    · have e : cenv.cells.lookup y = some c := e
      rcases mem e with ⟨h1, _⟩ | ⟨h1, _⟩
      · exact (hfp b hb).1.2.2.2.2.1 y c h1 z
      · have h2 : s.heap.objs.size + 1 ≤ b := by rw [← z]; exact h1
        exact absurd (Nat.lt_of_lt_of_le (hfp b hb).2 (Nat.le_of_succ_le h2)) (Nat.lt_irrefl _)
    · rcases (hfp b hb).1.2.2.2.1 with z | z
      · exact I.ok.noex b o e z
      · exact absurd (Nat.lt_of_lt_of_le (Heap.lt_size e) (Nat.le_trans I.ok.bsz z)) (Nat.lt_irrefl _)
    · rcases List.mem_cons.mp (I.stkSub b z) with z | z
      · exact (hfp b hb).1.2.1 z
      · exact (hfp b hb).1.2.2.1 z
  refine ⟨okB, rfl, I.bare, Un.kept kp, ⟨fun _ => none, ?_, fun i y av e1 e2 e3 => ?_⟩, fun y c e => ?_, ?_, fun y c e => ?_, fun p hp => ?_, I.hok.kept kp, by rw [wipe_length]; exact I.len⟩
  · show Heap.Ns _ cenv.locals _
    rw [hL]
    exact Heap.Ns.keeps (Heap.Ns.new ..) fun b o e => pushCells_keeps _ _ _ _ e
  · obtain ⟨e2, hne⟩ := wipe_some e2
    have hfr : scope.names.lookup y = some .free ∧ (cenv.kindOf y = some .cell ∨ cenv.kindOf y = some .free) := by
      have key : ∀ k, cenv.scope.names.lookup y = some k → k = .local ∨ k = .cell ∨ k = .free → scope.names.lookup y = some .free ∧ (cenv.kindOf y = some .cell ∨ cenv.kindOf y = some .free) := fun k hk hk' => by
        have hk0 := hk
        rw [hsc] at hk
        obtain ⟨k', e, r⟩ := lookup_relS hk
        have no : ¬ (k' = .local ∨ k' = .cell) := fun hh => by
          rcases ok.own _ (PySem.mem_of_lookup e) hh with e' | e'
          · obtain ⟨p, hp, hpy⟩ := List.mem_map.mp e'
            have e3 := ok.ix p hp
            have : p.1 = y := hpy
            rw [this] at e3
            exact hne (List.mem_map.mpr ⟨p, hp, nodup_ix hN e3 e1⟩)
          · exact e' (List.mem_of_getElem? e1)
        rcases r with rfl | ⟨rfl, rfl⟩
        · rcases hk' with rfl | rfl | rfl
          · exact absurd (.inl rfl) no
          · exact absurd (.inr rfl) no
          · exact ⟨e, .inr hk0⟩
        · exact ⟨e, .inl hk0⟩
      have e3 : Vis cenv.scope y := e3
      rcases e3 with e3 | e3 | e3
      · exact key _ e3 (.inl rfl)
      · exact key _ e3 (.inr (.inl rfl))
      · exact key _ e3 (.inr (.inr rfl))
    obtain ⟨m, hn, hl⟩ := I.loc
    have hvis : Vis X.env.scope y := (ok.free _ (PySem.mem_of_lookup hfr.1) rfl).elim (fun k => .inr (.inl k)) (fun k => .inr (.inr k))
    obtain ⟨w, r, q⟩ := hl i y av e1 e2 hvis
    refine ⟨w, r, .inr ⟨hfr.2, ?_⟩⟩
    obtain ⟨c, h1, h2⟩ := look hfr.1
    rcases q with ⟨k, _⟩ | ⟨_, c', e', z⟩
    · have k : X.env.scope.names.lookup y = some .local := k
      rcases ok.free _ (PySem.mem_of_lookup hfr.1) rfl with k' | k' <;> rw [show X.env.scope.names.lookup y = _ from k'] at k <;> cases k
    · rw [h2] at e'; cases e'
      exact ⟨c, h1, z.keeps kp⟩
  · have e : cenv.cells.lookup y = some c := e
    rcases mem e with ⟨h1, _⟩ | ⟨_, z⟩
    · obtain ⟨w, z⟩ := I.cell y c h1
      exact ⟨w, z.keeps kp⟩
    · exact ⟨_, z⟩
  · show H cenv.locals = none
    rw [hL]; exact I.hok.fresh (Nat.le_refl _)
  · have e : cenv.cells.lookup y = some c := e
    rcases mem e with ⟨h1, _⟩ | ⟨h1, _⟩
    · exact I.freeC y c h1
    · exact I.hok.fresh (Nat.le_of_succ_le h1)
  · exact absurd (show p ∈ ([] : List (Addr × Obj)) ++ [] from hp) (by simp)

/-- an item appended to a tracked list -/
theorem app_ok {E : Value → Shared → Prop} {D : Addr} {xs : List V} {y : V} {v : Value} {Q : Value → Shared → Prop} (I : Inv X pins σ H s) (hD : H D = some (.lst xs)) (hz : xs.length < sizeLine) (r : RelV y v)
    (h : ∀ s', Inv X pins σ (upd H D (.lst (xs ++ [y]))) s' → Q .none s') : wpAny (model X.prog X.w) X.A (call (.builtin "list.append") [.ref D, v]) Q E s := by
  obtain ⟨hz', its, n, ri, e⟩ := I.hok D _ hD
  have hl := ri.length
  refine append_at (hsz := by rw [List.size_toArray]; omega) e fun h' sb ho' => ?_
  refine h { s with heap := h' } (I.write (t' := s.toks) (by rw [hD]; trivial) (.inl rfl) (fun b u hb q => (sb.2 b hb).trans q) ⟨_, ho'⟩ ⟨by rw [List.length_append]; exact hz, its ++ [v], n + 1, ri.append (.cons r .nil), ?_⟩)
  rw [ho']
  simp

/-- a clause's tests -/
def PTs (X : Cx) (ifs : List Expr) (t : TT) : Prop :=
  ∀ (pins : List (Addr × Obj)) (s : Shared) (σ : St) (H : Hp) (Q : Bool → Hp → Prop), Inv X pins σ H s → t σ H Q →
    wpAny (model X.prog X.w) X.A (forIn ifs true fun c r => if r = true then do let ok ← isTrue c X.env (eval c X.env); pure (ForInStep.yield ok) else pure (ForInStep.yield r)) (TP X pins σ Q) X.xe s
def tYes : TT := fun _ H Q => Q true H
theorem pts_nil : PTs X [] tYes := fun _ _ _ H _ I h => wpAny_tests_nil ⟨H, I, h⟩
theorem pts_one {c : Expr} {t : TT} (h : PT X c t) : PTs X [c] t := fun pins s σ H Q I hw => wpAny_tests_one (h pins s σ H Q I hw)
end

theorem thnF {α : Type} {t : Sem α} {Q Q' : α → Shared → Prop} {M : Model} {A : Around} {E : Value → Shared → Prop} {s : Shared} (h : wpAny M A t Q (fun _ _ => False) s) (hQ : ∀ a s, Q a s → Q' a s) : wpAny M A t Q' E s := wpAny_mono h hQ fun _ _ z => False.elim z

/-- the loop of a list comprehension's block, the target of any form (codeAny_compLoop_tests asks a target that no tuple goes to; statement and proof follow it, PyProof/CompMap.lean:41-61, with the step letOwnedTupleGo kept) -/
theorem compLoop_any {prog : Program} {w : World} {A : Around} {R : Result → Shared → Prop} {s : Shared} {elt target iter : Expr} {ifs : List Expr} {scope : Scope} {pos : Pos} {it acc : Value} {env : Env} (I : Nat → Shared → Prop)
    (turn : ∀ n s, I n s → wpAny (model prog w) A (pyNext it) (fun r s₁ => match r with
      | none => R (.ok .next) s₁
      | some v => wpAny (model prog w) A (letOwnedTupleGo target it v) (fun _ s₁' => wpAny (model prog w) A (assign target env v) (fun _ s₂ =>
          wpAny (model prog w) A (forIn ifs true fun c r => if r = true then do let ok ← isTrue c env (eval c env); pure (ForInStep.yield ok) else pure (ForInStep.yield r)) (fun ok s₃ =>
            if ok = true then wpAny (model prog w) A (eval elt env) (fun x s₄ =>
              wpAny (model prog w) A (call (.builtin "list.append") [acc, x]) (fun _ s₅ => ∃ m, m < n ∧ I m s₅) (notedBy (model prog w) A env fun e s' => R (.error e) s') s₄) (notedBy (model prog w) A env fun e s' => R (.error e) s') s₃
            else ∃ m, m < n ∧ I m s₃) (notedBy (model prog w) A env fun e s' => R (.error e) s') s₂) (notedBy (model prog w) A env fun e s' => R (.error e) s') s₁') (notedBy (model prog w) A env fun e s' => R (.error e) s') s₁) (notedBy (model prog w) A env fun e s' => R (.error e) s') s)
    (n : Nat) (h : I n s) :
    codeAny (model prog w) A (.compLoop (.ListComp elt [⟨target, iter, ifs, 0⟩] scope pos) 0 it acc env) R s := by
  refine codeAny_loop rfl I (fun n s hI => ?_) n h
  show wpAny _ A ((compTurn (.ListComp elt [⟨target, iter, ifs, 0⟩] scope pos) 0 it acc env).onRaise (fun x => do noteFrame x env; theTreesLotGoes x)) _ _ s
  refine wpAny_noted ?_
  rw [compTurn_list]
  refine wpAny_bind (wpAny_standAt (wpAny_bind (wpAny_mono (turn n s hI) (fun r s₁ h₁ => ?_) fun _ _ h' => h')))
  cases r with
  | none => exact wpAny_pure h₁
  | some v =>
    refine wpAny_bind (wpAny_mono h₁ (fun _ s₁' h₁' => ?_) fun _ _ h' => h')
    refine wpAny_bind (wpAny_mono h₁' (fun _ s₂ h₂ => wpAny_bind (wpAny_mono h₂ (fun ok s₃ h₃ => ?_) fun _ _ h' => h')) fun _ _ h' => h')
    cases ok with
    | false => exact wpAny_pure ⟨rfl, h₃⟩
    | true =>
      exact wpAny_bind (wpAny_bind (wpAny_mono h₃ (fun x s₄ h₄ => wpAny_bind (wpAny_mono h₄ (fun _ s₅ h₅ => wpAny_pure (wpAny_pure ⟨rfl, h₅⟩)) fun _ _ h' => h')) fun _ _ h' => h'))

section
variable {X : Cx}
/-- [elt for target in iter if ..]: D the new list; W by the turn and a measure, Nx what a turn is to reach -/
def tLc (wi : TI) (g : TG) (tt : TT) (te : TE) (vs : List Nat) : TE := fun σ H Q => wi σ H fun J H1 => ∀ D, H1 D = none → ∃ W : Nat → Nat → Hp → Prop, (∃ m, W 0 m (upd H1 D (.lst []))) ∧ ∀ i m H, W i m H →
  (J.stop i H ∧ Q (.ref D) H) ∨ (J.go i H ∧ ∃ Nx : Hp → Prop, (∀ H', Nx H' → ∃ m', m' < m ∧ W (i + 1) m' H') ∧ ∀ x H', J.yld i H x H' → g x (wipe σ vs) H' fun σ2 H2 => wipe σ2 vs = wipe σ vs ∧ tt σ2 H2 fun b H3 =>
    if b = true then te σ2 H3 fun y H4 => ∃ acc, H4 D = some (.lst acc) ∧ acc.length < sizeLine ∧ Nx (upd H4 D (.lst (acc ++ [y]))) else Nx H3)
theorem lc_core {pins : List (Addr × Obj)} {s : Shared} {σ : St} {H : Hp} {Q : VK} {elt tg iter : Expr} {ifs : List Expr} {scope : Scope} {own : List (Str × Nat)} {pos pos' : Pos} {wi : TI} {g : TG} {tt : TT} {te : TE} {use : Option (Value → Sem Unit)} {Qf : Value → Shared → Prop}
    (hc : X.calm = true) (hN : X.N.Nodup) (I : Inv X pins σ H s) (hi : PI X tg iter wi) (ok : BlkOk X.N X.env.scope scope own)
    (hg : ∀ (s : Shared) (H : Hp) (C : Addr) (cl : List (Str × Addr)) (fp : List Addr), PG (X.blk s H scope (compEnvC scope cl C X.env) fp) tg g) (ht : ∀ (s : Shared) (H : Hp) (C : Addr) (cl : List (Str × Addr)) (fp : List Addr), PTs (X.blk s H scope (compEnvC scope cl C X.env) fp) ifs tt)
    (he : ∀ (s : Shared) (H : Hp) (C : Addr) (cl : List (Str × Addr)) (fp : List Addr), PE (X.blk s H scope (compEnvC scope cl C X.env) fp) elt te) (hs : ∀ x, foldedSetIterable iter X.env x = pure x)
    (h : tLc wi g tt te (own.map (·.2)) σ H Q)
    (hRR : ∀ D C s' m H', Inv X pins σ H' s' → Q (.ref D) H' → s'.heap.Ns C m → FpOk X pins H' C → compPost (model X.prog X.w) X.A X.xe use Qf (.ref D) C (.ok .next) s') :
    wpAny (model X.prog X.w) X.A (comprehension (.ListComp elt [⟨tg, iter, ifs, 0⟩] scope pos) scope X.env pos' (newList []) false (eval iter X.env) use) Qf X.xe s := by
  have hfree : ∀ y ∈ scope.names, y.2 = .free → ∃ c, X.env.cells.lookup y.1 = some c := fun y hy e => by
    rcases ok.free y hy e with k | k
    · exact I.ok.has _ (.inl k)
    · exact I.ok.has _ (.inr k)
  refine wpAny_comprehension_free (use := use) rfl hs (closure_ok hfree) ok.kind (fun y hy e => by rw [ok.uniq y hy, e])
    (thn (hi pins s σ H _ I h) fun xv s1 hx => thn hx fun itv s2 h2 => ?_)
  obtain ⟨it, fp, tn, J, H2, e, I2, T, st2, f2, q⟩ := h2
  subst e
  refine wpAny_newObj_type (newEnv_comp ?_) (by show 0 ≤ sizeLine; decide)
  generalize hD : s2.heap.objs.size = D
  have hDn : H2 D = none := I2.hok.fresh (Nat.le_of_eq hD)
  obtain ⟨W, ⟨m0, w0⟩, turn⟩ := q D hDn
  -- the new list
  generalize hs3 : ({ s2 with heap := s2.heap.push { cls := .type "list", data := .seq ([] : List Value).toArray } } : Shared) = s3
  have I3 : Inv X pins σ (upd H2 D (.lst [])) s3 := by
    rw [← hs3]
    refine I2.laid (t' := s2.toks) (fun b o e => Heap.get?_push_of_some _ e) (Nat.le_of_eq hD) ⟨Nat.zero_le _, [], 0, .nil, ?_⟩
    rw [← hD]
    exact Heap.get?_push_size _ rfl
  have h3 : s3.heap = s2.heap.push { cls := .type "list", data := .seq ([] : List Value).toArray } := by rw [← hs3]
  have sz : ∀ b ∈ fp, b < s2.heap.objs.size := fun b hb => by
    obtain ⟨o, e, _⟩ := T.obj _ _ st2 b hb
    exact Heap.lt_size e
  have f3 : ∀ b ∈ fp, FpOk X pins (upd H2 D (.lst [])) b ∧ b < s3.heap.objs.size := fun b hb => by
    have hlt := sz b hb
    refine ⟨⟨?_, (f2 b hb).2⟩, by rw [h3, Heap.size_push]; exact Nat.lt_succ_of_lt hlt⟩
    rw [upd_ne (by rw [← hD]; exact Nat.ne_of_lt hlt)]
    exact (f2 b hb).1
  have st3 : tn 0 s3.heap := T.keep _ _ _ st2 fun b _ o e => by rw [h3]; exact Heap.get?_push_of_some _ e
  have I4 := block_start I3 ok hN f3
  have pg := hg s3 (upd H2 D (.lst [])) s3.heap.objs.size (cellsFrom (s3.heap.objs.size + 1) scope.names (cloFrom X.env.cells scope.names [])) fp
  have pt := ht s3 (upd H2 D (.lst [])) s3.heap.objs.size (cellsFrom (s3.heap.objs.size + 1) scope.names (cloFrom X.env.cells scope.names [])) fp
  have pe := he s3 (upd H2 D (.lst [])) s3.heap.objs.size (cellsFrom (s3.heap.objs.size + 1) scope.names (cloFrom X.env.cells scope.names [])) fp
  show codeAny _ _ (.compStart (.ListComp elt [⟨tg, iter, ifs, 0⟩] scope pos) 0 (.ref it) (.ref D) (compEnvC scope (cellsFrom (s3.heap.objs.size + 1) scope.names (cloFrom X.env.cells scope.names [])) s3.heap.objs.size X.env)) (compPost (model X.prog X.w) X.A X.xe use Qf (.ref D) s3.heap.objs.size) { s3 with heap := pushCells (s3.heap.push { cls := .type "dict", data := .dict #[] }) scope.names }
  have nfp : ∀ b ∈ fp, (upd H2 D (.lst [])) b = none := fun b hb => (f3 b hb).1.1
  generalize hce : compEnvC scope (cellsFrom (s3.heap.objs.size + 1) scope.names (cloFrom X.env.cells scope.names [])) s3.heap.objs.size X.env = ce at I4 pg pt pe ⊢
  have cL : ce.locals = s3.heap.objs.size := by subst hce; rfl
  generalize hH3 : upd H2 D (.lst []) = H3 at I3 I4 pg pt pe w0 nfp f3
  generalize hs4 : ({ s3 with heap := pushCells (s3.heap.push { cls := .type "dict", data := .dict #[] }) scope.names } : Shared) = s4 at I4 ⊢
  have st4 : tn 0 s4.heap := T.keep _ _ _ st3 fun b _ o e => by rw [← hs4]; exact pushCells_keeps _ _ _ _ (Heap.get?_push_of_some _ e)
  have stat : ∀ {σ' : St} {H' : Hp} {s' : Shared}, Inv (X.blk s3 H3 scope ce fp) [] σ' H' s' → (∀ b ∈ fp, H' b = none) → ∀ b ∈ fp, FpOk (X.blk s3 H3 scope ce fp) [] H' b := fun {σ' H' s'} I' hn b hb =>
    ⟨hn b hb, (I'.ok.exf b hb).1, I'.ok.exfs b hb, .inl hb, fun x c e => (I'.ok.exf b hb).2 x c e, fun p hp => absurd (show p ∈ ([] : List (Addr × Obj)) ++ [] from hp) (by simp)⟩
  have loop : codeAny (model X.prog X.w) X.A (.compLoop (.ListComp elt [⟨tg, iter, ifs, 0⟩] scope pos) 0 (.ref it) (.ref D) ce) (compPost (model X.prog X.w) X.A X.xe use Qf (.ref D) s3.heap.objs.size) s4 := by
    refine compLoop_any (fun n s' => ∃ i H', Inv (X.blk s3 H3 scope ce fp) [] (wipe σ (own.map (·.2))) H' s' ∧ tn i s'.heap ∧ (∀ b ∈ fp, H' b = none) ∧ W i n H') ?_ m0 ⟨0, H3, I4, st4, nfp, w0⟩
    rintro n s5 ⟨i, H5, I5, st5, n5, w5⟩
    rcases turn i n H5 w5 with ⟨stop, qq⟩ | ⟨go, Nx, hNx, step⟩
    · have td := T.done (X.blk s3 H3 scope ce fp) rfl rfl rfl hc i [] s5 _ H5 (fun _ _ => False) I5 (stat I5 n5) st5 stop
      refine thnF td fun r s6 ⟨hr, I6⟩ => ?_
      subst hr
      -- back in the def's context
      have I7 : Inv X pins σ H5 s6 := I3.call' (ch := fp) I6.os I6.base I6.hok I6.bare fun b hb => ⟨(f3 b hb).1.2.2.2.1, (f3 b hb).1.2.1, (f3 b hb).1.2.2.2.2.1, (f3 b hb).1.2.2.2.2.2⟩
      have nC : H5 s3.heap.objs.size = none := by
        have z : H5 ce.locals = none := I6.free
        rw [cL] at z
        exact z
      obtain ⟨m, hn, _⟩ := I6.loc
      have hn : s6.heap.Ns ce.locals m := hn
      rw [cL] at hn
      exact hRR D s3.heap.objs.size s6 m H5 I7 qq hn (I3.fpOk (Nat.le_refl _) nC)
    · have ti := T.item (X.blk s3 H3 scope ce fp) rfl rfl rfl hc i [] s5 _ H5 (fun _ _ => False) I5 (stat I5 n5) st5 go
      refine thnF ti fun r s6 ⟨u, hr, h6⟩ => ?_
      subst hr
      refine thnF h6 fun _ s7 ⟨x, H7, I7, r7, y7, st7, n7⟩ => ?_
      have I7' := I7.pinned (stat I7 n7) (T.obj _ _ st7)
      refine thnF (pg _ s7 _ H7 x u _ I7' r7 (step x H7 y7)) fun _ s8 ⟨σ8, H8, I8, hw8, q8⟩ => ?_
      refine thnF (pt _ s8 σ8 H8 _ I8 q8) fun b s9 ⟨H9, I9, q9⟩ => ?_
      -- the turn's end
      have fin : ∀ {s' : Shared} {H' : Hp}, Inv (X.blk s3 H3 scope ce fp) ([] ++ pinsAt fp s7.heap) σ8 H' s' → Nx H' → ∃ m, m < n ∧ ∃ i H', Inv (X.blk s3 H3 scope ce fp) [] (wipe σ (own.map (·.2))) H' s' ∧ tn i s'.heap ∧ (∀ b ∈ fp, H' b = none) ∧ W i m H' := fun {s' H'} I' nx => by
        obtain ⟨m', hm, w'⟩ := hNx H' nx
        have pin' : ∀ b ∈ fp, ∀ o, s7.heap.get? b = some o → s'.heap.get? b = some o ∧ H' b = none := fun b hb o e =>
          let z := I'.pin (b, o) (List.mem_append_right _ (List.mem_append_right _ (mem_pinsAt hb e)))
          ⟨z.1, z.2.1⟩
        have hl : (wipe σ (own.map (·.2))).length = σ8.length := by rw [← hw8, wipe_length]
        refine ⟨m', hm, i + 1, H', (I'.unpinned (pins := [])).weak hl (fun j v e => ?_), T.keep _ _ _ st7 fun b hb o e => (pin' b hb o e).1, fun b hb => ?_, w'⟩
        · rw [← hw8] at e
          exact (wipe_some e).1
        · obtain ⟨o, e, _⟩ := T.obj _ _ st7 b hb
          exact (pin' b hb o e).2
      cases b with
      | false =>
        simp only [Bool.false_eq_true, if_false] at q9 ⊢
        exact fin I9 q9
      | true =>
        simp only [if_true] at q9 ⊢
        refine thnF (pe _ s9 σ8 H9 _ I9 q9) fun z s10 ⟨yv, H10, I10, r10, acc, hD10, hz10, nx⟩ => ?_
        exact app_ok (X := X.blk s3 H3 scope ce fp) I10 hD10 hz10 r10 fun s11 I11 => fin I11 nx
  exact codeAny_compStart_list loop (T.self X.A 0 _ _ _ st4 loop)
/-- as a value -/
theorem pe_lc {elt tg iter : Expr} {ifs : List Expr} {scope : Scope} {own : List (Str × Nat)} {pos : Pos} {wi : TI} {g : TG} {tt : TT} {te : TE} (hc : X.calm = true) (hN : X.N.Nodup) (hi : PI X tg iter wi) (ok : BlkOk X.N X.env.scope scope own)
    (hg : ∀ (s : Shared) (H : Hp) (C : Addr) (cl : List (Str × Addr)) (fp : List Addr), PG (X.blk s H scope (compEnvC scope cl C X.env) fp) tg g) (ht : ∀ (s : Shared) (H : Hp) (C : Addr) (cl : List (Str × Addr)) (fp : List Addr), PTs (X.blk s H scope (compEnvC scope cl C X.env) fp) ifs tt)
    (he : ∀ (s : Shared) (H : Hp) (C : Addr) (cl : List (Str × Addr)) (fp : List Addr), PE (X.blk s H scope (compEnvC scope cl C X.env) fp) elt te) (hs : ∀ x, foldedSetIterable iter X.env x = pure x := by intro _; rfl) :
    PE X (.ListComp elt [⟨tg, iter, ifs, 0⟩] scope pos) (tLc wi g tt te (own.map (·.2))) := by
  intro pins s σ H Q I h
  rw [eval_ListComp]
  refine lc_core hc hN I hi ok hg ht he hs h fun D C s' m H' I' q hn f => ⟨m, hn, fun h'' sb => ?_⟩
  obtain ⟨f0, f1, f2, f3, f4, f5⟩ := f
  exact ⟨.ref D, H', I'.turned (t' := s'.toks) (fun b o hb e => (sb.2 b hb).trans e) f0 f1 f3 f4 f5, rfl, q⟩
/-- name = [..] on one line, the name a local -/
theorem ps_setLc {i : Nat} {y : Str} {py : Pos} {elt tg iter : Expr} {ifs : List Expr} {scope : Scope} {own : List (Str × Nat)} {pos spos : Pos} {wi : TI} {g : TG} {tt : TT} {te : TE} (hc : X.calm = true) (hN : X.N.Nodup) (hy : X.N[i]? = some y) (hyl : X.env.scope.names.lookup y = some .local)
    (hsw : swapsWith (.ListComp elt [⟨tg, iter, ifs, 0⟩] scope pos) (some (.Name y py)) spos.line X.env = pure true) (hi : PI X tg iter wi) (ok : BlkOk X.N X.env.scope scope own)
    (hg : ∀ (s : Shared) (H : Hp) (C : Addr) (cl : List (Str × Addr)) (fp : List Addr), PG (X.blk s H scope (compEnvC scope cl C X.env) fp) tg g) (ht : ∀ (s : Shared) (H : Hp) (C : Addr) (cl : List (Str × Addr)) (fp : List Addr), PTs (X.blk s H scope (compEnvC scope cl C X.env) fp) ifs tt)
    (he : ∀ (s : Shared) (H : Hp) (C : Addr) (cl : List (Str × Addr)) (fp : List Addr), PE (X.blk s H scope (compEnvC scope cl C X.env) fp) elt te) (hs : ∀ x, foldedSetIterable iter X.env x = pure x := by intro _; rfl) :
    PS X (.Assign [.Name y py] (.ListComp elt [⟨tg, iter, ifs, 0⟩] scope pos) spos) (tAsg (tLc wi g tt te (own.map (·.2))) (gName i)) := by
  intro pins s σ H D I h
  rw [exec_Assign_Name_used _ _ _ _ hsw]
  refine wpAny_bind (wpAny_standAt (wpAny_bind ?_))
  show wpAny _ X.A (do let _ ← comprehension (.ListComp elt [⟨tg, iter, ifs, 0⟩] scope pos) scope X.env (firstIterPos [⟨tg, iter, ifs, 0⟩] pos) (newList []) false (eval iter X.env) (some (assign (.Name y py) X.env))) _ _ s
  have h : tLc wi g tt te (own.map (·.2)) σ H (fun x H1 => gName i x σ H1 D.nx) := h
  refine wpAny_bind (thn (lc_core (Qf := fun _ s' => SP X pins D .next s') hc hN I hi ok hg ht he hs h fun L C s' m H' I' q hn f => ?_) fun _ s' hq => wpAny_pure (wpAny_pure hq))
  show wpAny _ _ (assign (.Name y py) X.env (.ref L)) _ _ _
  refine wpAny_assign_Name (store_ok2 (v := V.ref L) I' hN hy (.inl hyl) rfl (fun s2 I2 ⟨a, sb, ha⟩ => ?_) (.inr hyl))
  obtain ⟨f0, f1, f2, f3, f4, f5⟩ := f
  have haC : C ≠ a := by
    rcases ha with z | z
    · rw [z]; exact f1
    · exact fun e => f4 y a z e.symm
  refine ⟨m, hn.sameBut sb haC, fun h3 sb3 => ?_⟩
  exact ⟨_, H', I2.turned (t' := s2.toks) (fun b o hb e => (sb3.2 b hb).trans e) f0 f1 f3 f4 f5, q⟩
theorem sw_true {elt : Expr} {gs : List Comprehension} {scope : Scope} {pos py : Pos} {y : Str} {l : Nat} {env : Env} (hk : env.scope.kind = .function) (hy : env.scope.names.lookup y = some .local) (hl : (py.line == pos.line) = true)
    (ha : (scope.names.any fun (n, k) => n == y && (k == .local || k == .cell)) = false) : swapsWith (.ListComp elt gs scope pos) (some (.Name y py)) l env = pure true := by
  have ky : env.kindOf y = some .local := hy
  have hb : env.blockKind = .function := by unfold Env.blockKind; rw [hk]; rfl
  unfold swapsWith
  simp only [hb, ky, ha, Expr.pos, hl]
  rfl
end

/-! ### the forms one uses -/
def blkC (N : List Str) (sc scope : Scope) (own : List (Str × Nat)) : Bool :=
  (match scope.kind with | .function => true | _ => false) && (scope.names.all fun y => decide (scope.names.lookup y.1 = some y.2)) && (own.all fun p => decide (N[p.2]? = some p.1)) &&
    (scope.names.all fun y => match y.2 with
      | .free => (match sc.names.lookup y.1 with | some .cell => true | some .free => true | _ => false)
      | .local => decide (y.1 ∈ own.map (·.1)) || decide (y.1 ∉ N)
      | .cell => decide (y.1 ∈ own.map (·.1)) || decide (y.1 ∉ N)
      | _ => true)
theorem blkOk_by {N : List Str} {sc scope : Scope} {own : List (Str × Nat)} (h : blkC N sc scope own = true) : BlkOk N sc scope own := by
  unfold blkC at h
  simp only [Bool.and_eq_true, List.all_eq_true, decide_eq_true_eq] at h
  obtain ⟨⟨⟨h1, h2⟩, h3⟩, h4⟩ := h
  refine ⟨?_, h2, h3, fun y hy e => ?_, fun y hy e => ?_⟩
  · split at h1
    · assumption
    · cases h1
  · have q := h4 y hy
    simp only [e] at q
    split at q <;> first | exact .inl (by assumption) | exact .inr (by assumption) | cases q
  · have q := h4 y hy
    rcases e with e | e <;> (simp only [e, Bool.or_eq_true, decide_eq_true_eq] at q; exact q)
end L2

namespace L2
open PySem PySem.Spec PyProof.Rows

section
variable {prog : Program} {w : World} {A : Around} {R : Result → Shared → Prop} {s : Shared} {elt t0 i0 t1 i1 : Expr} {ifs0 ifs1 : List Expr} {scope : Scope} {pos : Pos} {it acc : Value} {env : Env}
end

section
variable {X : Cx}
end
end L2

namespace L2
open PySem PySem.Spec PyProof.Rows

/-! ### lists of pairs as tables -/
section
variable {κ : Type} [DecidableEq κ]
def valV (kvs : List (κ × V)) (k : κ) : Option V := (kvs.find? fun kv => decide (kv.1 = k)).map (·.2)
/-- in its place, or at the end -/
def putK (kvs : List (κ × V)) (k : κ) (v : V) : List (κ × V) :=
  if (kvs.any fun kv => decide (kv.1 = k)) = true then kvs.map (fun kv => if kv.1 = k then (kv.1, v) else kv) else kvs ++ [(k, v)]
def dropK (kvs : List (κ × V)) (k : κ) : List (κ × V) := kvs.filter fun kv => decide (kv.1 ≠ k)

theorem valV_pos {p : κ × V} {r : List (κ × V)} {k : κ} (e : p.1 = k) : valV (p :: r) k = some p.2 := by simp [valV, List.find?_cons, e]
theorem valV_neg {p : κ × V} {r : List (κ × V)} {k : κ} (e : ¬ p.1 = k) : valV (p :: r) k = valV r k := by simp [valV, List.find?_cons, e]
theorem valV_any (k : κ) : ∀ kvs : List (κ × V), (kvs.any fun kv => decide (kv.1 = k)) = (valV kvs k).isSome
  | [] => rfl
  | p :: r => by
    rw [List.any_cons]
    by_cases e : p.1 = k
    · simp only [valV_pos e, decide_eq_true e, Bool.true_or, Option.isSome_some]
    · rw [valV_neg e, decide_eq_false e, Bool.false_or]; exact valV_any k r
theorem RelO.isSome_eq {o : Option V} {u : Option Value} (r : RelO o u) : o.isSome = u.isSome := by
  cases o with
  | none => cases u with
    | none => rfl
    | some _ => exact (show False from r).elim
  | some _ => cases u with
    | none => exact (show False from r).elim
    | some _ => rfl
theorem RelO.getD {o : Option V} {u : Option Value} {d : V} {d' : Value} (r : RelO o u) (rd : RelV d d') : RelV (o.getD d) (u.getD d') := by
  cases o with
  | none => cases u with
    | none => exact rd
    | some _ => exact (show False from r).elim
  | some _ => cases u with
    | none => exact (show False from r).elim
    | some _ => exact r

/-- raw tables of the same keys -/
theorem KV.val {kvs : List (κ × V)} {vs : List (κ × Value)} (r : KV kvs vs) (k : κ) : RelO (valV kvs k) (valueAt vs k) := by
  unfold KV at r
  induction r with
  | nil => exact True.intro
  | @cons p q ps qs h t ih =>
    obtain ⟨h1, h2⟩ := h
    by_cases e : p.1 = k
    · have e' : q.1 = k := h1.symm.trans e
      have b : valueAt (q :: qs) k = some q.2 := by simp [valueAt, List.find?_cons, e']
      rw [valV_pos e, b]; exact h2
    · have e' : ¬ q.1 = k := fun z => e (h1.trans z)
      have b : valueAt (q :: qs) k = valueAt qs k := by simp [valueAt, List.find?_cons, e']
      rw [valV_neg e, b]; exact ih
theorem KV.any {kvs : List (κ × V)} {vs : List (κ × Value)} (r : KV kvs vs) (k : κ) : (kvs.any fun kv => decide (kv.1 = k)) = vs.any fun kv => decide (kv.1 = k) := by
  unfold KV at r
  induction r with
  | nil => rfl
  | cons h t ih => rw [List.any_cons, List.any_cons, ih, h.1]
theorem KV.repl {kvs : List (κ × V)} {vs : List (κ × Value)} (r : KV kvs vs) (k : κ) {y : V} {u : Value} (ry : RelV y u) :
    KV (kvs.map fun kv => if kv.1 = k then (kv.1, y) else kv) (vs.map fun kv => if kv.1 = k then (kv.1, u) else kv) := by
  unfold KV at r ⊢
  induction r with
  | nil => exact .nil
  | @cons p q ps qs h t ih =>
    rw [List.map_cons, List.map_cons]
    refine .cons ?_ ih
    obtain ⟨h1, h2⟩ := h
    by_cases e : p.1 = k
    · rw [if_pos e, if_pos (h1.symm.trans e)]; exact ⟨h1, ry⟩
    · rw [if_neg e, if_neg (fun z => e (h1.trans z))]; exact ⟨h1, h2⟩
theorem KV.put {kvs : List (κ × V)} {vs : List (κ × Value)} (r : KV kvs vs) (k : κ) {y : V} {u : Value} (ry : RelV y u) : KV (putK kvs k y) (stored vs k u) := by
  unfold putK stored
  rw [r.any k]
  by_cases e : (vs.any fun kv => decide (kv.1 = k)) = true
  · rw [if_pos e, if_pos e]; exact r.repl k ry
  · rw [if_neg e, if_neg e]; exact Paired.snoc r ⟨rfl, ry⟩
theorem KV.drop {kvs : List (κ × V)} {vs : List (κ × Value)} (r : KV kvs vs) (k : κ) : KV (dropK kvs k) (without vs k) := by
  unfold KV at r ⊢
  unfold dropK without
  induction r with
  | nil => exact .nil
  | @cons p q ps qs h t ih =>
    obtain ⟨h1, h2⟩ := h
    rw [List.filter_cons, List.filter_cons]
    by_cases e : p.1 = k
    · have a : ¬ decide (p.1 ≠ k) = true := by simp [e]
      have b : ¬ decide (q.1 ≠ k) = true := by simp [h1.symm.trans e]
      rw [if_neg a, if_neg b]; exact ih
    · have e' : ¬ q.1 = k := fun z => e (h1.trans z)
      have a : decide (p.1 ≠ k) = true := by simp [e]
      have b : decide (q.1 ≠ k) = true := by simp [e']
      rw [if_pos a, if_pos b]; exact .cons ⟨h1, h2⟩ ih
theorem KV.keys {kvs : List (κ × V)} {vs : List (κ × Value)} (r : KV kvs vs) : kvs.map (·.1) = vs.map (·.1) := by
  unfold KV at r
  induction r with
  | nil => rfl
  | cons h t ih => rw [List.map_cons, List.map_cons, ih, h.1]
theorem KV.length {kvs : List (κ × V)} {vs : List (κ × Value)} (r : KV kvs vs) : kvs.length = vs.length := Paired.length r
end


/-! ### a tracked dict, its keys ints and texts or tuples of these -/
/-- raw entries of a dict with tuple keys -/
abbrev KT (H : Hp) : List (List Key × V) → List (List Key × Addr × Value) → Prop := Paired fun p q => p.1 = q.1 ∧ H q.2.1 = some (.tup (p.1.map kV)) ∧ RelV p.2 q.2.2
theorem KT.val {H : Hp} {kvs : List (List Key × V)} {xs : List (List Key × Addr × Value)} (r : KT H kvs xs) (k : List Key) : RelO (valV kvs k) ((atKey xs k).map (·.2)) := by
  induction r with
  | nil => exact True.intro
  | @cons p q ps qs h t ih =>
    obtain ⟨h1, _, h2⟩ := h
    by_cases e : p.1 = k
    · have e' : q.1 = k := h1.symm.trans e
      have b : atKey (q :: qs) k = some q.2 := by simp [atKey, List.find?_cons, e']
      rw [valV_pos e, b]; exact h2
    · have e' : ¬ q.1 = k := fun z => e (h1.trans z)
      have b : atKey (q :: qs) k = atKey qs k := by simp [atKey, List.find?_cons, e']
      rw [valV_neg e, b]; exact ih
theorem KT.repl {H : Hp} {kvs : List (List Key × V)} {xs : List (List Key × Addr × Value)} (r : KT H kvs xs) (k : List Key) {y : V} {u : Value} (ry : RelV y u) :
    KT H (kvs.map fun kv => if kv.1 = k then (kv.1, y) else kv) (xs.map (putAt k u)) := by
  induction r with
  | nil => exact .nil
  | @cons p q ps qs h t ih =>
    rw [List.map_cons, List.map_cons]
    refine .cons ?_ ih
    obtain ⟨h1, h2, h3⟩ := h
    unfold putAt
    by_cases e : p.1 = k
    · rw [if_pos e, if_pos (h1.symm.trans e)]; exact ⟨h1, h2, ry⟩
    · rw [if_neg e, if_neg (fun z => e (h1.trans z))]; exact ⟨h1, h2, h3⟩
theorem KT.put {H : Hp} {kvs : List (List Key × V)} {xs : List (List Key × Addr × Value)} (r : KT H kvs xs) (k : List Key) {b : Addr} {y : V} {u : Value} (hb : H b = some (.tup (k.map kV))) (ry : RelV y u) :
    KT H (putK kvs k y) (storedH xs k b u) := by
  have e : (kvs.any fun kv => decide (kv.1 = k)) = (atKey xs k).isSome := by
    rw [valV_any, (r.val k).isSome_eq, Option.isSome_map]
  unfold putK storedH
  rw [e]
  by_cases q : (atKey xs k).isSome = true
  · rw [if_pos q, if_pos q]; exact r.repl k ry
  · rw [if_neg q, if_neg q]; exact Paired.snoc r ⟨rfl, hb, ry⟩
theorem KT.keeps {H H' : Hp} {kvs : List (List Key × V)} {xs : List (List Key × Addr × Value)} (r : KT H kvs xs) (ht : ∀ b ys, H b = some (.tup ys) → H' b = some (.tup ys)) : KT H' kvs xs :=
  Paired.mapP r fun _ _ z => ⟨z.1, ht _ _ z.2.1, z.2.2⟩

section
variable {P : Program} {w : World} {H : Hp} {h : Heap} {a : Addr}
end

/-- what the dict at a holds at the key y -/
def DGet (H : Hp) (a : Addr) (y : V) (r : Option V) : Prop :=
  (∃ kvs k, Rd H a (.dK kvs) ∧ y = kV k ∧ r = valV kvs k) ∨ ∃ kvs k b, Rd H a (.dT kvs) ∧ y = .ref b ∧ H b = some (.tup (k.map kV)) ∧ r = valV kvs k
/-- the heap behind a[y] = v -/
def DPut (H : Hp) (a : Addr) (y v : V) (H' : Hp) : Prop :=
  (∃ kvs k, H a = some (.dK kvs) ∧ y = kV k ∧ kvs.length < sizeLine ∧ H' = upd H a (.dK (putK kvs k v))) ∨
  ∃ kvs k b, H a = some (.dT kvs) ∧ y = .ref b ∧ H b = some (.tup (k.map kV)) ∧ kvs.length < sizeLine ∧ H' = upd H a (.dT (putK kvs k v))
theorem DGet.k {H : Hp} {a : Addr} {kvs : List (Key × V)} {k : Key} (e : H a = some (.dK kvs)) : DGet H a (kV k) (valV kvs k) := .inl ⟨kvs, k, .inl e, rfl, rfl⟩
theorem DGet.t {H : Hp} {a b : Addr} {kvs : List (List Key × V)} {k : List Key} (e : H a = some (.dT kvs)) (eb : H b = some (.tup (k.map kV))) : DGet H a (.ref b) (valV kvs k) := .inr ⟨kvs, k, b, .inl e, rfl, eb, rfl⟩
theorem DPut.k {H : Hp} {a : Addr} {kvs : List (Key × V)} {k : Key} {v : V} (e : H a = some (.dK kvs)) (hl : kvs.length < sizeLine) : DPut H a (kV k) v (upd H a (.dK (putK kvs k v))) := .inl ⟨kvs, k, e, rfl, hl, rfl⟩
theorem DPut.t {H : Hp} {a b : Addr} {kvs : List (List Key × V)} {k : List Key} {v : V} (e : H a = some (.dT kvs)) (eb : H b = some (.tup (k.map kV))) (hl : kvs.length < sizeLine) :
    DPut H a (.ref b) v (upd H a (.dT (putK kvs k v))) := .inr ⟨kvs, k, b, e, rfl, eb, hl, rfl⟩


section
variable {X : Cx} {pins : List (Addr × Obj)} {σ : St} {H : Hp} {s : Shared} {a : Addr} {y v : V} {u r : Value} {o : Option V} {A : Around} {E : Value → Shared → Prop}

end

section
variable {X : Cx} {pins : List (Addr × Obj)} {σ : St} {H : Hp} {s : Shared} {a : Addr} {kvs : List (Key × V)} {k : Key} {u : Value} {A : Around} {E : Value → Shared → Prop}
end


/-! ### readings and rules -/
section
variable {X : Cx} {o i e value : Expr} {pos pos' tpos : Pos} {td ty tv : TE}
end


/-! ### displays -/
section
variable {X : Cx} {pos : Pos}
end

/-! ### methods -/
section
variable {X : Cx} {pins : List (Addr × Obj)} {σ : St} {H : Hp} {s : Shared} {a : Addr} {y d : V} {u r : Value} {o : Option V} {A : Around} {E : Value → Shared → Prop}
end

section
variable {X : Cx} {o e f : Expr} {apos cpos : Pos} {td ty tx : TE}
end

/-! ### dict(d): a copy -/
section
variable {X : Cx} {pins : List (Addr × Obj)} {σ : St} {H : Hp} {s : Shared} {a : Addr} {kvs : List (Key × V)} {A : Around} {E : Value → Shared → Prop}
end


section
variable {X : Cx} {pins : List (Addr × Obj)} {σ : St} {H : Hp} {s : Shared} {a : Addr} {y : V} {u : Value} {A : Around} {E : Value → Shared → Prop}
end
end L2

namespace L2
open PySem PySem.Spec PyProof.Rows

section
variable {prog : Program} {w : World} {A : Around} {E : Value → Shared → Prop}
end

section
variable {X : Cx}
end
end L2

namespace L2
open PySem PySem.Spec PyProof.Rows

section
variable {X : Cx} {pins : List (Addr × Obj)} {σ : St} {H : Hp} {s : Shared} {h' : Heap}
/-- .. and one new object is laid -/
theorem Inv.turnedNew {t' : Nat} {ch : List Addr} {T : Addr} {ob : HO} (I : Inv X pins σ H s) (k : ∀ b o, b ∉ ch → s.heap.get? b = some o → h'.get? b = some o) (hf : ∀ b ∈ ch, FpOk X pins H b) (hT : s.heap.objs.size ≤ T)
    (new : ObjOk X.prog X.w (upd H T ob) h' T ob) : Inv X pins σ (upd H T ob) { s with heap := h', toks := t' } := by
  have hn : H T = none := I.hok.fresh hT
  have nit : ∀ b u, H b = some u → b ∉ ch := fun b u e z => by
    have q := (hf b z).1
    rw [q] at e; cases e
  refine I.step (g' := s.gens) (d' := s.drawn) (ch := ch) (fun b hb => ⟨(hf b hb).2.2.2.1, (hf b hb).2.1, (hf b hb).2.2.2.2.1, (hf b hb).2.2.2.2.2⟩) (fun b o _ _ hc e _ => k b o hc e) (fun b o _ _ hc e _ => ⟨o.slots, k b o hc e⟩)
    (fun b o _ e n => ?_) (fun b o hc e => ⟨o, k b o hc e⟩) (fun b xs e => ?_) (fun b o u e => ?_) (fun b ps e => ⟨#[], ?_⟩) (fun m hm => ?_) (fun b u e => ?_) I.bare
  · rw [upd_ne (Nat.ne_of_lt (Nat.lt_of_lt_of_le (Heap.lt_size e) hT))]; exact n
  · rw [upd_ne (ne_of_none e hn)]; exact e
  · rw [upd_ne (ne_of_none e hn)]; exact e
  · rw [upd_ne (ne_of_none e hn), e]; simp
  · obtain ⟨o, es, ep, ho, r⟩ := hm
    exact ⟨o, es, ep, k _ o (fun z => (hf _ z).2.1 rfl) ho, r⟩
  · by_cases hb : b = T
    · subst hb
      rw [upd_same] at e
      cases e
      exact new
    · rw [upd_ne hb] at e
      refine (I.hok b u e).stay (fun c v hc q => k c v ?_ q) (fun c q => by rw [upd_ne (ne_of_none q hn)]; exact q) fun c xs q => by rw [upd_ne (ne_of_none q hn)]; exact q
      rcases hc with z | z
      · rw [z]; exact nit b u e
      · exact nit c _ z

/-! ### locking a thing while a statement runs -/
end
section
variable {X : Cx}
/-! ### one iterator just laid -/
end

/-! ### range with a step -/
/-- range(i, j, c): small bounds, n items -/
def RgC (i j c : Int) (n : Nat) : Prop := c ≠ 0 ∧ c.natAbs < 1073741824 ∧ Builtin.Range.small i j c = true ∧ Builtin.Range.rangeSize i j c = n
theorem RgC.neg {i j : Int} (ha : -(2 ^ 62) ≤ i) (ha' : i < 2 ^ 62) (hb : -(2 ^ 62) ≤ j) (hb' : j < 2 ^ 62) : RgC i j (-1) (i - j).toNat :=
  ⟨by decide, by decide, PySem.W.small_down ha ha' hb hb', PySem.W.rangeSize_downNat i j⟩
section
variable {X : Cx} {tg : Expr}
end
/-! ### reversed(list) -/
section
variable {X : Cx} {tg : Expr}
end

/-! ### a str -/
/-! ### a dict's keys: any dict's entries -/
section
variable {prog : Program} {w : World} {A : Around} {E : Value → Shared → Prop} {s : Shared}
end

/-! ### a locked dict -/
section
variable {X : Cx} {pins : List (Addr × Obj)} {σ : St} {H : Hp} {s : Shared} {d : Addr} {o : Obj}
end

section
variable {P : Program} {w : World} {K : PySem.W.Frag} {tg : Expr} {d : Addr} {o : Obj} {es : Array DictEntry} {ep : Nat}
end

/-! ### for k in d, d.keys(), d.values(), d.items() -/
section
variable {X : Cx} {tg e : Expr} {td : TE} {apos cpos : Pos}
end

/-! ### enumerate(list) -/
/-- the list at a as it stands at each turn, each item in a new pair -/
def Ite (K : PySem.W.Frag) (a : Addr) : It :=
  ⟨fun i H => ∃ (xs : List V) (x : V), SqL K H a xs ∧ xs[i]? = some x, fun i H v H' => ∃ T x, v = .ref T ∧ H T = none ∧ H' = upd H T (.tup [.int (i : Nat), x]) ∧ ∀ xs, SqL K H a xs → xs[i]? = some x, fun i H => ∃ xs : List V, SqL K H a xs ∧ xs.length ≤ i⟩
theorem turn_enum {P : Program} {w : World} {K : PySem.W.Frag} {elts : List Expr} {kk : Nat} {tpos : Pos} (a e it : Addr) :
    Turn P w K (.Tuple elts kk tpos) (Ite K a) [e, it] e (fun i h => (∃ old, IsEnum h e it ((i : Nat) : Int) old) ∧ h.IsListIter it a i ∧ e ≠ it) where
  mem := by simp
  obj := fun i h st b hb => by
    obtain ⟨⟨old, he⟩, ⟨o, ho, hc, hd⟩, _⟩ := st
    have e' : b = e ∨ b = it := by simpa using hb
    rcases e' with z | z
    · rw [z]; exact ⟨_, he, fun v q => nomatch q⟩
    · rw [z]; exact ⟨o, ho, fun v q => by rw [hd] at q; cases q⟩
  keep := fun i h h' st k => let ⟨⟨old, he⟩, hi, hne⟩ := st; ⟨⟨old, k e (by simp) _ he⟩, hi.at fun o q => k it (by simp) o q, hne⟩
  item := by
    intro X hP hw hK hc i pins s σ H E I hf st hg
    subst hP hw hK
    obtain ⟨⟨old, he⟩, hit, hne⟩ := st
    obtain ⟨xs, x, hq, hx⟩ := hg
    obtain ⟨its, rv, p, hz⟩ := I.list hq
    obtain ⟨u, hu, ru⟩ := rv.get hx
    have hel : e < s.heap.objs.size := Heap.lt_size he
    have hil : it < s.heap.objs.size := by obtain ⟨_, q, _⟩ := hit; exact Heap.lt_size q
    refine wpAny_pyNext_enum_item he hit p.isList (x := u) (by simpa using hu) hne fun h' ho hit' hT hsz hk => ?_
    refine ⟨_, rfl, wpAny_letOwnedTupleGo_enum (s := { s with heap := h', toks := s.toks + 1 }) ho fun h'' he' sb => ?_⟩
    have hT2 : h''.get? s.heap.objs.size = some { cls := .type "tuple", data := .seq #[.int i s.toks, u] } := (sb.2 _ (Nat.ne_of_gt hel)).trans hT
    have new : ObjOk X.prog X.w (upd H s.heap.objs.size (.tup [.int (i : Nat), x])) h'' s.heap.objs.size (.tup [.int (i : Nat), x]) :=
      ⟨by show 2 ≤ sizeLine; decide, [.int i s.toks, u], .cons ⟨_, rfl⟩ (.cons ru .nil), ⟨_, hT2, rfl, _, rfl⟩⟩
    have I1 : Inv X pins σ (upd H s.heap.objs.size (.tup [.int (i : Nat), x])) { s with heap := h'', toks := s.toks + 1 } :=
      I.turnedNew (ch := [e, it]) (fun b ob hb q => (sb.2 b (fun z => hb (by simp [z]))).trans (hk b ob (fun z => hb (by simp [z])) (fun z => hb (by simp [z])) q)) hf (Nat.le_refl _) new
    refine ⟨.ref s.heap.objs.size, _, I1, rfl, ⟨_, x, rfl, I.hok.fresh (Nat.le_refl _), rfl, fun ys hy => by rw [I.list_inj hy hq]; exact hx⟩, ⟨⟨u, ?_⟩, hit'.at fun o q => (sb.2 it (Ne.symm hne)).trans q, hne⟩, fun b hb => ?_⟩
    · have e1 : ((i + 1 : Nat) : Int) = (i : Int) + 1 := by omega
      rw [e1]; exact he'
    · have hb' : b < s.heap.objs.size := by
        have e' : b = e ∨ b = it := by simpa using hb
        rcases e' with z | z
        · rw [z]; exact hel
        · rw [z]; exact hil
      rw [upd_ne (Nat.ne_of_lt hb')]
      exact (hf b hb).1
  done := by
    intro X hP hw hK hc i pins s σ H E I hf st hg
    subst hP hw hK
    obtain ⟨⟨old, he⟩, hit, hne⟩ := st
    obtain ⟨xs, hq, hx⟩ := hg
    obtain ⟨its, rv, p, hz⟩ := I.list hq
    obtain ⟨f0, f1, f2, f3, f4, f5⟩ := hf it (by simp)
    have hl := rv.length
    exact wpAny_pyNext_enum_end (I.ok.hd hc) he hit p.isList (by simp; omega) fun h' eb => ⟨rfl, I.turned (t' := s.toks) (fun b o hb q => eb b o hb q) f0 f1 f3 f4 f5⟩
  self := fun A i s Q E st h => let ⟨⟨_, he⟩, _⟩ := st; wpAny_pyIter_enum he h
def iEnum (K : PySem.W.Frag) (ta : TA) : TI := fun σ H R => ta σ H fun vs H1 => ∃ a xs, vs = [.ref a] ∧ SqL K H1 a xs ∧ R (Ite K a) H1
theorem pi_enum {X : Cx} {e : Expr} {ta : TA} {p pos tpos : Pos} {elts : List Expr} {kk : Nat} (hg : Gl X "enumerate") (hm : X.mg "enumerate" = none) (ha : PA X [e] ta) (hs : starEach [e] X.env = [(false, eval e X.env)] := by rfl) :
    PI X (.Tuple elts kk tpos) (.Call (.Name "enumerate" p) [e] [] pos) (iEnum X.K ta) := by
  intro pins s σ H R I h
  refine Call_ (ld_blt I hg hm boot_enumerate (PyProof.Rows.callWith_type1 (thn (ha pos pins s σ H _ I h) fun us s1 ⟨vs, H1, I1, r1, q1⟩ => ?_) hs rfl))
  obtain ⟨a, xs, ex, hq, q⟩ := q1
  subst ex
  cases r1 with
  | cons r rr =>
    cases rr
    cases r
    obtain ⟨its, rv, p', hz⟩ := I1.list hq
    refine call_enumerate_list p'.isList fun h' he hit hsz hk => wpAny_pyIter_enum he ?_
    have I2 : Inv X pins σ H1 { s1 with heap := h' } := I1.kept (t' := s1.toks) hk
    refine ⟨s1.heap.objs.size + 1, [s1.heap.objs.size + 1, s1.heap.objs.size], _, _, H1, rfl, I2, turn_enum a (s1.heap.objs.size + 1) s1.heap.objs.size, ⟨⟨.none, he⟩, hit, Nat.succ_ne_self _⟩, fun b hb => ?_, q⟩
    have e' : b = s1.heap.objs.size + 1 ∨ b = s1.heap.objs.size := by simpa using hb
    have hle : s1.heap.objs.size ≤ b := by
      rcases e' with z | z
      · rw [z]; exact Nat.le_add_right _ _
      · rw [z]; exact Nat.le_refl _
    exact I1.fpOk hle (I1.hok.fresh hle)
/-! ### zip(list, list) -/
end L2

section 
namespace Bits
open PySem PyProof.Rows

end Bits
end 

section 
namespace TL
open PySem PySem.Builtin PySem.Builtin.Str PySem.StrLaws

abbrev tl (x : Str) : List Nat := x.cps.toList
/-! ### the list functions -/
/-- S stands at the head of l -/
def pre (S l : List Nat) : Bool := l.take S.length == S
/-- l cut at each S from the left; k signs are still to be passed over -/
def spl (S : List Nat) : Nat → List Nat → List Nat → List (List Nat)
  | _, acc, [] => [acc]
  | 0, acc, c :: r => if pre S (c :: r) = true then acc :: spl S (S.length - 1) [] r else spl S 0 (acc ++ [c]) r
  | k + 1, acc, _ :: r => spl S k acc r
/-- what stands before the first S, and behind it -/
def par (S : List Nat) : List Nat → List Nat → Option (List Nat × List Nat)
  | _, [] => none
  | acc, c :: r => if pre S (c :: r) = true then some (acc, (c :: r).drop S.length) else par S (acc ++ [c]) r

/-! ### the model's split and partition are these -/
/-! ### computing spl and par -/
/-! ### digits -/
/-! ### words: x.split() -/
end TL
end 

namespace L2
open PySem PySem.Spec PyProof.Rows

section
variable {X : Cx} {pins : List (Addr × Obj)} {σ : St} {H : Hp} {s : Shared} {Q : VK}
end

section
variable {X : Cx}

/-! ### of a text alone -/
/-! ### of a text and a text -/
end

section
variable {X : Cx} {o e : Expr} {to te : TE}
end
end L2

namespace L2
open PySem PySem.Spec PyProof.Rows

section
variable {X : Cx}
end

/-! ### slices of a text -/
theorem IsPart.raw {v : Value} {o : Option Int} (p : IsPart v o) : ∃ l : Option (Int × Tok), v = partValue l ∧ l.map (·.1) = o := by
  cases p with
  | none => exact ⟨none, rfl, rfl⟩
  | int i t => exact ⟨some (i, t), rfl, rfl⟩

end L2

namespace Att
open PySem PySem.W PySem.Calls PyProof.Rows

/-! ### the script -/
theorem ints_of_wellAll {P : Params} {h : Heap} : ∀ (ns : List Int) (vs : List Value), WellAll P h vs (ns.map WData.int) → IntsAre vs ns := by
  intro ns
  induction ns with
  | nil =>
    intro vs w
    rw [List.map_nil] at w
    cases w
    exact .nil
  | cons n ns ih =>
    intro vs w
    rw [List.map_cons] at w
    cases w with
    | cons a b =>
      cases a
      exact .cons _ _ (ih _ b)

theorem script_of {l : OpenLaw} {n : Nat} (hn : l.most = some n) {P : Params} {h : Heap} {args : List WData} {vals : List Value}
    (hpre : l.row.toRowW.claim.pre args = true) (hwl : WellAll P h vals args) :
    ∃ a vs ns, vals = [Value.ref a] ∧ args = [WData.list (ns.map WData.int)] ∧ h.get? a = some { cls := .type "list", data := .seq vs.toArray } ∧ IntsAre vs ns ∧ ns.length ≤ n := by
  have hsh : WShape.hasAll [] args [.list .int] = true := (pre_splitW hpre).1
  have hc : l.pre.holds [] { args := args } = true := (pre_splitW hpre).2
  obtain ⟨d, r, rfl, h1, h2⟩ := hasAllW_cons hsh
  obtain rfl := hasAllW_nil h2
  obtain ⟨xs, rfl, h3⟩ := hasW_list h1
  obtain ⟨ns, rfl⟩ := items_int h3
  have hlen : ns.length ≤ n := by
    unfold OpenLaw.pre at hc
    have h4 : (WTm.not (.lt (.lit (.int (n : Int))) (.len (.arg 0)))).holds [] { args := [.list (ns.map .int)] } = true := by
      have h4 := (holds_andW hc).1
      rw [hn] at h4
      exact h4
    have h5 := condW_of h4 (w_not (w_lt w_lit (w_len_list (w_arg rfl))))
    rw [List.length_map] at h5
    refine Nat.le_of_not_lt fun q => ?_
    have q' : (n : Int) < ((ns.length : Nat) : Int) := by omega
    first
      | (rw [decide_eq_true q'] at h5; exact absurd h5 (by decide))
      | (simp at h5; omega)
  cases hwl with
  | cons w1 w2 =>
    cases w2
    cases w1 with
    | list ho hall => exact ⟨_, _, ns, rfl, rfl, ho, ints_of_wellAll ns _ hall, hlen⟩

theorem post_true (l : OpenLaw) (args : List WData) : l.row.toRowW.claim.post args (.bool true) args = true :=
  postW_of (r := l.row.toRowW) (X := (true == true))
    (show WShape.has [] (.bool true) .bool = true by first | rfl | decide | simp [WShape.has, WShape.arms, WShape.armsAll])
    (show (WTm.eq .res (.lit (.bool true))).value [] { args := args, res := some (.bool true), after := args } = some (.bool (true == true)) from w_eq_bool (w_res rfl) w_lit) rfl

/-! ### the attachment: holds_open's last premise (the goal 'hc' behind k_head) from a wpAny of the law's body -/
/-- the same from a codeAny of the CALL (for a layer whose function contracts speak of calls) -/
theorem attach_call {l : OpenLaw} {n : Nat} {q : Program} {loose : List Str} {XP : (Str → Option Value) → Heap → Prop} {YP : World → Heap → Prop} {d : DefRec}
    (hn : l.most = some n) (hdf : d.params.defaults = [])
    (call : ∀ (w : World) (s₀ s₁ : Shared) (mg mb : Str → Option Value) (fa : Addr) (o : Obj) (pm cd doc : Value) (a : Addr) (vs : List Value) (ns : List Int),
      Ground q loose [] XP w s₀ mg mb s₁.heap → YP w s₁.heap →
      s₁.heap.get? fa = some o → o.data = .func (docDef d.name d.params d.body d.scope pm cd doc) → s₁.heap.CodeRec cd d.name → mg d.name = some (.ref fa) →
      s₁.heap.get? a = some { cls := .type "list", data := .seq vs.toArray } → IntsAre vs ns → ns.length ≤ n → s₁.gens = #[] →
      codeAny (model l.prog w) callerA (.call (.ref fa) ⟨[.ref a], []⟩) (fun r s' => r = .ok (.ret (.bool true)) ∧ OldK s₁.heap s'.heap ∧ s'.os = s₁.os ∧ AllBare s'.gens) s₁) :
    WalkO q loose XP YP l.row.toRowW d [] (fun f vs => PySem.call f vs) := by
  intro w s₀ s₁ mg mb G Y fa o pm cd doc dV kV ho hd hcd hD hmg hg args vals as hpre hlay hrd hwl hlo
  obtain rfl : dV = .none := Dflts.none hD hdf
  obtain rfl : kV = .none := Dflts.noKw hD
  obtain ⟨a, vs, ns, rfl, rfl, hobj, hints, hlen⟩ := script_of hn hpre hwl
  refine enter_call (codeAny_mono (call w s₀ s₁ mg mb fa o pm cd doc a vs ns G Y ho (fd_plain hd) hcd hmg hobj hints hlen hg) fun r s' hq => ?_)
  obtain ⟨rfl, h2, h3, h4⟩ := hq
  exact ⟨.inl ⟨.bool true, .bool true, [], rfl, fun _ => rfl, .bool true, post_true l _, fun _ => ⟨List.Pairwise.nil, fun _ hm => (nomatch hm)⟩⟩, h2, h3, h4⟩

/-! ### rules over ANY heap (no ledger) from facts about the written part K: the library's own take a ledger (News) for what they write -/
section
variable {prog : Program} {w : World} {A : Around} {E : Value → Shared → Prop} {s : Shared} {K : Frag}

/-! the whole heap as the ledger: makes every rule that writes through a ledger a rule over any heap -/
def ledger (h : Heap) (L d : Addr) : List (Addr × Obj) := (List.range h.objs.size).filterMap fun a => if a = L ∨ a = d then none else (h.get? a).map fun o => (a, o)
end
end Att

namespace L2
open PySem PySem.Spec PyProof.Rows

theorem vals_ints : ∀ {vs : List Value} {ns : List Int}, IntsAre vs ns → Vals (ns.map V.int) vs
  | _, _, .nil => .nil
  | _, _, .cons n t h => .cons ⟨t, rfl⟩ (vals_ints h)

/-- nothing is tracked but the script, known to the object (or it is an object of the module) -/
def Only (H : Hp) : Prop := ∀ b, H b = none ∨ ∃ o xs, H b = some (.frz o (.lst xs))

/-- THE HEAD: the law's promise, at the heap behind the top. F, the promise of the law's def, may use that base is part of the heap (so K.In base, base.Ns mainGlobals mg stand in Mod) -/
theorem law_call {P : Program} {w : World} {K : PySem.W.Frag} {mg mb : Str → Option Value} {CX : CXT} {k : Nat} {fa a : Addr} {fd : FuncData} {x : Str} {sp : Sp} {s₁ : Shared} {vs : List Value} {ns : List Int}
    (KX : K.In s₁.heap) (hns : s₁.heap.Ns mainGlobals mg) (hb : s₁.heap.Ns builtinsNs mb) (hbb : ∀ x : Str, x ≠ "__name__" → mb x = bootBuiltins x) (hlim : s₁.heap.NoLimit) (hg : s₁.gens = #[])
    (ha : s₁.heap.get? a = some { cls := .type "list", data := .seq vs.toArray }) (hi : IntsAre vs ns) (hl : ns.length ≤ sizeLine) (hr : Room k callerA)
    (F : ∀ base : Heap, K.In base → base.Ns mainGlobals mg → FnOk P w K mg base CX k fa fd [x] sp) (hbind : ∀ (s : Shared) (u : Value), BindsTo s fd ⟨[u], []⟩ [(x, u)])
    (hsp : ∀ H : Hp, Only H → SqL K H a (ns.map V.int) → sp [.ref a] H (fun v _ => v = .bl true) fun _ _ _ => False)
    (hCX : ∀ H e s', CX [] H s₁ (fun _ _ _ => False) e s' → False) :
    codeAny (model P w) callerA (.call (.ref fa) ⟨[.ref a], []⟩) (fun r s' => r = .ok (.ret (.bool true)) ∧ OldK s₁.heap s'.heap ∧ s'.os = s₁.os ∧ AllBare s'.gens) s₁ := by
  have rv := vals_ints hi
  have lenV := hi.length
  -- from an abstract heap in which nothing but the script may be tracked
  have core : ∀ H : Hp, Only H → SqL K H a (ns.map V.int) → HOk P w H s₁.heap → (∀ b, H b ≠ none → b = a) → (H a ≠ none → K.lookup a = none) →
      codeAny (model P w) callerA (.call (.ref fa) ⟨[.ref a], []⟩) (fun r s' => r = .ok (.ret (.bool true)) ∧ OldK s₁.heap s'.heap ∧ s'.os = s₁.os ∧ AllBare s'.gens) s₁ := by
    intro H hO hS hok hA hK
    have base_of : ∀ {b : Addr} {o : Obj}, s₁.heap.get? b = some o → H b = none → (hidT s₁.heap H).get? b = some o := fun e n => hidT_get e n
    have noA : ∀ {b : Addr} {o : Obj} {es : Array DictEntry} {ep : Nat}, s₁.heap.get? b = some o → o.data = .dict es ep → H b = none := fun {b o es ep} e d => by
      cases q : H b with
      | none => rfl
      | some u =>
        have e' : b = a := hA b (by rw [q]; simp)
        subst e'
        rw [ha] at e; cases e
        have d' : Data.seq vs.toArray _ = Data.dict es ep := d
        cases d'
    have nsK : ∀ {b : Addr} {m : Str → Option Value}, s₁.heap.Ns b m → (hidT s₁.heap H).Ns b m := fun {b m} ⟨o, es, ep, e, d, r⟩ => ⟨o, es, ep, base_of e (noA e d), d, r⟩
    have hKb : K.In (hidT s₁.heap H) := fun b o e => base_of (KX b o e) (by
      cases q : H b with
      | none => rfl
      | some u =>
        have e' : b = a := hA b (by rw [q]; simp)
        subst e'
        rw [hK (by rw [q]; simp)] at e; cases e)
    have hM : Mod K mg (hidT s₁.heap H) := ⟨hKb, nsK hns, ⟨mb, nsK hb, hbb⟩, let ⟨mc, h1, h2⟩ := hlim; ⟨mc, nsK h1, h2⟩⟩
    have e0 : Env0 P w K mg (hidT s₁.heap H) callerA [] s₁ H := ⟨rfl, hM, fun b o e => of_hidT e, Nat.le_of_eq (hidT_size _ _), trivial, fun b hb => absurd (show b ∈ ([] : List Addr) from hb) (by simp), hok, .of_eq hg⟩
    refine codeAny_mono ((F _ hKb (nsK hns)).run callerA [] s₁ H ⟨[.ref a], []⟩ [.ref a] [.ref a] _ _ hr e0 (hbind s₁ (.ref a)) (.cons rfl .nil) (hsp H hO hS)) fun r s' h => ?_
    cases r with
    | error e => exact (hCX H e s' h).elim
    | ok fl =>
      cases fl with
      | next => exact False.elim h
      | brk => exact False.elim h
      | cont => exact False.elim h
      | ret u =>
        obtain ⟨v, H', os, bare, un, hok', r', q⟩ := h
        have q' : v = .bl true := q
        subst q'
        obtain rfl : u = Value.bool true := r'
        refine ⟨rfl, OldK.of_keep fun b o e => ?_, os, bare⟩
        cases q : H b with
        | none => exact un.keep b o e q (by intro z; exact absurd (show b ∈ ([] : List Addr) from z) (by simp)) (by simp)
        | some u =>
          rcases hO b with z | ⟨ob, xs, z⟩
          · rw [q] at z; cases z
          · have z2 := un.frzs b ob _ z
            obtain ⟨e1, _⟩ := hok b _ z
            obtain ⟨e2, _⟩ := hok' b _ z2
            rw [e] at e1; cases e1
            exact e2
  cases hk : K.lookup a with
  | some o =>
    -- the script is one of the module's own objects
    have e := KX a o hk
    rw [ha] at e
    cases e
    refine core (fun _ => none) (fun _ => .inl rfl) (.inr ⟨_, vs.toArray, _, hk, rfl, rfl, rfl, by rw [List.size_toArray, lenV]; exact hl, by simpa using rv⟩) (fun b u z => by have z' : (none : Option HO) = some u := z; cases z') (fun b z => absurd rfl z) fun z => absurd rfl z
  | none =>
    refine core (fun b => if b = a then some (.frz { cls := .type "list", data := .seq vs.toArray } (.lst (ns.map V.int))) else none) (fun b => ?_) (.inl (.inr ⟨{ cls := .type "list", data := .seq vs.toArray }, if_pos rfl⟩)) (fun b u z => ?_) (fun b z => ?_) fun _ => hk
    · by_cases hb : b = a
      · exact .inr ⟨_, _, if_pos hb⟩
      · exact .inl (if_neg hb)
    · by_cases hb : b = a
      · have z' := (if_pos hb).symm.trans z
        cases z'
        subst hb
        exact ⟨ha, by rw [List.length_map]; exact hl, vs, _, rv, ha⟩
      · have z' := (if_neg hb).symm.trans z
        cases z'
    · by_cases hb : b = a
      · exact hb
      · exact absurd (if_neg hb) z
end L2

namespace L2
open PySem PySem.Spec PyProof.Rows

abbrev KOf {K : PySem.W.Frag} {h : Heap} (_ : K.In h) : PySem.W.Frag := K

/-- the goal that k_head leaves (case hc), from the law's promise. F gives the function object fd (K's own) once, then the promise over every base -/
theorem walk_of {l : PySem.W.OpenLaw} {n k : Nat} {q : Program} {loose : List Str} {XP : (Str → Option Value) → Heap → Prop} {YP : World → Heap → Prop} {d : DefRec} {K : Params → PySem.W.Frag} {CX : World → CXT} {sp : World → Sp} {x : Str}
    (hn : l.most = some n) (hn2 : n ≤ sizeLine) (hdf : d.params.defaults = []) (hr : Room k callerA)
    (hY : ∀ (w : World) (h : Heap), YP w h → (K w.params).In h)
    (F : ∀ (w : World) (mg : Str → Option Value) (fa : Addr) (h : Heap), (K w.params).In h → h.Ns mainGlobals mg → mg d.name = some (.ref fa) →
      ∃ fd : FuncData, (∀ (s : Shared) (u : Value), BindsTo s fd ⟨[u], []⟩ [(x, u)]) ∧
        ∀ base : Heap, (K w.params).In base → base.Ns mainGlobals mg → FnOk l.prog w (K w.params) mg base (CX w) k fa fd [x] (sp w))
    (hsp : ∀ (w : World) (H : Hp) (a : Addr) (ns : List Int), ns.length ≤ n → Only H → SqL (K w.params) H a (ns.map V.int) → sp w [.ref a] H (fun v _ => v = .bl true) fun _ _ _ => False)
    (hCX : ∀ (w : World) (H : Hp) (s : Shared) (e : Value) (s' : Shared), CX w [] H s (fun _ _ _ => False) e s' → False) :
    PySem.W.WalkO q loose XP YP l.row.toRowW d [] (fun f vs => PySem.call f vs) := by
  refine Att.attach_call hn hdf fun w s₀ s₁ mg mb fa o pm cd doc a vs ns G Y ho hd hcd hmg hobj hints hlen hg => ?_
  have KX := hY w _ Y
  obtain ⟨fd, hb, hF⟩ := F w mg fa _ KX G.T.g hmg
  exact law_call KX G.T.g G.T.b G.T.builtins G.T.nolimit hg hobj hints (Nat.le_trans hlen hn2) hr hF hb (fun H hO hS => hsp w H a ns hlen hO hS) fun H e s' => hCX w H s₁ e s'
end L2

/- THE LAST THEOREM (shape; LID, My.* are yours):
   My.Adr: a structure of the addresses that your layer names (classes, functions); My.Txt K t: a structure (Prop) of the equations over K;
   My.txt_mk : {K} {implicit addresses ..} (e1 : nsIn K mainGlobals "law" = some (some (.ref f))) (e2 : K.lookup f = some ⟨oc, od, .func (fnOf "law" "law" params body scope dV kV doc pm an cdv ct), sl⟩) (e3 : codeIn K cdv "law" = true) .. : ∃ t, My.Txt K t

set_option maxRecDepth 100000 in
set_option maxHeartbeats 0 in
theorem PySem.Challenge.cw_LID_holds : PySem.Challenge.rw_LID.Holds := by
  w_on; o_law; k_head; (case hw => w_witness2)
  k_fill
  refine L2.walk_of (l := PySem.Challenge.rw_LID) (n := 63) (k := 40) (x := "script") (CX := fun w => ..) (sp := fun _ => My.sp_law) rfl (by decide) rfl ⟨rfl, by decide, by decide⟩ (fun w h Y => PySem.W.kIn_of Y) ?F ?S ?C
  case F =>
    intro w mg fa h KX G hmg
    have T : ∃ t, My.Txt (L2.KOf KX) t := by
      dsimp only [L2.KOf]                          -- K must stand as «<heap const> w.params» for k_is
      refine' My.txt_mk ?e1 ?e2 ?e3 ..
      (case e1 => PySem.W.k_is)                    -- in the order: a name -> its address -> its object -> its parts
      (case e2 => PySem.W.k_is)
      ..
    obtain ⟨t, T⟩ := T
    have e0 := hmg.symm.trans (PySem.W.mg_of KX G T.law)
    cases e0                                       -- fa is the law's own address
    exact ⟨_, fun s u => .of_eq rfl, fun base kb nb => My.law_fn T kb nb⟩     -- if «.of_eq rfl» comes too early: refine' ⟨_, ?b, fun base kb nb => My.law_fn T kb nb⟩; exact fun s u => .of_eq rfl
  case S => exact fun w H a ns hl hO hS => ..
  case C => exact ..
(the tactic k_is has no namespace: write k_is) -/

/-! SHORT WORDS over the layer: a def of the text, its body, what a loop and a test want. -/
namespace L2
open PySem PySem.Spec PyProof.Rows

/-! ### the text by places -/
def defArgs (s : Stmt) : Arguments := match s with
  | .FunctionDef _ a _ _ _ _ _ _ _ _ => a
  | _ => { posonlyargs := [], args := [], vararg := none, kwonlyargs := [], kw_defaults := [], kwarg := none, defaults := [] }
def defBody (s : Stmt) : List Stmt := match s with
  | .FunctionDef _ _ b _ _ _ _ _ _ _ => b
  | _ => []
def defScope (s : Stmt) : Scope := match s with
  | .FunctionDef _ _ _ _ _ _ sc _ _ _ => sc
  | _ => { kind := .function, names := [], isGenerator := false, isCoroutine := false }

/-! ### no exception leaves a def -/
abbrev CX0 : CXT := fun _ _ _ _ _ _ => False
abbrev E0 : XK := fun _ _ _ => False
theorem pass0 {X : Cx} : Passes CX0 X E0 := fun _ _ _ _ _ _ _ h => h.elim

/-! ### a def (or method) of the text as it stands behind the top -/
structure Fun (K : PySem.W.Frag) (x qual : Str) (st : Stmt) (f : Addr) (fd : FuncData) : Prop where
  ex : ∃ (oc : Value) (od : Option Addr) (kV doc pm : Value) (an : Option Addr) (cdv ct : Value) (osl : Array (Option Value)),
    fd = PySem.W.fnOf x qual (defArgs st) (defBody st) (defScope st) .none kV doc pm an cdv ct ∧ K.lookup f = some ⟨oc, od, .func fd, osl⟩ ∧ PySem.W.codeIn K cdv qual = true
  kp : PySem.W.keepIn K (.ref f) = true
section
variable {P : Program} {w : World} {K : PySem.W.Frag} {mg : Str → Option Value} {base : Heap}
/-- THE RULE for a def: its body as a term of rules, and the reading of that term -/
theorem Fun.ok {x qual : Str} {st : Stmt} {f : Addr} {fd : FuncData} {N ps : List Str} {k : Nat} {sp : Sp} (F : Fun K x qual st f fd) (S : FnScope N ps (defScope st)) (len : ∀ vs H Q E, sp vs H Q E → vs.length = ps.length)
    (hbody : ∀ (cdv : Value) (A : Around) (outer : List Env) (s : Shared) (H : Hp) (vs : List V) (Q : VK) (E : XK), Room k (A.deeper (envOfC qual (defScope st) s.heap.objs.size f cdv)) → sp vs H Q E →
      ∃ t, PSs (cxOf CX0 P w K mg base N qual (defScope st) f cdv A outer s H E).nox (defBody st) t ∧ t { nx := fun _ H' => Q .non H', rt := Q } (start N vs) H) : FnOk P w K mg base CX0 (k + 1) f fd ps sp := by
  obtain ⟨oc, od, kV, doc, pm, an, cdv, ct, osl, rfl, lk, hcd⟩ := F.ex
  refine fn_of lk hcd S len fun A outer s H vs Q E hr hsp => ?_
  obtain ⟨t, h, q⟩ := hbody cdv A outer s H vs Q E hr hsp
  exact ⟨t, h.nox, q⟩
/-- how its arguments bind (no defaults): h is «fun _ _ _ _ _ _ us hl => match us, hl with | [_, _], _ => rfl», one _ a parameter -/
theorem Fun.binds {x qual : Str} {st : Stmt} {f : Addr} {fd : FuncData} {ps : List Str} (F : Fun K x qual st f fd)
    (h : ∀ (kV doc pm : Value) (an : Option Addr) (cdv ct : Value) (us : List Value), us.length = ps.length → bindArgs (PySem.W.fnOf x qual (defArgs st) (defBody st) (defScope st) .none kV doc pm an cdv ct) ⟨us, []⟩ = pure (ps.zip us)) : Binds K fd ps [] := by
  obtain ⟨oc, od, kV, doc, pm, an, cdv, ct, osl, rfl, lk, hcd⟩ := F.ex
  exact .all (h kV doc pm an cdv ct)
theorem fun_mk {x qual : Str} {st : Stmt} {f : Addr} {oc : Value} {od an : Option Addr} {osl : Array (Option Value)} {kV doc pm cdv ct : Value} (l : K.lookup f = some ⟨oc, od, .func (PySem.W.fnOf x qual (defArgs st) (defBody st) (defScope st) .none kV doc pm an cdv ct), osl⟩)
    (c : PySem.W.codeIn K cdv qual = true) (k : PySem.W.keepIn K (.ref f) = true) : Fun K x qual st f (PySem.W.fnOf x qual (defArgs st) (defBody st) (defScope st) .none kV doc pm an cdv ct) := ⟨⟨oc, od, kV, doc, pm, an, cdv, ct, osl, rfl, l, c⟩, k⟩
end
/-! ### expressions in short: the name that stands in the i-th slot -/
section
variable {X : Cx}
end

/-! ### tests -/
/-! ### heaps -/
/-- all that was tracked is as it was -/
def Same (H H' : Hp) : Prop := ∀ b o, H b = some o → H' b = some o
theorem Same.refl (H : Hp) : Same H H := fun _ _ h => h
theorem Same.trans {H H1 H2 : Hp} (a : Same H H1) (b : Same H1 H2) : Same H H2 := fun c o h => b c o (a c o h)
theorem Same.free {H H' : Hp} (e : Same H H') {l : Addr} (h : H' l = Option.none) : H l = Option.none := by
  cases q : H l with
  | none => rfl
  | some o =>
    rw [e l o q] at h
    cases h
theorem Same.seq {K : PySem.W.Frag} {H H' : Hp} {a : Addr} {xs : List V} (e : Same H H') (h : SqL K H a xs) : SqL K H' a xs := by
  rcases h with (h | ⟨o, h⟩) | h
  · exact .inl (.inl (e _ _ h))
  · exact .inl (.inr ⟨o, e _ _ h⟩)
  · exact .inr h

/-! ### a dict's pairs: keys that differ -/
section
variable {κ : Type} [DecidableEq κ]
end
/-! ### lists -/
/-- a new instance and its __init__ leave all that was tracked as it was -/
theorem Same.made {H H1 : Hp} {x dx C : Addr} (nx : H x = Option.none) (nd : H dx = Option.none) (k : ∀ b o, (upd (upd H dx (.own x)) x (.ins C dx [])) b = some o → b ≠ x → H1 b = some o) : Same H H1 := fun b o e =>
  k b o (by rw [upd_ne (ne_of_none e nx), upd_ne (ne_of_none e nd)]; exact e) (ne_of_none e nx)
end L2
set_option Elab.async false
set_option linter.all false
set_option maxRecDepth 100000
set_option maxHeartbeats 4000000

/-! Z: deterministic readings over the layer. Tuples are plain data, mutable things stand in a list of objects. -/
namespace Z
open PySem PySem.Spec PyProof.Rows L2

inductive W where
  | non | bl (b : Bool) | int (i : Int) | str (s : Str) | byt (b : Array UInt8) | flt (b : UInt64) | ty (n : String) | glob (a : Nat) | ref (n : Nat) | tup (xs : List W)

mutual
def W.dec : (a b : W) → Decidable (a = b)
  | .non, .non => Decidable.isTrue rfl
  | .bl a, .bl b => if h : a = b then Decidable.isTrue (by rw [h]) else Decidable.isFalse (by intro e; cases e; exact h rfl)
  | .int a, .int b => if h : a = b then Decidable.isTrue (by rw [h]) else Decidable.isFalse (by intro e; cases e; exact h rfl)
  | .str a, .str b => if h : a = b then Decidable.isTrue (by rw [h]) else Decidable.isFalse (by intro e; cases e; exact h rfl)
  | .byt a, .byt b => if h : a = b then Decidable.isTrue (by rw [h]) else Decidable.isFalse (by intro e; cases e; exact h rfl)
  | .flt a, .flt b => if h : a = b then Decidable.isTrue (by rw [h]) else Decidable.isFalse (by intro e; cases e; exact h rfl)
  | .ty a, .ty b => if h : a = b then Decidable.isTrue (by rw [h]) else Decidable.isFalse (by intro e; cases e; exact h rfl)
  | .glob a, .glob b => if h : a = b then Decidable.isTrue (by rw [h]) else Decidable.isFalse (by intro e; cases e; exact h rfl)
  | .ref a, .ref b => if h : a = b then Decidable.isTrue (by rw [h]) else Decidable.isFalse (by intro e; cases e; exact h rfl)
  | .tup a, .tup b => match W.decs a b with
    | .isTrue h => Decidable.isTrue (by rw [h])
    | .isFalse h => Decidable.isFalse (by intro e; cases e; exact h rfl)
  | .non, .bl _ | .non, .int _ | .non, .str _ | .non, .byt _ | .non, .flt _ | .non, .ty _ | .non, .glob _ | .non, .ref _ | .non, .tup _ => Decidable.isFalse (by intro e; cases e)
  | .bl _, .non | .bl _, .int _ | .bl _, .str _ | .bl _, .byt _ | .bl _, .flt _ | .bl _, .ty _ | .bl _, .glob _ | .bl _, .ref _ | .bl _, .tup _ => Decidable.isFalse (by intro e; cases e)
  | .int _, .non | .int _, .bl _ | .int _, .str _ | .int _, .byt _ | .int _, .flt _ | .int _, .ty _ | .int _, .glob _ | .int _, .ref _ | .int _, .tup _ => Decidable.isFalse (by intro e; cases e)
  | .str _, .non | .str _, .bl _ | .str _, .int _ | .str _, .byt _ | .str _, .flt _ | .str _, .ty _ | .str _, .glob _ | .str _, .ref _ | .str _, .tup _ => Decidable.isFalse (by intro e; cases e)
  | .byt _, .non | .byt _, .bl _ | .byt _, .int _ | .byt _, .str _ | .byt _, .flt _ | .byt _, .ty _ | .byt _, .glob _ | .byt _, .ref _ | .byt _, .tup _ => Decidable.isFalse (by intro e; cases e)
  | .flt _, .non | .flt _, .bl _ | .flt _, .int _ | .flt _, .str _ | .flt _, .byt _ | .flt _, .ty _ | .flt _, .glob _ | .flt _, .ref _ | .flt _, .tup _ => Decidable.isFalse (by intro e; cases e)
  | .ty _, .non | .ty _, .bl _ | .ty _, .int _ | .ty _, .str _ | .ty _, .byt _ | .ty _, .flt _ | .ty _, .glob _ | .ty _, .ref _ | .ty _, .tup _ => Decidable.isFalse (by intro e; cases e)
  | .glob _, .non | .glob _, .bl _ | .glob _, .int _ | .glob _, .str _ | .glob _, .byt _ | .glob _, .flt _ | .glob _, .ty _ | .glob _, .ref _ | .glob _, .tup _ => Decidable.isFalse (by intro e; cases e)
  | .ref _, .non | .ref _, .bl _ | .ref _, .int _ | .ref _, .str _ | .ref _, .byt _ | .ref _, .flt _ | .ref _, .ty _ | .ref _, .glob _ | .ref _, .tup _ => Decidable.isFalse (by intro e; cases e)
  | .tup _, .non | .tup _, .bl _ | .tup _, .int _ | .tup _, .str _ | .tup _, .byt _ | .tup _, .flt _ | .tup _, .ty _ | .tup _, .glob _ | .tup _, .ref _ => Decidable.isFalse (by intro e; cases e)
def W.decs : (a b : List W) → Decidable (a = b)
  | [], [] => Decidable.isTrue rfl
  | [], _ :: _ => Decidable.isFalse (by intro e; cases e)
  | _ :: _, [] => Decidable.isFalse (by intro e; cases e)
  | a :: as, b :: bs => match W.dec a b, W.decs as bs with
    | .isTrue h, .isTrue g => isTrue (by rw [h, g])
    | .isFalse h, _ => Decidable.isFalse (by intro e; cases e; exact h rfl)
    | _, .isFalse g => Decidable.isFalse (by intro e; cases e; exact g rfl)
end
instance : DecidableEq W := W.dec

/-- an object: a list, a list that is only read, an instance of the class with that number -/
inductive AO where
  | lst (xs : List W) | fro (xs : List W) | ins (c : Nat) (fs : List (Str × W))
  deriving DecidableEq
abbrev AH := List AO
abbrev SW := List (Option W)

inductive Res (α : Type) where
  | ok (a : α) (h : AH) | exc (c : Nat) (h : AH) | bad
def Res.bind {α β : Type} : Res α → (α → AH → Res β) → Res β
  | .ok a h, f => f a h
  | .exc c h, _ => .exc c h
  | .bad, _ => .bad
@[simp] theorem Res.bind_ok {α β : Type} {a : α} {h : AH} {f : α → AH → Res β} : (Res.ok a h).bind f = f a h := rfl
@[simp] theorem Res.bind_exc {α β : Type} {c : Nat} {h : AH} {f : α → AH → Res β} : (Res.exc c h : Res α).bind f = .exc c h := rfl
@[simp] theorem Res.bind_bad {α β : Type} {f : α → AH → Res β} : (Res.bad : Res α).bind f = .bad := rfl

/-! ### the relation -/
/-- the text's own objects: the addresses of classes by number, the code records with their tables -/
structure GT where
  gl : List Addr
  tb : List (Addr × Addr)
structure Gx where
  K : PySem.W.Frag
  G : GT

mutual
inductive RelW (g : Gx) (ρ : List Addr) (H : Hp) : W → V → Prop
  | non : RelW g ρ H .non .non
  | bl (b : Bool) : RelW g ρ H (.bl b) (.bl b)
  | int (i : Int) : RelW g ρ H (.int i) (.int i)
  | str (s : Str) : RelW g ρ H (.str s) (.str s)
  | byt (s : Array UInt8) : RelW g ρ H (.byt s) (.byt s)
  | flt (s : UInt64) : RelW g ρ H (.flt s) (.flt s)
  | ty (s : String) : RelW g ρ H (.ty s) (.ty s)
  | glob {i : Nat} {a : Addr} : g.G.gl[i]? = some a → RelW g ρ H (.glob i) (.ref a)
  | ref {i : Nat} {a : Addr} : ρ[i]? = some a → RelW g ρ H (.ref i) (.ref a)
  | tup {ws : List W} {a : Addr} {vs : List V} : SqT g.K H a vs → RelWs g ρ H ws vs → RelW g ρ H (.tup ws) (.ref a)
inductive RelWs (g : Gx) (ρ : List Addr) (H : Hp) : List W → List V → Prop
  | nil : RelWs g ρ H [] []
  | cons {w : W} {v : V} {ws : List W} {vs : List V} : RelW g ρ H w v → RelWs g ρ H ws vs → RelWs g ρ H (w :: ws) (v :: vs)
end

/-- the state went on: objects only come, tuples and read-only things stay -/
structure Ext (g : Gx) (ρ : List Addr) (H : Hp) (ρ' : List Addr) (H' : Hp) : Prop where
  pre : ∀ (i : Nat) (a : Addr), ρ[i]? = some a → ρ'[i]? = some a
  tup : ∀ (a : Addr) (vs : List V), SqT g.K H a vs → SqT g.K H' a vs
theorem Ext.refl {g ρ H} : Ext g ρ H ρ H := ⟨fun _ _ h => h, fun _ _ h => h⟩
theorem Ext.trans {g ρ H ρ1 H1 ρ2 H2} (a : Ext g ρ H ρ1 H1) (b : Ext g ρ1 H1 ρ2 H2) : Ext g ρ H ρ2 H2 := ⟨fun i x h => b.pre i x (a.pre i x h), fun x v h => b.tup x v (a.tup x v h)⟩
mutual
theorem RelW.ext {g ρ H ρ' H'} (x : Ext g ρ H ρ' H') : ∀ {w : W} {v : V}, RelW g ρ H w v → RelW g ρ' H' w v
  | _, _, .non => .non
  | _, _, .bl b => .bl b
  | _, _, .int i => .int i
  | _, _, .str s => .str s
  | _, _, .byt s => .byt s
  | _, _, .flt s => .flt s
  | _, _, .ty s => .ty s
  | _, _, .glob e => .glob e
  | _, _, .ref e => .ref (x.pre _ _ e)
  | _, _, .tup s r => .tup (x.tup _ _ s) (RelWs.ext x r)
theorem RelWs.ext {g ρ H ρ' H'} (x : Ext g ρ H ρ' H') : ∀ {w : List W} {v : List V}, RelWs g ρ H w v → RelWs g ρ' H' w v
  | _, _, .nil => .nil
  | _, _, .cons r t => .cons (RelW.ext x r) (RelWs.ext x t)
end
section
variable {g : Gx} {ρ : List Addr} {H : Hp}
theorem RelWs.length : ∀ {ws : List W} {vs : List V}, RelWs g ρ H ws vs → ws.length = vs.length
  | _, _, .nil => rfl
  | _, _, .cons _ t => congrArg (· + 1) t.length
theorem RelWs.get : ∀ {ws : List W} {vs : List V} {i : Nat} {w : W}, RelWs g ρ H ws vs → ws[i]? = some w → ∃ v, vs[i]? = some v ∧ RelW g ρ H w v
  | _, _, _, _, .nil, e => by simp at e
  | _, _, 0, _, .cons r _, e => by simp at e; subst e; exact ⟨_, rfl, r⟩
  | _, _, i + 1, w, .cons _ t, e => by
    obtain ⟨u, h1, h2⟩ := RelWs.get (i := i) (w := w) t (by simpa using e)
    exact ⟨u, by simpa using h1, h2⟩
theorem RelWs.append : ∀ {xs ys : List W} {us vs : List V}, RelWs g ρ H xs us → RelWs g ρ H ys vs → RelWs g ρ H (xs ++ ys) (us ++ vs)
  | _, _, _, _, .nil, s => s
  | _, _, _, _, .cons r t, s => .cons r (RelWs.append t s)
theorem RelWs.set {x : W} {u : V} (r : RelW g ρ H x u) : ∀ {xs : List W} {us : List V} (i : Nat), RelWs g ρ H xs us → RelWs g ρ H (xs.set i x) (us.set i u)
  | _, _, _, .nil => .nil
  | _, _, 0, .cons _ t => .cons r t
  | _, _, i + 1, .cons q t => .cons q (RelWs.set r i t)
theorem RelWs.take : ∀ {xs : List W} {us : List V} (n : Nat), RelWs g ρ H xs us → RelWs g ρ H (xs.take n) (us.take n)
  | _, _, 0, _ => .nil
  | _, _, _ + 1, .nil => .nil
  | _, _, n + 1, .cons r t => .cons r (RelWs.take n t)
theorem RelWs.drop : ∀ {xs : List W} {us : List V} (n : Nat), RelWs g ρ H xs us → RelWs g ρ H (xs.drop n) (us.drop n)
  | _, _, 0, r => r
  | _, _, _ + 1, .nil => .nil
  | _, _, n + 1, .cons _ t => RelWs.drop n t
theorem RelWs.reverse : ∀ {xs : List W} {us : List V}, RelWs g ρ H xs us → RelWs g ρ H xs.reverse us.reverse
  | _, _, .nil => .nil
  | _, _, .cons r t => by rw [List.reverse_cons, List.reverse_cons]; exact (RelWs.reverse t).append (.cons r .nil)
end

/-- fields -/
inductive RelF (g : Gx) (ρ : List Addr) (H : Hp) : List (Str × W) → List (Str × V) → Prop
  | nil : RelF g ρ H [] []
  | cons {f : Str} {w : W} {v : V} {ws : List (Str × W)} {vs : List (Str × V)} : RelW g ρ H w v → RelF g ρ H ws vs → RelF g ρ H ((f, w) :: ws) ((f, v) :: vs)
theorem RelF.ext {g ρ H ρ' H'} (x : Ext g ρ H ρ' H') : ∀ {w : List (Str × W)} {v : List (Str × V)}, RelF g ρ H w v → RelF g ρ' H' w v
  | _, _, .nil => .nil
  | _, _, .cons r t => .cons (r.ext x) (RelF.ext x t)
theorem RelF.length {g ρ H} : ∀ {ws : List (Str × W)} {vs : List (Str × V)}, RelF g ρ H ws vs → ws.length = vs.length
  | _, _, .nil => rfl
  | _, _, .cons _ t => congrArg (· + 1) t.length

/-- a list that is only read: known to the object, or the text's own -/
def FroAt (K : PySem.W.Frag) (H : Hp) (a : Addr) (vs : List V) : Prop :=
  (∃ o, H a = some (.frz o (.lst vs))) ∨ ∃ (o : Obj) (its : Array Value) (n : Nat), K.lookup a = some o ∧ o.cls = .type "list" ∧ o.dict = none ∧ o.data = .seq its n ∧ its.size ≤ sizeLine ∧ Vals vs its.toList
theorem FroAt.sq {K : PySem.W.Frag} {H : Hp} {a : Addr} {vs : List V} (h : FroAt K H a vs) : SqL K H a vs := by
  rcases h with ⟨o, h⟩ | h
  · exact .inl (.inr ⟨o, h⟩)
  · exact .inr h
inductive ORel (g : Gx) (ρ : List Addr) (H : Hp) (a : Addr) : AO → Prop
  | lst {ws : List W} {vs : List V} : H a = some (.lst vs) → RelWs g ρ H ws vs → ORel g ρ H a (.lst ws)
  | fro {ws : List W} {vs : List V} : FroAt g.K H a vs → RelWs g ρ H ws vs → ORel g ρ H a (.fro ws)
  | ins {c : Nat} {C dx : Addr} {ws : List (Str × W)} {vs : List (Str × V)} : g.G.gl[c]? = some C → H a = some (.ins C dx vs) → RelF g ρ H ws vs → ORel g ρ H a (.ins c ws)

def isFro : Option AO → Prop
  | some (.fro _) => True
  | _ => False
structure HS (g : Gx) (ρ : List Addr) (h : AH) (H : Hp) : Prop where
  len : ρ.length = h.length
  nd : ∀ (n m : Nat) (a : Addr), n ≠ m → ρ[n]? = some a → ρ[m]? = some a → isFro h[n]? ∨ isFro h[m]?
  obj : ∀ (n : Nat) (a : Addr) (o : AO), ρ[n]? = some a → h[n]? = some o → ORel g ρ H a o
  tb : ∀ q ∈ g.G.tb, ∃ ps, H q.2 = some (.tbl ps) ∧ TriplesOk ps.toList
theorem HS.at {g ρ h H} (S : HS g ρ h H) {n : Nat} {a : Addr} {o : AO} (e : h[n]? = some o) (r : ρ[n]? = some a) : ORel g ρ H a o := S.obj n a o r e
theorem HS.of_ref {g ρ h H} (S : HS g ρ h H) {n : Nat} {v : V} {o : AO} (e : h[n]? = some o) (r : RelW g ρ H (.ref n) v) : ∃ a, v = .ref a ∧ ρ[n]? = some a ∧ ORel g ρ H a o := by
  cases r with | ref q => exact ⟨_, rfl, q, S.obj _ _ _ q e⟩

/-- the list at n, written or only read -/
def listAt (h : AH) (n : Nat) : Option (List W) := match h[n]? with
  | some (.lst xs) => some xs
  | some (.fro xs) => some xs
  | _ => none
theorem HS.list {g ρ h H} (S : HS g ρ h H) {n : Nat} {xs : List W} {v : V} (e : listAt h n = some xs) (r : RelW g ρ H (.ref n) v) : ∃ a vs, v = .ref a ∧ SqL g.K H a vs ∧ RelWs g ρ H xs vs := by
  unfold listAt at e
  split at e
  · rename_i q; cases e
    obtain ⟨a, rfl, _, o⟩ := S.of_ref q r
    cases o with | lst h1 h2 => exact ⟨a, _, rfl, SqL.of h1, h2⟩
  · rename_i q; cases e
    obtain ⟨a, rfl, _, o⟩ := S.of_ref q r
    cases o with | fro h1 h2 => exact ⟨a, _, rfl, h1.sq, h2⟩
  · cases e

theorem ORel.ext {g ρ H ρ' H' a o} (x : Ext g ρ H ρ' H') (e : H' a = H a) (r : ORel g ρ H a o) : ORel g ρ' H' a o := by
  cases r with
  | lst h1 h2 => exact .lst (e.trans h1) (h2.ext x)
  | fro h1 h2 =>
    refine .fro ?_ (h2.ext x)
    rcases h1 with ⟨o, h1⟩ | h1
    · exact .inl ⟨o, e.trans h1⟩
    · exact .inr h1
  | ins h1 h2 h3 => exact .ins h1 (e.trans h2) (h3.ext x)
theorem sqT_upd {K : PySem.W.Frag} {H : Hp} {p b : Addr} {o : HO} {vs : List V} (hn : ∀ xs, H p ≠ some (.tup xs)) (hf : ∀ ob xs, H p ≠ some (.frz ob (.tup xs))) (h : SqT K H b vs) : SqT K (upd H p o) b vs := by
  rcases h with (h | ⟨ob, h⟩) | h
  · exact .inl (.inl (by rw [upd_ne (fun z => hn vs (by rw [← z]; exact h))]; exact h))
  · exact .inl (.inr ⟨ob, by rw [upd_ne (fun z => hf ob vs (by rw [← z]; exact h))]; exact h⟩)
  · exact .inr h

/-- a new tracked object, no part of ρ (a tuple) -/
theorem ext_new {g : Gx} {ρ : List Addr} {H : Hp} {p : Addr} {o : HO} (hp : H p = none) : Ext g ρ H ρ (upd H p o) :=
  ⟨fun _ _ h => h, fun _ _ h => sqT_upd (fun _ q => by rw [hp] at q; cases q) (fun _ _ q => by rw [hp] at q; cases q) h⟩

/-- at p nothing that is known stands -/
theorem HS.laid {g : Gx} {ρ : List Addr} {h : AH} {H : Hp} (S : HS g ρ h H) {p : Addr} {o : HO} (hp : H p = none) : HS g ρ h (upd H p o) := by
  refine ⟨S.len, S.nd, fun n a ob e1 e2 => ?_, fun q hq => (S.tb q hq).imp fun ps z => ⟨by rw [upd_ne (ne_of_none z.1 hp)]; exact z.1, z.2⟩⟩
  have x : Ext g ρ H ρ (upd H p o) := ext_new hp
  have r := S.obj n a ob e1 e2
  by_cases ha : a = p
  · subst ha
    cases r with
    | lst h1 _ => rw [hp] at h1; cases h1
    | fro h1 h2 =>
      rcases h1 with ⟨_, h1⟩ | h1
      · rw [hp] at h1; cases h1
      · exact .fro (.inr h1) (h2.ext x)
    | ins _ h2 _ => rw [hp] at h2; cases h2
  · exact r.ext x (upd_ne ha)
/-- a new object goes behind the others -/
theorem ext_push {g : Gx} {ρ : List Addr} {H : Hp} {p : Addr} {o : HO} (hp : H p = none) : Ext g ρ H (ρ ++ [p]) (upd H p o) :=
  ⟨fun i a h => by rw [List.getElem?_append_left ((List.getElem?_eq_some_iff.mp h).1)]; exact h, (ext_new (g := g) (ρ := ρ) hp).tup⟩
theorem HS.push {g : Gx} {ρ : List Addr} {h : AH} {H : Hp} (S : HS g ρ h H) {p : Addr} {o : HO} {ao : AO} (hp : H p = none) (r : ORel g (ρ ++ [p]) (upd H p o) p ao) (hf : ∀ xs, ao ≠ .fro xs) : HS g (ρ ++ [p]) (h ++ [ao]) (upd H p o) := by
  have x : Ext g ρ (upd H p o) (ρ ++ [p]) (upd H p o) := ⟨(ext_push (g := g) (o := o) hp).pre, fun _ _ z => z⟩
  have S' := S.laid (o := o) hp
  have old : ∀ (n : Nat) (a : Addr), (ρ ++ [p])[n]? = some a → (n < h.length ∧ ρ[n]? = some a) ∨ (n = h.length ∧ a = p) := fun n a e => by
    by_cases hn : n < ρ.length
    · rw [List.getElem?_append_left hn] at e
      exact .inl ⟨by rw [← S.len]; exact hn, e⟩
    · have hl : n < (ρ ++ [p]).length := (List.getElem?_eq_some_iff.mp e).1
      rw [List.length_append, List.length_singleton] at hl
      have : n = ρ.length := by omega
      subst this
      rw [List.getElem?_append_right (Nat.le_refl _)] at e
      simp at e
      exact .inr ⟨S.len, e.symm⟩
  refine ⟨by simp [S.len], fun n m a hnm e1 e2 => ?_, fun n a ob e1 e2 => ?_, S'.tb⟩
  · rcases old n a e1 with ⟨n1, n2⟩ | ⟨n1, n2⟩ <;> rcases old m a e2 with ⟨m1, m2⟩ | ⟨m1, m2⟩
    · rw [List.getElem?_append_left n1, List.getElem?_append_left m1]; exact S.nd n m a hnm n2 m2
    · left
      rw [List.getElem?_append_left n1]
      subst m2
      have q : n < h.length := n1
      have r' := S.obj n a h[n] n2 (by simp [q])
      have e : h[n]? = some h[n] := by simp [q]
      rw [e]
      cases hq : h[n] with
      | lst xs => rw [hq] at r'; cases r' with | lst z _ => rw [hp] at z; cases z
      | fro xs => trivial
      | ins c fs => rw [hq] at r'; cases r' with | ins _ z _ => rw [hp] at z; cases z
    · right
      rw [List.getElem?_append_left m1]
      subst n2
      have q : m < h.length := m1
      have r' := S.obj m a h[m] m2 (by simp [q])
      have e : h[m]? = some h[m] := by simp [q]
      rw [e]
      cases hq : h[m] with
      | lst xs => rw [hq] at r'; cases r' with | lst z _ => rw [hp] at z; cases z
      | fro xs => trivial
      | ins c fs => rw [hq] at r'; cases r' with | ins _ z _ => rw [hp] at z; cases z
    · exact absurd (n1.trans m1.symm) hnm
  · rcases old n a e1 with ⟨n1, n2⟩ | ⟨n1, n2⟩
    · rw [List.getElem?_append_left n1] at e2
      exact (S'.obj n a ob n2 e2).ext x rfl
    · subst n1; subst n2
      simp at e2; subst e2; exact r
/-- the object with the number n is written -/
theorem HS.write {g : Gx} {ρ : List Addr} {h : AH} {H : Hp} (S : HS g ρ h H) {n : Nat} {a : Addr} {o : AO} {u u' : HO} {o' : AO} (hn : ρ[n]? = some a) (ho : h[n]? = some o) (hnf : ¬ isFro (some o)) (hu : H a = some u)
    (h1 : ∀ xs, u ≠ .tup xs) (h2 : ∀ ob xs, u ≠ .frz ob xs) (r : ORel g ρ (upd H a u') a o') (hnf' : ∀ xs, o' ≠ .fro xs) : HS g ρ (h.set n o') (upd H a u') ∧ Ext g ρ H ρ (upd H a u') := by
  have x : Ext g ρ H ρ (upd H a u') := ⟨fun _ _ z => z, fun b vs z => sqT_upd (fun xs q => h1 xs (by rw [hu] at q; exact Option.some.inj q)) (fun ob xs q => h2 ob _ (by rw [hu] at q; exact Option.some.inj q)) z⟩
  refine ⟨⟨by simp [S.len], fun k m b hkm e1 e2 => ?_, fun k b ob e1 e2 => ?_, fun q hq => ?_⟩, x⟩
  rotate_left 2
  · obtain ⟨ps, z1, z2⟩ := S.tb q hq
    have ne : q.2 ≠ a := fun z => by
      rw [z] at z1
      cases S.obj n a o hn ho with
      | lst y _ => rw [z1] at y; cases y
      | fro _ _ => exact hnf trivial
      | ins _ y _ => rw [z1] at y; cases y
    exact ⟨ps, by rw [upd_ne ne]; exact z1, z2⟩
  · by_cases k1 : k = n
    · subst k1
      have q : b = a := by rw [hn] at e1; exact (Option.some.inj e1).symm
      subst q
      rcases S.nd k m b hkm e1 e2 with z | z
      · rw [ho] at z; exact absurd z hnf
      · right; rw [List.getElem?_set_ne hkm]; exact z
    · by_cases m1 : m = n
      · subst m1
        have q : b = a := by rw [hn] at e2; exact (Option.some.inj e2).symm
        subst q
        rcases S.nd k m b hkm e1 e2 with z | z
        · left; rw [List.getElem?_set_ne (Ne.symm k1)]; exact z
        · rw [ho] at z; exact absurd z hnf
      · rw [List.getElem?_set_ne (Ne.symm k1), List.getElem?_set_ne (Ne.symm m1)]; exact S.nd k m b hkm e1 e2
  · by_cases k1 : k = n
    · subst k1
      have q : b = a := by rw [hn] at e1; exact (Option.some.inj e1).symm
      subst q
      rw [List.getElem?_set_self ((List.getElem?_eq_some_iff.mp ho).1)] at e2
      cases e2; exact r
    · rw [List.getElem?_set_ne (Ne.symm k1)] at e2
      have r' := S.obj k b ob e1 e2
      by_cases hb : b = a
      · subst hb
        rcases S.nd k n b k1 e1 hn with z | z
        · rw [e2] at z
          cases r' with
          | lst _ _ => exact absurd z (by intro q; exact q)
          | fro f1 f2 =>
            rcases f1 with ⟨o2, f1⟩ | f1
            · rw [hu] at f1; exact absurd (Option.some.inj f1) (h2 _ _)
            · exact .fro (.inr f1) (f2.ext x)
          | ins _ _ _ => exact absurd z (by intro q; exact q)
        · rw [ho] at z; exact absurd z hnf
      · exact r'.ext x (upd_ne hb)
end Z
set_option Elab.async false
set_option linter.all false
set_option maxRecDepth 100000
set_option maxHeartbeats 4000000
namespace Z
open PySem PySem.Spec PyProof.Rows L2

/-! ### locals -/
structure LR (g : Gx) (ρ : List Addr) (H : Hp) (σ : SW) (τ : L2.St) : Prop where
  len : σ.length = τ.length
  get : ∀ (i : Nat) (w : W), σ[i]? = some (some w) → ∃ v, τ[i]? = some (some v) ∧ RelW g ρ H w v
theorem LR.ext {g : Gx} {ρ ρ' : List Addr} {H H' : Hp} {σ : SW} {τ : L2.St} (l : LR g ρ H σ τ) (x : Ext g ρ H ρ' H') : LR g ρ' H' σ τ :=
  ⟨l.len, fun i w e => let ⟨v, h1, h2⟩ := l.get i w e; ⟨v, h1, h2.ext x⟩⟩
theorem LR.set {g : Gx} {ρ : List Addr} {H : Hp} {σ : SW} {τ : L2.St} (l : LR g ρ H σ τ) (i : Nat) {w : W} {v : V} (r : RelW g ρ H w v) : LR g ρ H (σ.set i (some w)) (τ.set i (some v)) := by
  refine ⟨by simp [l.len], fun j u e => ?_⟩
  by_cases hj : j = i
  · subst hj
    have hl : j < (σ.set j (some w)).length := (List.getElem?_eq_some_iff.mp e).1
    rw [List.length_set] at hl
    rw [List.getElem?_set_self hl] at e
    cases e
    exact ⟨v, List.getElem?_set_self (by rw [← l.len]; exact hl), r⟩
  · rw [List.getElem?_set_ne (Ne.symm hj)] at e ⊢
    exact l.get j u e
theorem LR.setNone {g : Gx} {ρ : List Addr} {H : Hp} {σ : SW} {τ : L2.St} (l : LR g ρ H σ τ) (i : Nat) : LR g ρ H (σ.set i none) (τ.set i none) := by
  refine ⟨by simp [l.len], fun j u e => ?_⟩
  by_cases hj : j = i
  · subst hj
    have hl : j < (σ.set j none).length := (List.getElem?_eq_some_iff.mp e).1
    rw [List.length_set] at hl
    rw [List.getElem?_set_self hl] at e
    cases e
  · rw [List.getElem?_set_ne (Ne.symm hj)] at e ⊢
    exact l.get j u e

/-! ### what is wanted of a result -/
/-- an exception's way out (none yet: an exception is no end) -/
def XO (X : Cx) (G : GT) (ρ : List Addr) (H : Hp) (c : Nat) (h : AH) : Prop := False
def Gd {α : Type} (X : Cx) (G : GT) (ρ : List Addr) (H : Hp) (r : Res α) (P : α → AH → List Addr → Hp → Prop) : Prop :=
  match r with
  | .ok a h' => ∀ ρ' H', Ext ⟨X.K, G⟩ ρ H ρ' H' → HS ⟨X.K, G⟩ ρ' h' H' → P a h' ρ' H'
  | .exc c h' => XO X G ρ H c h'
  | .bad => False
section
variable {X : Cx} {G : GT} {ρ ρ1 : List Addr} {H H1 : Hp} {h : AH} {α β : Type} {r : Res α} {P P' : α → AH → List Addr → Hp → Prop}
theorem XO.ext {c : Nat} {h : AH} (q : XO X G ρ H c h) (x : Ext ⟨X.K, G⟩ ρ H ρ1 H1) : XO X G ρ1 H1 c h := q
theorem Gd.ext (q : Gd X G ρ H r P) (x : Ext ⟨X.K, G⟩ ρ H ρ1 H1) : Gd X G ρ1 H1 r P := by
  cases r with
  | ok a h' => exact fun ρ' H' y s => q ρ' H' (x.trans y) s
  | exc c h' => exact XO.ext (c := c) (h := h') q x
  | bad => exact q
theorem Gd.mono (q : Gd X G ρ H r P) (k : ∀ a h' ρ' H', Ext ⟨X.K, G⟩ ρ H ρ' H' → HS ⟨X.K, G⟩ ρ' h' H' → P a h' ρ' H' → P' a h' ρ' H') : Gd X G ρ H r P' := by
  cases r with
  | ok a h' => exact fun ρ' H' y s => k a h' ρ' H' y s (q ρ' H' y s)
  | exc c h' => exact q
  | bad => exact q
theorem Gd.bind {f : α → AH → Res β} {R : β → AH → List Addr → Hp → Prop} (q : Gd X G ρ H (r.bind f) R) : Gd X G ρ H r (fun a h' ρ' H' => Gd X G ρ' H' (f a h') R) := by
  cases r with
  | ok a h' => exact fun ρ' H' y s => Gd.ext q y
  | exc c h' => exact q
  | bad => exact q
end

abbrev XE := SW → AH → Res W
abbrev XT := SW → AH → Res Bool
abbrev XA := SW → AH → Res (List W)
inductive Fl where
  | nx (σ : SW) | bk (σ : SW) | ct (σ : SW) | rt (w : W)
abbrev XS := SW → AH → Res Fl

section
variable (X : Cx) (G : GT)
def tE (f : XE) : TE := fun τ H Q => ∃ ρ σ h, HS ⟨X.K, G⟩ ρ h H ∧ LR ⟨X.K, G⟩ ρ H σ τ ∧ Gd X G ρ H (f σ h) fun w _ ρ' H' => ∀ v, RelW ⟨X.K, G⟩ ρ' H' w v → Q v H'
def tT (f : XT) : TT := fun τ H Q => ∃ ρ σ h, HS ⟨X.K, G⟩ ρ h H ∧ LR ⟨X.K, G⟩ ρ H σ τ ∧ Gd X G ρ H (f σ h) fun b _ ρ' H' => Q b H'
def tAs (f : XA) : TA := fun τ H Q => ∃ ρ σ h, HS ⟨X.K, G⟩ ρ h H ∧ LR ⟨X.K, G⟩ ρ H σ τ ∧ Gd X G ρ H (f σ h) fun ws _ ρ' H' => ∀ vs, RelWs ⟨X.K, G⟩ ρ' H' ws vs → Q vs H'
def FlOk (D : Ends) (ρ' : List Addr) (H' : Hp) : Fl → Prop
  | .nx σ' => ∀ τ', LR ⟨X.K, G⟩ ρ' H' σ' τ' → D.nx τ' H'
  | .bk σ' => ∀ τ', LR ⟨X.K, G⟩ ρ' H' σ' τ' → D.bk τ' H'
  | .ct σ' => ∀ τ', LR ⟨X.K, G⟩ ρ' H' σ' τ' → D.ct τ' H'
  | .rt w => ∀ v, RelW ⟨X.K, G⟩ ρ' H' w v → D.rt v H'
def tSt (f : XS) : TS := fun D τ H => ∃ ρ σ h, HS ⟨X.K, G⟩ ρ h H ∧ LR ⟨X.K, G⟩ ρ H σ τ ∧ Gd X G ρ H (f σ h) fun fl _ ρ' H' => FlOk X G D ρ' H' fl
/-- the judgements: e is read by f -/
structure SE (e : Expr) (f : XE) : Prop where
  p : PE X e (tE X G f)
structure ST (e : Expr) (f : XT) : Prop where
  p : PT X e (tT X G f)
structure SW' (e : Expr) (f : XT) : Prop where
  p : PW X e (tT X G f)
structure SA (es : List Expr) (f : XA) : Prop where
  p : PA X es (tAs X G f)
structure SS (st : Stmt) (f : XS) : Prop where
  p : PS X st (tSt X G f)
structure SB (st : List Stmt) (f : XS) : Prop where
  p : PSs X st (tSt X G f)
end
section
variable {X : Cx} {G : GT}
theorem PE.mono {e : Expr} {t t' : TE} (h : PE X e t) (k : ∀ τ H Q, t' τ H Q → t τ H Q) : PE X e t' := fun pins s σ H Q I q => h pins s σ H Q I (k _ _ _ q)
theorem PT.mono {e : Expr} {t t' : TT} (h : PT X e t) (k : ∀ τ H Q, t' τ H Q → t τ H Q) : PT X e t' := fun pins s σ H Q I q => h pins s σ H Q I (k _ _ _ q)
theorem PW.mono {e : Expr} {t t' : TT} (h : PW X e t) (k : ∀ τ H Q, t' τ H Q → t τ H Q) : PW X e t' := fun wh pins s σ H Q I q => h wh pins s σ H Q I (k _ _ _ q)
theorem PA.mono {e : List Expr} {t t' : TA} (h : PA X e t) (k : ∀ τ H Q, t' τ H Q → t τ H Q) : PA X e t' := fun pos pins s σ H Q I q => h pos pins s σ H Q I (k _ _ _ q)
theorem PS.mono {e : Stmt} {t t' : TS} (h : PS X e t) (k : ∀ D τ H, t' D τ H → t D τ H) : PS X e t' := fun pins s σ H D I q => h pins s σ H D I (k _ _ _ q)
theorem PSs.mono {e : List Stmt} {t t' : TS} (h : PSs X e t) (k : ∀ D τ H, t' D τ H → t D τ H) : PSs X e t' := fun pins s σ H D I q => h pins s σ H D I (k _ _ _ q)
theorem OpR.mono {f : Value → Value → Sem Value} {r r' : R2} (h : OpR X f r) (k : ∀ x y H Q, r' x y H Q → r x y H Q) : OpR X f r' := fun pins s σ H x y v u Q I rx ry q => h pins s σ H x y v u Q I rx ry (k _ _ _ _ q)
theorem OpR.or {f : Value → Value → Sem Value} {r r' : R2} (h : OpR X f r) (h' : OpR X f r') : OpR X f (fun x y H Q => r x y H Q ∨ r' x y H Q) := fun pins s σ H x y v u Q I rx ry q => by
  rcases q with q | q
  · exact h pins s σ H x y v u Q I rx ry q
  · exact h' pins s σ H x y v u Q I rx ry q
theorem IxR.mono {r r' : R2} (h : IxR X r) (k : ∀ x y H Q, r' x y H Q → r x y H Q) : IxR X r' := fun a b pins s σ H x y v u Q I rx ry q e => h a b pins s σ H x y v u Q I rx ry (k _ _ _ _ q) e
theorem CallR.mono {f : Value} {r r' : List V → Hp → VK → Prop} (h : CallR X f r) (k : ∀ x H Q, r' x H Q → r x H Q) : CallR X f r' := fun pins s σ H x v Q I rx q => h pins s σ H x v Q I rx (k _ _ _ q)
theorem CallR.or {f : Value} {r r' : List V → Hp → VK → Prop} (h : CallR X f r) (h' : CallR X f r') : CallR X f (fun x H Q => r x H Q ∨ r' x H Q) := fun pins s σ H x v Q I rx q => by
  rcases q with q | q
  · exact h pins s σ H x v Q I rx q
  · exact h' pins s σ H x v Q I rx q

/-! ### expressions: names, constants -/
def xVar (i : Nat) : XE := fun σ h => match σ[i]? with
  | some (some w) => .ok w h
  | _ => .bad
def xC (w : W) : XE := fun _ h => .ok w h
theorem tVar_of {i : Nat} {τ : L2.St} {H : Hp} {Q : VK} (q : tE X G (xVar i) τ H Q) : tVar i τ H Q := by
  obtain ⟨ρ, σ, h, S, L, q⟩ := q
  unfold xVar at q
  split at q
  · rename_i w e
    obtain ⟨v, e1, r⟩ := L.get i w e
    exact ⟨v, e1, q ρ H .refl S v r⟩
  · exact q.elim
theorem se_var (i : Nat) {x : Str} {pos : Pos} (hN : X.N[i]? = some x := by rfl) (hv : Vis X.env.scope x := by first | exact Or.inl rfl | exact Or.inr (Or.inl rfl) | exact Or.inr (Or.inr rfl)) (hd : (x == ("__debug__" : Str)) = false := by decide)
    (hcd : (x == ("__classdict__" : Str)) = false := by decide) : SE X G (.Name x pos) (xVar i) := .mk <| PE.mono (pe_var hN hv hd hcd) fun _ _ _ q => tVar_of q
theorem tC_of {w : W} {v : V} (r : ∀ ρ H, RelW ⟨X.K, G⟩ ρ H w v) {τ : L2.St} {H : Hp} {Q : VK} (q : tE X G (xC w) τ H Q) : tC v τ H Q := by
  obtain ⟨ρ, σ, h, S, L, q⟩ := q
  exact q ρ H .refl S v (r ρ H)
theorem se_int {i j pos} : SE X G (.Constant (.int i) j pos) (xC (.int i)) := .mk <| PE.mono pe_int fun _ _ _ q => tC_of (fun _ _ => .int i) q
theorem se_bl {b j pos} : SE X G (.Constant (.bool b) j pos) (xC (.bl b)) := .mk <| PE.mono pe_bl fun _ _ _ q => tC_of (fun _ _ => .bl b) q
theorem se_non {j pos} : SE X G (.Constant .none j pos) (xC .non) := .mk <| PE.mono pe_non fun _ _ _ q => tC_of (fun _ _ => .non) q
theorem se_str {x j pos} : SE X G (.Constant (.str x) j pos) (xC (.str x)) := .mk <| PE.mono pe_str fun _ _ _ q => tC_of (fun _ _ => .str x) q
/-- a module's name whose value is plain -/
theorem se_glob {x : Str} {w : W} {v : V} {u : Value} {pos : Pos} (hg : Gl X x) (hm : X.mg x = some u) (r : RelV v u) (rw' : ∀ ρ H, RelW ⟨X.K, G⟩ ρ H w v) (hd : (x == ("__debug__" : Str)) = false := by decide) : SE X G (.Name x pos) (xC w) :=
  .mk <| PE.mono (pe_glob hg hm r hd) fun _ _ _ q => tC_of rw' q

/-! ### two in a row -/
theorem seq_E {f : XE} {α : Type} {k : W → AH → Res α} {τ : L2.St} {H : Hp} {P : α → AH → List Addr → Hp → Prop} {Q : VK} {ρ : List Addr} {σ : SW} {h : AH} (S : HS ⟨X.K, G⟩ ρ h H) (L : LR ⟨X.K, G⟩ ρ H σ τ)
    (q : Gd X G ρ H ((f σ h).bind k) P) (n : ∀ w h' ρ' H' v, HS ⟨X.K, G⟩ ρ' h' H' → LR ⟨X.K, G⟩ ρ' H' σ τ → Ext ⟨X.K, G⟩ ρ H ρ' H' → RelW ⟨X.K, G⟩ ρ' H' w v → Gd X G ρ' H' (k w h') P → Q v H') : tE X G f τ H Q :=
  ⟨ρ, σ, h, S, L, (Gd.bind q).mono fun w h' ρ' H' x s g v r => n w h' ρ' H' v s (L.ext x) x r g⟩
theorem seq_T {f : XT} {α : Type} {k : Bool → AH → Res α} {τ : L2.St} {H : Hp} {P : α → AH → List Addr → Hp → Prop} {Q : Bool → Hp → Prop} {ρ : List Addr} {σ : SW} {h : AH} (S : HS ⟨X.K, G⟩ ρ h H) (L : LR ⟨X.K, G⟩ ρ H σ τ)
    (q : Gd X G ρ H ((f σ h).bind k) P) (n : ∀ w h' ρ' H', HS ⟨X.K, G⟩ ρ' h' H' → LR ⟨X.K, G⟩ ρ' H' σ τ → Ext ⟨X.K, G⟩ ρ H ρ' H' → Gd X G ρ' H' (k w h') P → Q w H') : tT X G f τ H Q :=
  ⟨ρ, σ, h, S, L, (Gd.bind q).mono fun w h' ρ' H' x s g => n w h' ρ' H' s (L.ext x) x g⟩
theorem seq_A {f : XA} {α : Type} {k : List W → AH → Res α} {τ : L2.St} {H : Hp} {P : α → AH → List Addr → Hp → Prop} {Q : List V → Hp → Prop} {ρ : List Addr} {σ : SW} {h : AH} (S : HS ⟨X.K, G⟩ ρ h H) (L : LR ⟨X.K, G⟩ ρ H σ τ)
    (q : Gd X G ρ H ((f σ h).bind k) P) (n : ∀ w h' ρ' H' v, HS ⟨X.K, G⟩ ρ' h' H' → LR ⟨X.K, G⟩ ρ' H' σ τ → Ext ⟨X.K, G⟩ ρ H ρ' H' → RelWs ⟨X.K, G⟩ ρ' H' w v → Gd X G ρ' H' (k w h') P → Q v H') : tAs X G f τ H Q :=
  ⟨ρ, σ, h, S, L, (Gd.bind q).mono fun w h' ρ' H' x s g v r => n w h' ρ' H' v s (L.ext x) x r g⟩

/-! ### operations on two values -/
abbrev O2 := W → W → AH → Res W
def rOf (X : Cx) (G : GT) (r : O2) : R2 := fun x y H Q => ∃ ρ a b h, HS ⟨X.K, G⟩ ρ h H ∧ RelW ⟨X.K, G⟩ ρ H a x ∧ RelW ⟨X.K, G⟩ ρ H b y ∧ Gd X G ρ H (r a b h) fun w _ ρ' H' => ∀ v, RelW ⟨X.K, G⟩ ρ' H' w v → Q v H'
structure OpS (X : Cx) (G : GT) (f : Value → Value → Sem Value) (r : O2) : Prop where
  p : OpR X f (rOf X G r)
def xOp (r : O2) (a b : XE) : XE := fun σ h => (a σ h).bind fun x h1 => (b σ h1).bind fun y h2 => r x y h2
theorem tOp_of {r : O2} {fa fb : XE} {τ : L2.St} {H : Hp} {Q : VK} (q : tE X G (xOp r fa fb) τ H Q) : tOp (rOf X G r) (tE X G fa) (tE X G fb) τ H Q := by
  obtain ⟨ρ, σ, h, S, L, q⟩ := q
  refine seq_E S L q fun x h1 ρ1 H1 v S1 L1 x1 r1 q1 => ?_
  refine seq_E S1 L1 q1 fun y h2 ρ2 H2 u S2 L2 x2 r2 q2 => ?_
  exact ⟨ρ2, x, y, h2, S2, r1.ext x2, r2, q2⟩
variable {a b c : Expr} {fa fb fc : XE} {pos : Pos}
theorem se_op {op : Operator} {r : O2} (ho : OpS X G (binaryOp op) r) (ha : SE X G a fa) (hb : SE X G b fb) : SE X G (.BinOp a op b pos) (xOp r fa fb) := .mk <| PE.mono (pe_op ho.p ha.p hb.p) fun _ _ _ q => tOp_of q
theorem se_cmp {op : CmpOp} {r : O2} (ho : OpS X G (compareOp op) r) (ha : SE X G a fa) (hb : SE X G b fb) (hm : behindInMarks op b = false) : SE X G (.Compare a [op] [b] pos) (xOp r fa fb) := .mk <| PE.mono (pe_cmpR ho.p ha.p hb.p hm) fun _ _ _ q => tOp_of q
/-- a test by a value that is a bool -/
def bT (f : XE) : XT := fun σ h => (f σ h).bind fun x h1 => match x with
  | .bl b => .ok b h1
  | _ => .bad
theorem tTest_of {f : XE} {τ : L2.St} {H : Hp} {Q : Bool → Hp → Prop} (q : tT X G (bT f) τ H Q) : tTest (tE X G f) τ H Q := by
  obtain ⟨ρ, σ, h, S, L, q⟩ := q
  refine seq_E S L q fun x h1 ρ1 H1 v S1 L1 x1 r1 q1 => ?_
  cases x with
  | bl k => cases r1; exact ⟨k, rfl, q1 ρ1 H1 .refl S1⟩
  | _ => exact q1.elim
theorem PTtest {e : Expr} {t t' : TE} (h : PT X e (tTest t)) (k : ∀ τ H Q, t' τ H Q → t τ H Q) : PT X e (tTest t') := PT.mono h fun _ _ _ q => k _ _ _ q
theorem st_cmp {op : CmpOp} {r : O2} (ho : OpS X G (compareOp op) r) (ha : SE X G a fa) (hb : SE X G b fb) (hm : behindInMarks op b = false) : ST X G (.Compare a [op] [b] pos) (bT (xOp r fa fb)) :=
  .mk <| PT.mono (PTtest (pt_cmpR ho.p ha.p hb.p hm) fun _ _ _ q => tOp_of q) fun _ _ _ q => tTest_of q
def xCh (r r' : O2) (a b c : XE) : XE := fun σ h => (a σ h).bind fun x h1 => (b σ h1).bind fun y h2 => (r x y h2).bind fun z h3 => match z with
  | .bl true => (c σ h3).bind fun w h4 => r' y w h4
  | .bl false => .ok (.bl false) h3
  | _ => .bad
theorem tChain_of {r r' : O2} {τ : L2.St} {H : Hp} {Q : VK} (q : tE X G (xCh r r' fa fb fc) τ H Q) : tChain (rOf X G r) (rOf X G r') (tE X G fa) (tE X G fb) (tE X G fc) τ H Q := by
  obtain ⟨ρ, σ, h, S, L, q⟩ := q
  refine seq_E S L q fun x h1 ρ1 H1 v S1 L1 x1 r1 q1 => ?_
  refine seq_E S1 L1 q1 fun y h2 ρ2 H2 u S2 L2 x2 r2 q2 => ?_
  refine ⟨ρ2, x, y, h2, S2, r1.ext x2, r2, (Gd.bind q2).mono fun z h3 ρ3 H3 x3 S3 q3 w rw' => ?_⟩
  cases z with
  | bl k =>
    cases rw'
    refine ⟨k, rfl, ?_⟩
    cases k with
    | true =>
      rw [if_pos rfl]
      refine seq_E S3 (L2.ext x3) q3 fun w' h4 ρ4 H4 v4 S4 L4 x4 r4 q4 => ?_
      exact ⟨ρ4, y, w', h4, S4, (r2.ext x3).ext x4, r4, q4⟩
    | false =>
      rw [if_neg Bool.false_ne_true]
      exact q3 ρ3 H3 .refl S3 _ (.bl false)
  | _ => exact q3.elim
theorem se_chain {op op' : CmpOp} {r r' : O2} (ho : OpS X G (compareOp op) r) (ho' : OpS X G (compareOp op') r') (ha : SE X G a fa) (hb : SE X G b fb) (hc : SE X G c fc) (hm : lastMarks [op, op'] [b, c] = false := by with_unfolding_all rfl) :
    SE X G (.Compare a [op, op'] [b, c] pos) (xCh r r' fa fb fc) := .mk <| PE.mono (pe_chain ho.p ho'.p ha.p hb.p hc.p hm) fun _ _ _ q => tChain_of q
theorem st_chain {op op' : CmpOp} {r r' : O2} (ho : OpS X G (compareOp op) r) (ho' : OpS X G (compareOp op') r') (ha : SE X G a fa) (hb : SE X G b fb) (hc : SE X G c fc) (hm : lastMarks [op, op'] [b, c] = false := by with_unfolding_all rfl) :
    ST X G (.Compare a [op, op'] [b, c] pos) (bT (xCh r r' fa fb fc)) := .mk <| PT.mono (PTtest (pt_chain ho.p ho'.p ha.p hb.p hc.p hm) fun _ _ _ q => tChain_of q) fun _ _ _ q => tTest_of q
/-- is None -/
def xIsN (a : XE) : XE := fun σ h => (a σ h).bind fun x h1 => .ok (.bl (decide (x = .non))) h1
def xNotN (a : XE) : XE := fun σ h => (a σ h).bind fun x h1 => .ok (.bl (!decide (x = .non))) h1
theorem RelW.none_iff {g : Gx} {ρ : List Addr} {H : Hp} {w : W} {v : V} (r : RelW g ρ H w v) : decide (v = .non) = decide (w = .non) := by
  cases r <;> first | rfl | simp
theorem se_isN {j pos'} (ha : SE X G a fa) : SE X G (.Compare a [.Is] [.Constant .none j pos'] pos) (xIsN fa) := .mk <| PE.mono (pe_cmp (pc_isN ha.p)) fun τ H Q q => by
  obtain ⟨ρ, σ, h, S, L, q⟩ := q
  refine seq_E S L q fun x h1 ρ1 H1 v S1 L1 x1 r1 q1 => ?_
  show Q (.bl (decide (v = .non))) H1
  rw [r1.none_iff]
  exact q1 ρ1 H1 .refl S1 _ (.bl _)
/-- any value that is a bool, as a test -/
theorem tB_of {f : XE} {τ : L2.St} {H : Hp} {Q : Bool → Hp → Prop} (q : tT X G (bT f) τ H Q) : tB (tE X G f) τ H Q := tTest_of q
theorem st_val (ha : SE X G a fa) (he : ∀ whole, isTrue a X.env whole = (do let v ← whole; standAt a.pos; holding [v] (truthy v)) := by intro _; rfl) : ST X G a (bT fa) := .mk <| PT.mono (pt_val ha.p he) fun _ _ _ q => tB_of q
theorem st_isN {j pos'} (ha : SE X G a fa) : ST X G (.Compare a [.Is] [.Constant .none j pos'] pos) (bT (xIsN fa)) := .mk <| PT.mono (pt_cmp (pc_isN ha.p)) fun τ H Q q => by
  obtain ⟨ρ, σ, h, S, L, q⟩ := q
  refine seq_E S L (k := fun x h1 => Res.ok (decide (x = .non)) h1) (P := fun b _ _ H' => Q b H') ?_ fun x h1 ρ1 H1 v S1 L1 x1 r1 q1 => ?_
  · unfold bT xIsN at q
    revert q
    cases fa σ h <;> exact fun q => q
  · exact ⟨_, rfl, by rw [r1.none_iff]; exact q1 ρ1 H1 .refl S1⟩
theorem st_notN {j pos'} (ha : SE X G a fa) : ST X G (.Compare a [.IsNot] [.Constant .none j pos'] pos) (bT (xNotN fa)) := .mk <| PT.mono (pt_cmp (pc_notN ha.p)) fun τ H Q q => by
  obtain ⟨ρ, σ, h, S, L, q⟩ := q
  refine seq_E S L (k := fun x h1 => Res.ok (!decide (x = .non)) h1) (P := fun b _ _ H' => Q b H') ?_ fun x h1 ρ1 H1 v S1 L1 x1 r1 q1 => ?_
  · unfold bT xNotN at q
    revert q
    cases fa σ h <;> exact fun q => q
  · exact ⟨_, rfl, by rw [r1.none_iff]; exact q1 ρ1 H1 .refl S1⟩

/-! ### and, or, not -/
variable {tA tB' : XT} {rest : List Expr}
def yAnd (a b : XT) : XT := fun σ h => (a σ h).bind fun c h1 => if c = true then b σ h1 else .ok false h1
def yOr (a b : XT) : XT := fun σ h => (a σ h).bind fun c h1 => if c = true then .ok true h1 else b σ h1
def yNot (a : XT) : XT := fun σ h => (a σ h).bind fun c h1 => .ok (!c) h1
theorem sw_and1 (ha : ST X G a tA) : SW' X G (.BoolOp .And [a] pos) tA := ⟨pw_and1 ha.p⟩
theorem sw_or1 (ha : ST X G a tA) : SW' X G (.BoolOp .Or [a] pos) tA := ⟨pw_or1 ha.p⟩
theorem sw_and (ha : ST X G a tA) (hb : SW' X G (.BoolOp .And (b :: rest) pos) tB') : SW' X G (.BoolOp .And (a :: b :: rest) pos) (yAnd tA tB') := .mk <| PW.mono (pw_and ha.p hb.p) fun τ H Q q => by
  obtain ⟨ρ, σ, h, S, L, q⟩ := q
  refine seq_T S L q fun c h1 ρ1 H1 S1 L1 x1 q1 => ?_
  cases c with
  | true => rw [if_pos rfl] at q1 ⊢; exact ⟨ρ1, σ, h1, S1, L1, q1⟩
  | false => rw [if_neg Bool.false_ne_true] at q1 ⊢; exact q1 ρ1 H1 .refl S1
theorem sw_or (ha : ST X G a tA) (hb : SW' X G (.BoolOp .Or (b :: rest) pos) tB') : SW' X G (.BoolOp .Or (a :: b :: rest) pos) (yOr tA tB') := .mk <| PW.mono (pw_or ha.p hb.p) fun τ H Q q => by
  obtain ⟨ρ, σ, h, S, L, q⟩ := q
  refine seq_T S L q fun c h1 ρ1 H1 S1 L1 x1 q1 => ?_
  cases c with
  | true => rw [if_pos rfl] at q1 ⊢; exact q1 ρ1 H1 .refl S1
  | false => rw [if_neg Bool.false_ne_true] at q1 ⊢; exact ⟨ρ1, σ, h1, S1, L1, q1⟩
theorem st_w (h : SW' X G a tA) : ST X G a tA := ⟨PW.pt h.p⟩
theorem st_not (ha : ST X G a tA) : ST X G (.UnaryOp .Not a pos) (yNot tA) := .mk <| PT.mono (pt_not ha.p) fun τ H Q q => by
  obtain ⟨ρ, σ, h, S, L, q⟩ := q
  exact seq_T S L q fun c h1 ρ1 H1 S1 L1 x1 q1 => q1 ρ1 H1 .refl S1
/-- .. as values, all but the last bools -/
def xAnd (a b : XE) : XE := fun σ h => (a σ h).bind fun x h1 => match x with
  | .bl true => b σ h1
  | .bl false => .ok (.bl false) h1
  | _ => .bad
def xOr (a b : XE) : XE := fun σ h => (a σ h).bind fun x h1 => match x with
  | .bl true => .ok (.bl true) h1
  | .bl false => b σ h1
  | _ => .bad
def xNot (a : XE) : XE := fun σ h => (a σ h).bind fun x h1 => match x with
  | .bl c => .ok (.bl (!c)) h1
  | _ => .bad
theorem se_one {op} (h : SE X G a fa) : SE X G (.BoolOp op [a] pos) fa := ⟨pe_one h.p⟩
theorem se_and (ha : SE X G a fa) (hb : SE X G (.BoolOp .And (b :: rest) pos) fb) : SE X G (.BoolOp .And (a :: b :: rest) pos) (xAnd fa fb) := .mk <| PE.mono (pe_and ha.p hb.p) fun τ H Q q => by
  obtain ⟨ρ, σ, h, S, L, q⟩ := q
  refine seq_E S L q fun x h1 ρ1 H1 v S1 L1 x1 r1 q1 => ?_
  cases x with
  | bl c =>
    cases r1
    refine ⟨c, rfl, ?_⟩
    cases c with
    | true => rw [if_pos rfl]; exact ⟨ρ1, σ, h1, S1, L1, q1⟩
    | false => rw [if_neg Bool.false_ne_true]; exact q1 ρ1 H1 .refl S1 _ (.bl false)
  | _ => exact q1.elim
theorem se_or (ha : SE X G a fa) (hb : SE X G (.BoolOp .Or (b :: rest) pos) fb) : SE X G (.BoolOp .Or (a :: b :: rest) pos) (xOr fa fb) := .mk <| PE.mono (pe_or ha.p hb.p) fun τ H Q q => by
  obtain ⟨ρ, σ, h, S, L, q⟩ := q
  refine seq_E S L q fun x h1 ρ1 H1 v S1 L1 x1 r1 q1 => ?_
  cases x with
  | bl c =>
    cases r1
    refine ⟨c, rfl, ?_⟩
    cases c with
    | true => rw [if_pos rfl]; exact q1 ρ1 H1 .refl S1 _ (.bl true)
    | false => rw [if_neg Bool.false_ne_true]; exact ⟨ρ1, σ, h1, S1, L1, q1⟩
  | _ => exact q1.elim
def xIf (t : XT) (a b : XE) : XE := fun σ h => (t σ h).bind fun c h1 => if c = true then a σ h1 else b σ h1
theorem se_ifExp (hc : ST X G c tA) (ha : SE X G a fa) (hb : SE X G b fb) : SE X G (.IfExp c a b pos) (xIf tA fa fb) := .mk <| PE.mono (pe_ifExp hc.p ha.p hb.p) fun τ H Q q => by
  obtain ⟨ρ, σ, h, S, L, q⟩ := q
  refine seq_T S L q fun c h1 ρ1 H1 S1 L1 x1 q1 => ?_
  cases c with
  | true => rw [if_pos rfl] at q1 ⊢; exact ⟨ρ1, σ, h1, S1, L1, q1⟩
  | false => rw [if_neg Bool.false_ne_true] at q1 ⊢; exact ⟨ρ1, σ, h1, S1, L1, q1⟩

/-! ### arguments, tuples, lists -/
def aNil : XA := fun _ h => .ok [] h
def aCons (a : XE) (r : XA) : XA := fun σ h => (a σ h).bind fun x h1 => (r σ h1).bind fun xs h2 => .ok (x :: xs) h2
theorem sa_nil : SA X G [] aNil := .mk <| PA.mono pa_nil fun τ H Q q => by
  obtain ⟨ρ, σ, h, S, L, q⟩ := q
  exact q ρ H .refl S _ .nil
theorem sa_cons {es : List Expr} {fr : XA} (ha : SE X G a fa) (hr : SA X G es fr) (hs : starEach (a :: es) X.env = (false, eval a X.env) :: starEach es X.env := by rfl) : SA X G (a :: es) (aCons fa fr) := .mk <| PA.mono (pa_cons ha.p hr.p hs) fun τ H Q q => by
  obtain ⟨ρ, σ, h, S, L, q⟩ := q
  refine seq_E S L q fun x h1 ρ1 H1 v S1 L1 x1 r1 q1 => ?_
  refine seq_A S1 L1 q1 fun xs h2 ρ2 H2 vs S2 L2 x2 r2 q2 => ?_
  exact q2 ρ2 H2 .refl S2 _ (.cons (r1.ext x2) r2)
def xTup (t : XA) : XE := fun σ h => (t σ h).bind fun xs h1 => if xs.length ≤ sizeLine then .ok (.tup xs) h1 else .bad
def xLst (t : XA) : XE := fun σ h => (t σ h).bind fun xs h1 => if xs.length ≤ sizeLine then .ok (.ref h1.length) (h1 ++ [.lst xs]) else .bad
/-- a new tuple, a new list: what is wanted of them -/
theorem new_tup {ρ : List Addr} {h : AH} {H : Hp} {ws : List W} {vs : List V} {p : Addr} (S : HS ⟨X.K, G⟩ ρ h H) (r : RelWs ⟨X.K, G⟩ ρ H ws vs) (hp : H p = none) :
    Ext ⟨X.K, G⟩ ρ H ρ (upd H p (.tup vs)) ∧ HS ⟨X.K, G⟩ ρ h (upd H p (.tup vs)) ∧ RelW ⟨X.K, G⟩ ρ (upd H p (.tup vs)) (.tup ws) (.ref p) :=
  have x : Ext ⟨X.K, G⟩ ρ H ρ (upd H p (.tup vs)) := ext_new hp
  ⟨x, S.laid hp, .tup (SqT.of upd_same) (r.ext x)⟩
theorem new_lst {ρ : List Addr} {h : AH} {H : Hp} {ws : List W} {vs : List V} {p : Addr} (S : HS ⟨X.K, G⟩ ρ h H) (r : RelWs ⟨X.K, G⟩ ρ H ws vs) (hp : H p = none) :
    Ext ⟨X.K, G⟩ ρ H (ρ ++ [p]) (upd H p (.lst vs)) ∧ HS ⟨X.K, G⟩ (ρ ++ [p]) (h ++ [.lst ws]) (upd H p (.lst vs)) ∧ RelW ⟨X.K, G⟩ (ρ ++ [p]) (upd H p (.lst vs)) (.ref h.length) (.ref p) := by
  have x : Ext ⟨X.K, G⟩ ρ H (ρ ++ [p]) (upd H p (.lst vs)) := ext_push hp
  refine ⟨x, S.push hp (.lst upd_same (r.ext x)) (fun xs z => by cases z), .ref ?_⟩
  rw [← S.len, List.getElem?_append_right (Nat.le_refl _)]
  simp
theorem se_tup {es : List Expr} {x1} {t : XA} (h : SA X G es t) : SE X G (.Tuple es x1 pos) (xTup t) := .mk <| PE.mono (pe_tup h.p) fun τ H Q q => by
  obtain ⟨ρ, σ, h, S, L, q⟩ := q
  refine seq_A S L q fun xs h1 ρ1 H1 vs S1 L1 x1 r1 q1 => ?_
  split at q1
  · rename_i hz
    refine ⟨by rw [← r1.length]; exact hz, fun p hp => ?_⟩
    obtain ⟨y, s, r⟩ := new_tup S1 r1 hp
    exact q1 ρ1 _ y s _ r
  · exact q1.elim
theorem se_lst {es : List Expr} {t : XA} (h : SA X G es t) : SE X G (.List es pos) (xLst t) := .mk <| PE.mono (pe_lst h.p) fun τ H Q q => by
  obtain ⟨ρ, σ, h, S, L, q⟩ := q
  refine seq_A S L q fun xs h1 ρ1 H1 vs S1 L1 x1 r1 q1 => ?_
  split at q1
  · rename_i hz
    refine ⟨by rw [← r1.length]; exact hz, fun p hp => ?_⟩
    obtain ⟨y, s, r⟩ := new_lst S1 r1 hp
    exact q1 _ _ y s _ r
  · exact q1.elim
end
end Z
set_option Elab.async false
set_option linter.all false
set_option maxRecDepth 100000
set_option maxHeartbeats 4000000
namespace Z
open PySem PySem.Spec PyProof.Rows L2

section
variable {X : Cx} {G : GT}
/-! ### ints -/
def oI (C : Int → Int → Bool) (f : Int → Int → W) : O2 := fun a b h => match a, b with
  | .int i, .int j => if C i j = true then .ok (f i j) h else .bad
  | _, _ => .bad
theorem opS_I {f : Value → Value → Sem Value} {C : Int → Int → Prop} {Cb : Int → Int → Bool} {gv : Int → Int → V} {gw : Int → Int → W} (h : OpR X f (rI C gv)) (hc : ∀ i j, Cb i j = true → C i j) (hr : ∀ i j ρ H, RelW ⟨X.K, G⟩ ρ H (gw i j) (gv i j)) : OpS X G f (oI Cb gw) :=
  .mk <| OpR.mono h fun x y H Q q => by
    obtain ⟨ρ, a, b, h, S, ra, rb, q⟩ := q
    cases a with
    | int i =>
      cases b with
      | int j =>
        cases ra; cases rb
        unfold oI at q
        by_cases c : Cb i j = true
        · simp only [c, if_true] at q
          exact ⟨i, j, rfl, rfl, hc i j c, q ρ H .refl S _ (hr i j ρ H)⟩
        · simp only [c] at q; exact q.elim
      | _ => exact q.elim
    | _ => exact q.elim
theorem opS_I0 {f : Value → Value → Sem Value} {gv : Int → Int → V} {gw : Int → Int → W} (h : OpR X f (rI0 gv)) (hr : ∀ i j ρ H, RelW ⟨X.K, G⟩ ρ H (gw i j) (gv i j)) : OpS X G f (oI (fun _ _ => true) gw) :=
  opS_I (C := fun _ _ => True) (OpR.mono h fun x y H Q ⟨i, j, e1, e2, _, q⟩ => ⟨i, j, e1, e2, q⟩) (fun _ _ _ => trivial) hr
abbrev oSub : O2 := oI (fun _ _ => true) fun i j => .int (i - j)
abbrev oFdiv : O2 := oI (fun _ j => decide (0 < j) && decide (j < 1073741824)) fun i j => .int (i / j)
abbrev oMod : O2 := oI (fun _ j => decide (0 < j)) fun i j => .int (i % j)
abbrev oPow : O2 := oI (fun i j => decide (0 ≤ j) && decide (j ≤ 1000000) && decide (i.natAbs < 18446744073709551616)) fun i j => .int (i ^ j.toNat)
abbrev oLt : O2 := oI (fun _ _ => true) fun i j => .bl (decide (i < j))
abbrev oLe : O2 := oI (fun _ _ => true) fun i j => .bl (decide (i ≤ j))
abbrev oGt : O2 := oI (fun _ _ => true) fun i j => .bl (decide (j < i))
abbrev oGe : O2 := oI (fun _ _ => true) fun i j => .bl (decide (j ≤ i))
theorem sub_S : OpS X G (binaryOp .Sub) oSub := opS_I0 op_sub fun _ _ _ _ => .int _
theorem fdiv_S : OpS X G (binaryOp .FloorDiv) oFdiv := opS_I op_fdiv (fun i j c => by simpa [CDiv] using c) fun _ _ _ _ => .int _
theorem mod_S : OpS X G (binaryOp .Mod) oMod := opS_I op_mod (fun i j c => by simpa using c) fun _ _ _ _ => .int _
theorem pow_S : OpS X G (binaryOp .Pow) oPow := opS_I op_pow (fun i j c => by
  simp only [Bool.and_eq_true, decide_eq_true_eq] at c
  exact ⟨c.1.1, c.1.2, by have := c.2; omega⟩) fun _ _ _ _ => .int _
theorem lt_S : OpS X G (compareOp .Lt) oLt := opS_I0 op_lt fun _ _ _ _ => .bl _
theorem le_S : OpS X G (compareOp .LtE) oLe := opS_I0 op_le fun _ _ _ _ => .bl _
theorem gt_S : OpS X G (compareOp .Gt) oGt := opS_I0 op_gt fun _ _ _ _ => .bl _
theorem ge_S : OpS X G (compareOp .GtE) oGe := opS_I0 op_ge fun _ _ _ _ => .bl _
theorem op_mulB : OpR X (binaryOp .Mult) (rI IntMulOk fun i j => .int (i * j)) := opI fun _ _ _ _ _ _ _ hc q => mul_int q hc
instance (i j : Int) : Decidable (IntMulOk i j) := by unfold IntMulOk; infer_instance

/-! ### sequences -/
/-- a + b: ints, texts, lists -/
def oAdd : O2 := fun a b h => match a, b with
  | .int i, .int j => .ok (.int (i + j)) h
  | .str s, .str t => if s.length + t.length ≤ sizeLine then .ok (.str (s ++ t)) h else .bad
  | .ref m, .ref n => match h[m]?, h[n]? with
    | some (.lst xs), some (.lst ys) => if xs.length + ys.length ≤ sizeLine then .ok (.ref h.length) (h ++ [.lst (xs ++ ys)]) else .bad
    | _, _ => .bad
  | _, _ => .bad
theorem add_S : OpS X G (binaryOp .Add) oAdd := .mk <| OpR.mono ((OpR.or op_add op_add_str).or op_cat) fun x y H Q q => by
  obtain ⟨ρ, a, b, h, S, ra, rb, q⟩ := q
  unfold oAdd at q
  split at q
  · cases ra; cases rb
    exact .inl (.inl ⟨_, _, rfl, rfl, q ρ H .refl S _ (.int _)⟩)
  · cases ra; cases rb
    split at q
    · rename_i hz; exact .inl (.inr ⟨_, _, rfl, rfl, hz, q ρ H .refl S _ (.str _)⟩)
    · exact q.elim
  · split at q
    · rename_i h1 h2
      split at q
      · rename_i hz
        obtain ⟨a, rfl, _, o1⟩ := S.of_ref h1 ra
        obtain ⟨b, rfl, _, o2⟩ := S.of_ref h2 rb
        cases o1 with
        | lst e1 r1 => cases o2 with
          | lst e2 r2 =>
            refine .inr ⟨a, b, _, _, rfl, rfl, e1, e2, by rw [← r1.length, ← r2.length]; exact hz, fun p hp => ?_⟩
            obtain ⟨y, s, r⟩ := new_lst S (r1.append r2) hp
            exact q _ _ y s _ r
      · exact q.elim
    · exact q.elim
  · exact q.elim
def oMul : O2 := fun a b h => match a, b with
  | .int i, .int j => if IntMulOk i j then .ok (.int (i * j)) h else .bad
  | .ref m, .int k => match h[m]? with
    | some (.lst xs) => if -(2 ^ 63) ≤ k ∧ k < 2 ^ 63 ∧ xs.length * k.toNat ≤ sizeLine then .ok (.ref h.length) (h ++ [.lst (List.replicate k.toNat xs).flatten]) else .bad
    | _ => .bad
  | _, _ => .bad
theorem RelWs.rep {g : Gx} {ρ : List Addr} {H : Hp} {ws : List W} {vs : List V} (r : RelWs g ρ H ws vs) : ∀ k : Nat, RelWs g ρ H (List.replicate k ws).flatten (List.replicate k vs).flatten
  | 0 => .nil
  | k + 1 => by rw [List.replicate_succ, List.replicate_succ, List.flatten_cons, List.flatten_cons]; exact r.append (RelWs.rep r k)
theorem mul_S : OpS X G (binaryOp .Mult) oMul := .mk <| OpR.mono (OpR.or op_mulB op_rep) fun x y H Q q => by
  obtain ⟨ρ, a, b, h, S, ra, rb, q⟩ := q
  unfold oMul at q
  split at q
  · cases ra; cases rb
    split at q
    · rename_i hz; exact .inl ⟨_, _, rfl, rfl, hz, q ρ H .refl S _ (.int _)⟩
    · exact q.elim
  · split at q
    · rename_i h1
      split at q
      · rename_i hz
        obtain ⟨a, rfl, _, o1⟩ := S.of_ref h1 ra
        cases rb
        cases o1 with
        | lst e1 r1 =>
          refine .inr ⟨a, _, _, rfl, rfl, e1, hz.1, hz.2.1, by rw [← r1.length]; exact hz.2.2, fun p hp => ?_⟩
          obtain ⟨y, s, r⟩ := new_lst S (r1.rep _) hp
          exact q _ _ y s _ r
      · exact q.elim
    · exact q.elim
  · exact q.elim

/-! ### == of data -/
def optAll {α β : Type} (f : α → Option β) : List α → Option (List β)
  | [] => some []
  | x :: xs => match f x, optAll f xs with
    | some y, some ys => some (y :: ys)
    | _, _ => none
def dat (h : AH) : Nat → W → Option PyData
  | 0, _ => none
  | _ + 1, .non => some .none
  | _ + 1, .bl b => some (.bool b)
  | _ + 1, .int i => some (.int i)
  | _ + 1, .str s => some (.str s)
  | n + 1, .tup ws => (optAll (dat h n) ws).map .tuple
  | n + 1, .ref k => match listAt h k with
    | some xs => (optAll (dat h n) xs).map .list
    | none => none
  | _ + 1, _ => none
theorem dat_dpAll {ρ : List Addr} {h : AH} {H : Hp} {f : W → Option PyData} (hf : ∀ w d v, f w = some d → RelW ⟨X.K, G⟩ ρ H w v → Dp X.K H v d) :
    ∀ (ws : List W) (ds : List PyData) (vs : List V), optAll f ws = some ds → RelWs ⟨X.K, G⟩ ρ H ws vs → DpAll X.K H vs ds
  | [], ds, _, e, .nil => by cases e; exact .nil
  | w :: ws, ds, _, e, .cons r t => by
    unfold optAll at e
    split at e
    · rename_i y ys e1 e2
      cases e
      exact .cons (hf _ _ _ e1 r) (dat_dpAll (h := h) hf ws ys _ e2 t)
    · cases e
theorem dat_dp {ρ : List Addr} {h : AH} {H : Hp} (S : HS ⟨X.K, G⟩ ρ h H) : ∀ (n : Nat) (w : W) (d : PyData) (v : V), dat h n w = some d → RelW ⟨X.K, G⟩ ρ H w v → Dp X.K H v d
  | 0, _, _, _, e, _ => by cases e
  | n + 1, w, d, v, e, r => by
    cases w with
    | non => cases r; cases e; exact .non
    | bl b => cases r; cases e; exact .bl b
    | int i => cases r; cases e; exact .int i
    | str s => cases r; cases e; exact .str s
    | tup ws =>
      cases r with
      | tup sq rs =>
        obtain ⟨ds, e1, e2⟩ := Option.map_eq_some_iff.mp (show (optAll (dat h n) ws).map PyData.tuple = some d from e)
        subst e2
        exact .tup sq (dat_dpAll (h := h) (dat_dp S n) ws ds _ e1 rs)
    | ref k =>
      simp only [dat] at e
      split at e
      · rename_i xs hx
        obtain ⟨ds, e1, e2⟩ := Option.map_eq_some_iff.mp e
        subst e2
        obtain ⟨a, vs, rfl, sq, rs⟩ := S.list hx r
        exact .lst sq (dat_dpAll (h := h) (dat_dp S n) xs ds _ e1 rs)
      · cases e
    | _ => cases e
def oEqD (neg : Bool) : O2 := fun a b h => match dat h 9 a, dat h 9 b with
  | some d, some e => if SeqAt.shaped d = true ∧ SeqAt.shaped e = true then .ok (.bl (neg.xor (PyData.eqv d e))) h else .bad
  | _, _ => .bad
theorem eq_S (hu : X.A.units + 64 < cLine) : OpS X G (compareOp .Eq) (oEqD false) := .mk <| OpR.mono (op_eqD hu) fun x y H Q q => by
  obtain ⟨ρ, a, b, h, S, ra, rb, q⟩ := q
  unfold oEqD at q
  split at q
  · rename_i d e h1 h2
    split at q
    · rename_i hs
      exact ⟨d, e, dat_dp S _ _ _ _ h1 ra, dat_dp S _ _ _ _ h2 rb, hs.1, hs.2, q ρ H .refl S _ (by rw [Bool.false_xor]; exact .bl _)⟩
    · exact q.elim
  · exact q.elim
theorem ne_S (hu : X.A.units + 64 < cLine) : OpS X G (compareOp .NotEq) (oEqD true) := .mk <| OpR.mono (op_neD hu) fun x y H Q q => by
  obtain ⟨ρ, a, b, h, S, ra, rb, q⟩ := q
  unfold oEqD at q
  split at q
  · rename_i d e h1 h2
    split at q
    · rename_i hs
      exact ⟨d, e, dat_dp S _ _ _ _ h1 ra, dat_dp S _ _ _ _ h2 rb, hs.1, hs.2, q ρ H .refl S _ (by rw [Bool.true_xor]; exact .bl _)⟩
    · exact q.elim
  · exact q.elim

/-! ### items, slices -/
def oIx : O2 := fun a b h => match a, b with
  | .ref n, .int i => match listAt h n with
    | some xs => match atI xs i with
      | some w => .ok w h
      | none => .bad
    | none => .bad
  | .tup xs, .int i => match atI xs i with
    | some w => .ok w h
    | none => .bad
  | _, _ => .bad
theorem atI_rel {g : Gx} {ρ : List Addr} {H : Hp} {ws : List W} {vs : List V} {i : Int} {w : W} (r : RelWs g ρ H ws vs) (e : atI ws i = some w) : ∃ v, atI vs i = some v ∧ RelW g ρ H w v := by
  unfold atI at e ⊢
  rw [← r.length]
  cases h : ixN ws.length i with
  | none => rw [h] at e; cases e
  | some j => rw [h] at e; exact r.get e
theorem ix_S : IxR X (rOf X G oIx) := IxR.mono (ix_list.or ix_tup) fun x y H Q q => by
  obtain ⟨ρ, a, b, h, S, ra, rb, q⟩ := q
  unfold oIx at q
  split at q
  · split at q
    · rename_i xs hx
      split at q
      · rename_i w hw
        cases rb
        obtain ⟨a, vs, rfl, sq, rs⟩ := S.list hx ra
        obtain ⟨v, ev, rv⟩ := atI_rel rs hw
        exact .inl ⟨a, vs, _, v, rfl, rfl, sq, ev, q ρ H .refl S _ rv⟩
      · exact q.elim
    · exact q.elim
  · split at q
    · rename_i w hw
      cases rb
      cases ra with
      | tup sq rs =>
        obtain ⟨v, ev, rv⟩ := atI_rel rs hw
        exact .inr ⟨_, _, _, v, rfl, rfl, sq, ev, q ρ H .refl S _ rv⟩
    · exact q.elim
  · exact q.elim
variable {a b c : Expr} {fa fb fc : XE} {pos p2 : Pos}
theorem se_ix (ha : SE X G a fa) (hb : SE X G b fb) (hs : PlainIx b := by intro _ _; rfl) : SE X G (.Subscript a b pos) (xOp oIx fa fb) := .mk <| PE.mono (pe_ix ix_S ha.p hb.p hs) fun _ _ _ q => tOp_of q
/-- a[lo:hi] of a list; of a tuple, where it is not the whole -/
def cutW (xs : List W) (lo hi : Option Int) : List W := (xs.drop (HT.sIx xs.length 0 lo)).take (HT.sIx xs.length xs.length hi - HT.sIx xs.length 0 lo)
abbrev XP := SW → AH → Res (Option Int)
def pNone : XP := fun _ h => .ok none h
def pSome (f : XE) : XP := fun σ h => (f σ h).bind fun x h1 => match x with
  | .int i => .ok (some i) h1
  | _ => .bad
def tP (X : Cx) (G : GT) (f : XP) : TO := fun τ H Q => ∃ ρ σ h, HS ⟨X.K, G⟩ ρ h H ∧ LR ⟨X.K, G⟩ ρ H σ τ ∧ Gd X G ρ H (f σ h) fun o _ ρ' H' => Q o H'
structure SP' (X : Cx) (G : GT) (e : Option Expr) (f : XP) : Prop where
  p : PO X e (tP X G f)
theorem PO.mono {e : Option Expr} {t t' : TO} (h : PO X e t) (k : ∀ τ H Q, t' τ H Q → t τ H Q) : PO X e t' := fun pins s σ H Q I q => h pins s σ H Q I (k _ _ _ q)
theorem sp_none : SP' X G none pNone := .mk <| PO.mono po_none fun τ H Q q => by
  obtain ⟨ρ, σ, h, S, L, q⟩ := q
  exact q ρ H .refl S
theorem sp_some (ha : SE X G a fa) : SP' X G (some a) (pSome fa) := .mk <| PO.mono (po_some ha.p) fun τ H Q q => by
  obtain ⟨ρ, σ, h, S, L, q⟩ := q
  refine seq_E S L q fun x h1 ρ1 H1 v S1 L1 x1 r1 q1 => ?_
  cases x with
  | int i => cases r1; exact ⟨i, rfl, q1 ρ1 H1 .refl S1⟩
  | _ => exact q1.elim
theorem seq_P {f : XP} {α : Type} {k : Option Int → AH → Res α} {τ : L2.St} {H : Hp} {P : α → AH → List Addr → Hp → Prop} {Q : Option Int → Hp → Prop} {ρ : List Addr} {σ : SW} {h : AH} (S : HS ⟨X.K, G⟩ ρ h H) (L : LR ⟨X.K, G⟩ ρ H σ τ)
    (q : Gd X G ρ H ((f σ h).bind k) P) (n : ∀ w h' ρ' H', HS ⟨X.K, G⟩ ρ' h' H' → LR ⟨X.K, G⟩ ρ' H' σ τ → Ext ⟨X.K, G⟩ ρ H ρ' H' → Gd X G ρ' H' (k w h') P → Q w H') : tP X G f τ H Q :=
  ⟨ρ, σ, h, S, L, (Gd.bind q).mono fun w h' ρ' H' x s g => n w h' ρ' H' s (L.ext x) x g⟩
def xSl (a : XE) (lo hi : XP) : XE := fun σ h => (a σ h).bind fun x h1 => (lo σ h1).bind fun l h2 => (hi σ h2).bind fun u h3 => match x with
  | .ref n => match listAt h3 n with
    | some xs => .ok (.ref h3.length) (h3 ++ [.lst (cutW xs l u)])
    | none => .bad
  | .tup xs => if HT.sIx xs.length 0 l = 0 ∧ HT.sIx xs.length xs.length u = xs.length then .bad else .ok (.tup (cutW xs l u)) h3
  | _ => .bad
theorem cut_rel {g : Gx} {ρ : List Addr} {H : Hp} {ws : List W} {vs : List V} (r : RelWs g ρ H ws vs) (l u : Option Int) : RelWs g ρ H (cutW ws l u) (cutV vs l u) := by
  unfold cutW cutV
  rw [r.length]
  exact (r.drop _).take _
theorem se_slice {lo hi : Option Expr} {fl fu : XP} (ha : SE X G a fa) (hl : SP' X G lo fl) (hu : SP' X G hi fu) : SE X G (.Subscript a (.Slice lo hi none p2) pos) (xSl fa fl fu) := .mk <| PE.mono (pe_slice (sl_list.or sl_tup) ha.p hl.p hu.p) fun τ H Q q => by
  obtain ⟨ρ, σ, h, S, L, q⟩ := q
  refine seq_E S L q fun x h1 ρ1 H1 v S1 L1 x1 r1 q1 => ?_
  refine seq_P S1 L1 q1 fun l h2 ρ2 H2 S2 L2 x2 q2 => ?_
  refine seq_P S2 L2 q2 fun u h3 ρ3 H3 S3 L3 x3 q3 => ?_
  have r3 := (r1.ext x2).ext x3
  cases x with
  | ref n =>
    dsimp only at q3
    split at q3
    · rename_i xs hx
      obtain ⟨a, vs, rfl, sq, rs⟩ := S3.list hx r3
      refine .inl ⟨a, vs, rfl, sq, fun p hp => ?_⟩
      obtain ⟨y, s, r⟩ := new_lst S3 (cut_rel rs l u) hp
      exact q3 _ _ y s _ r
    · exact q3.elim
  | tup xs =>
    dsimp only at q3
    cases r3 with
    | tup sq rs =>
      split at q3
      · exact q3.elim
      · rename_i hw
        refine .inr ⟨_, _, rfl, sq, by rw [← rs.length]; exact hw, fun p hp => ?_⟩
        obtain ⟨y, s, r⟩ := new_tup S3 (cut_rel rs l u) hp
        exact q3 _ _ y s _ r
  | _ => exact q3.elim

/-! ### in, not in: flat items -/
def flatW : W → Bool
  | .non => true
  | .bl _ => true
  | .int _ => true
  | .str _ => true
  | _ => false
end
end Z
set_option Elab.async false
set_option linter.all false
set_option maxRecDepth 100000
set_option maxHeartbeats 4000000
namespace Z
open PySem PySem.Spec PyProof.Rows L2

section
variable {X : Cx} {G : GT} {a b c : Expr} {fa fb fc : XE} {pos p2 : Pos} {st : Stmt} {rest body : List Stmt} {f g : XS}

/-! ### targets -/
structure TGt where
  slots : List Nat
  run : W → SW → Option SW
def SameBut (sl : List Nat) (τ τ' : L2.St) : Prop := τ'.length = τ.length ∧ ∀ j : Nat, j ∉ sl → τ'[j]? = τ[j]?
def gOf (X : Cx) (G : GT) (g : TGt) : TG := fun v τ H Q => ∃ ρ σ h w σ', HS ⟨X.K, G⟩ ρ h H ∧ LR ⟨X.K, G⟩ ρ H σ τ ∧ RelW ⟨X.K, G⟩ ρ H w v ∧ g.run w σ = some σ' ∧ ∀ τ', LR ⟨X.K, G⟩ ρ H σ' τ' → SameBut g.slots τ τ' → Q τ' H
def runAll : List TGt → List W → SW → Option SW
  | [], [], σ => some σ
  | g :: gs, w :: ws, σ => (g.run w σ).bind fun σ' => runAll gs ws σ'
  | _, _, _ => none
def slotsAll : List TGt → List Nat
  | [] => []
  | g :: gs => g.slots ++ slotsAll gs
def gsOf (X : Cx) (G : GT) (gs : List TGt) : TGs := fun vs τ H Q => ∃ ρ σ h ws σ', HS ⟨X.K, G⟩ ρ h H ∧ LR ⟨X.K, G⟩ ρ H σ τ ∧ RelWs ⟨X.K, G⟩ ρ H ws vs ∧ runAll gs ws σ = some σ' ∧ ∀ τ', LR ⟨X.K, G⟩ ρ H σ' τ' → SameBut (slotsAll gs) τ τ' → Q τ' H
structure SG (X : Cx) (G : GT) (tg : Expr) (g : TGt) : Prop where
  p : PG X tg (gOf X G g)
structure SGs (X : Cx) (G : GT) (tg : List Expr) (g : List TGt) : Prop where
  p : PGs X tg (gsOf X G g)
theorem PG.mono {tg : Expr} {t t' : TG} (h : PG X tg t) (k : ∀ v τ H Q, t' v τ H Q → t v τ H Q) : PG X tg t' := fun pins s σ H v u Q I r q => h pins s σ H v u Q I r (k _ _ _ _ q)
theorem PGs.mono {tg : List Expr} {t t' : TGs} (h : PGs X tg t) (k : ∀ v τ H Q, t' v τ H Q → t v τ H Q) : PGs X tg t' := fun pins s σ H v u Q I r q => h pins s σ H v u Q I r (k _ _ _ _ q)
def gNm (i : Nat) : TGt := ⟨[i], fun w σ => some (σ.set i (some w))⟩
def gTp (gs : List TGt) : TGt := ⟨slotsAll gs, fun w σ => match w with
  | .tup ws => runAll gs ws σ
  | _ => none⟩
theorem SameBut.refl {sl : List Nat} {τ : L2.St} : SameBut sl τ τ := ⟨rfl, fun _ _ => rfl⟩
theorem SameBut.set {i : Nat} {τ : L2.St} {v : Option V} : SameBut [i] τ (τ.set i v) := ⟨by simp, fun j hj => List.getElem?_set_ne (fun e => hj (by simp [e]))⟩
theorem SameBut.trans {a b : List Nat} {τ τ1 τ2 : L2.St} (h : SameBut a τ τ1) (k : SameBut b τ1 τ2) : SameBut (a ++ b) τ τ2 :=
  ⟨k.1.trans h.1, fun j hj => by rw [List.mem_append, not_or] at hj; rw [k.2 j hj.2, h.2 j hj.1]⟩
theorem sg_name (i : Nat) {x : Str} (hN : X.N.Nodup) (hi : X.N[i]? = some x := by rfl) (hx : Loc X.env.scope x := by first | exact Or.inl rfl | exact Or.inr rfl) (hf : X.fn x = true ∨ X.env.scope.names.lookup x = some .local := by first | exact .inl rfl | exact .inr rfl | assumption) : SG X G (.Name x pos) (gNm i) :=
  .mk <| PG.mono (pg_name hN hi hx hf) fun v τ H Q q => by
    obtain ⟨ρ, σ, h, w, σ', S, L, r, e, k⟩ := q
    cases e
    exact k _ (L.set i r) SameBut.set
theorem sgs_nil : SGs X G [] [] := .mk <| PGs.mono pgs_nil fun v τ H Q q => by
  obtain ⟨ρ, σ, h, ws, σ', S, L, r, e, k⟩ := q
  cases r with
  | nil => cases e; exact ⟨rfl, k _ L .refl⟩
  | cons _ _ => cases e
theorem sgs_cons {tg : Expr} {tgs : List Expr} {g : TGt} {gs : List TGt} (h1 : SG X G tg g) (h2 : SGs X G tgs gs) (hs : (assignEach (tg :: tgs) X.env).map (·.2) = assign tg X.env :: (assignEach tgs X.env).map (·.2) := by rfl) : SGs X G (tg :: tgs) (g :: gs) :=
  .mk <| PGs.mono (pgs_cons h1.p h2.p hs) fun v τ H Q q => by
    obtain ⟨ρ, σ, h, ws, σ', S, L, r, e, k⟩ := q
    cases r with
    | nil => cases e
    | cons r1 r2 =>
      obtain ⟨σ1, e1, e2⟩ := Option.bind_eq_some_iff.mp (show (g.run _ σ).bind _ = some σ' from e)
      exact ⟨_, _, rfl, ρ, σ, h, _, σ1, S, L, r1, e1, fun τ1 L1 b1 => ⟨ρ, σ1, h, _, σ', S, L1, r2, e2, fun τ2 L2 b2 => k _ L2 (b1.trans b2)⟩⟩
theorem runAll_len : ∀ {gs : List TGt} {ws : List W} {σ σ' : SW}, runAll gs ws σ = some σ' → ws.length = gs.length
  | [], [], _, _, _ => rfl
  | [], _ :: _, _, _, e => by cases e
  | _ :: _, [], _, _, e => by cases e
  | g :: gs, w :: ws, σ, σ', e => by
    obtain ⟨σ1, e1, e2⟩ := Option.bind_eq_some_iff.mp (show (g.run w σ).bind _ = some σ' from e)
    exact congrArg (· + 1) (runAll_len e2)
theorem sg_tup {tgs : List Expr} {gs : List TGt} {k : Nat} (hc : X.calm = true) (h : SGs X G tgs gs) (hn : (assignEach tgs X.env).length = gs.length := by rfl) (hst : (assignEach tgs X.env).findIdx? (·.1) = none := by rfl) : SG X G (.Tuple tgs k pos) (gTp gs) :=
  .mk <| PG.mono (pg_tup hc h.p hn hst) fun v τ H Q q => by
    obtain ⟨ρ, σ, h, w, σ', S, L, r, e, k⟩ := q
    cases w with
    | tup ws =>
      cases r with
      | tup sq rs => exact ⟨_, _, rfl, sq, by rw [← rs.length]; exact runAll_len e, ρ, σ, h, ws, σ', S, L, rs, e, k⟩
    | _ => cases e

/-! ### small statements -/
def sNx : XS := fun σ h => .ok (.nx σ) h
def sSeq (f g : XS) : XS := fun σ h => (f σ h).bind fun fl h1 => match fl with
  | .nx σ1 => g σ1 h1
  | .bk σ1 => .ok (.bk σ1) h1
  | .ct σ1 => .ok (.ct σ1) h1
  | .rt w => .ok (.rt w) h1
def sExpr (e : XE) : XS := fun σ h => (e σ h).bind fun _ h1 => .ok (.nx σ) h1
def sRet (e : XE) : XS := fun σ h => (e σ h).bind fun w h1 => .ok (.rt w) h1
def sRetN : XS := fun _ h => .ok (.rt .non) h
def sBk : XS := fun σ h => .ok (.bk σ) h
def sCt : XS := fun σ h => .ok (.ct σ) h
def sIf (t : XT) (f g : XS) : XS := fun σ h => (t σ h).bind fun b h1 => if b = true then f σ h1 else g σ h1
def sNever : XS := fun _ _ => .bad
def sAsg (e : XE) (g : TGt) : XS := fun σ h => (e σ h).bind fun w h1 => match g.run w σ with
  | some σ' => .ok (.nx σ') h1
  | none => .bad
abbrev sSet (i : Nat) (e : XE) : XS := sAsg e (gNm i)
theorem tNext_of {D : Ends} {τ : L2.St} {H : Hp} (q : tSt X G sNx D τ H) : tNext D τ H := by
  obtain ⟨ρ, σ, h, S, L, q⟩ := q
  exact q ρ H .refl S τ L
theorem sb_nil : SB X G [] sNx := .mk <| PSs.mono pss_nil fun _ _ _ q => tNext_of q
theorem seq_S {k : Fl → AH → Res Fl} {τ : L2.St} {H : Hp} {P : Fl → AH → List Addr → Hp → Prop} {D : Ends} {ρ : List Addr} {σ : SW} {h : AH} (S : HS ⟨X.K, G⟩ ρ h H) (L : LR ⟨X.K, G⟩ ρ H σ τ)
    (q : Gd X G ρ H ((f σ h).bind k) P) (n : ∀ fl h' ρ' H', HS ⟨X.K, G⟩ ρ' h' H' → Ext ⟨X.K, G⟩ ρ H ρ' H' → Gd X G ρ' H' (k fl h') P → FlOk X G D ρ' H' fl) : tSt X G f D τ H :=
  ⟨ρ, σ, h, S, L, (Gd.bind q).mono fun w h' ρ' H' x s g => n w h' ρ' H' s x g⟩
theorem sb_cons (h1 : SS X G st f) (h2 : SB X G rest g) : SB X G (st :: rest) (sSeq f g) := .mk <| PSs.mono (pss_cons h1.p h2.p) fun D τ H q => by
  obtain ⟨ρ, σ, h, S, L, q⟩ := q
  refine seq_S S L q fun fl h1 ρ1 H1 S1 x1 q1 => ?_
  cases fl with
  | nx σ1 => exact fun τ1 L1 => ⟨ρ1, σ1, h1, S1, L1, q1⟩
  | bk σ1 => exact q1 ρ1 H1 .refl S1
  | ct σ1 => exact q1 ρ1 H1 .refl S1
  | rt w => exact q1 ρ1 H1 .refl S1
theorem sb_one (h1 : SS X G st f) : SB X G [st] f := ⟨pss_one h1.p⟩
theorem ss_expr (ha : SE X G a fa) (hs : swapsWith a none pos.line X.env = pure false := by rfl) : SS X G (.Expr a pos) (sExpr fa) := .mk <| PS.mono (ps_expr ha.p hs) fun D τ H q => by
  obtain ⟨ρ, σ, h, S, L, q⟩ := q
  exact seq_E S L q fun x h1 ρ1 H1 v S1 L1 x1 r1 q1 => q1 ρ1 H1 .refl S1 τ L1
theorem ss_ret (ha : SE X G a fa) : SS X G (.Return (some a) pos) (sRet fa) := .mk <| PS.mono (ps_ret ha.p) fun D τ H q => by
  obtain ⟨ρ, σ, h, S, L, q⟩ := q
  exact seq_E S L q fun x h1 ρ1 H1 v S1 L1 x1 r1 q1 => q1 ρ1 H1 .refl S1 v r1
theorem ss_if {c : Expr} {l r : List Stmt} {t : XT} (hc : ST X G c t) (ha : SB X G l f) (hb : SB X G r g) : SS X G (.If c l r pos) (sIf t f g) := .mk <| PS.mono (ps_if hc.p ha.p hb.p) fun D τ H q => by
  obtain ⟨ρ, σ, h, S, L, q⟩ := q
  refine seq_T S L q fun c h1 ρ1 H1 S1 L1 x1 q1 => ?_
  cases c with
  | true => rw [if_pos rfl] at q1 ⊢; exact ⟨ρ1, σ, h1, S1, L1, q1⟩
  | false => rw [if_neg Bool.false_ne_true] at q1 ⊢; exact ⟨ρ1, σ, h1, S1, L1, q1⟩
theorem ss_never : SS X G st sNever := .mk <| PS.mono ps_never fun D τ H q => by
  obtain ⟨ρ, σ, h, S, L, q⟩ := q
  exact q
theorem tAsg_of {g : TGt} {D : Ends} {τ : L2.St} {H : Hp} (q : tSt X G (sAsg fa g) D τ H) : tAsg (tE X G fa) (gOf X G g) D τ H := by
  obtain ⟨ρ, σ, h, S, L, q⟩ := q
  refine seq_E S L q fun x h1 ρ1 H1 v S1 L1 x1 r1 q1 => ?_
  split at q1
  · rename_i σ' e
    exact ⟨ρ1, σ, h1, x, σ', S1, L1, r1, e, fun τ' L' _ => q1 ρ1 H1 .refl S1 τ' L'⟩
  · exact q1.elim
theorem ss_asg {tg : Expr} {g : TGt} (ha : SE X G a fa) (hg : SG X G tg g) (hs : swapsWithSole [tg] a pos.line X.env = pure false := by rfl) (hw : swappedStores [tg] a X.env = pure none := by rfl) (h1 : (assignEach [tg] X.env).map (·.2) = [assign tg X.env] := by rfl) :
    SS X G (.Assign [tg] a pos) (sAsg fa g) := .mk <| PS.mono (ps_asg ha.p hg.p hs hw h1) fun D τ H q => tAsg_of q
theorem ss_set (i : Nat) {x : Str} {pos' : Pos} (hN : X.N.Nodup) (ha : SE X G a fa) (hi : X.N[i]? = some x := by rfl) (hx : Loc X.env.scope x := by first | exact Or.inl rfl | exact Or.inr rfl) (hs : swapsWith a (some (.Name x pos')) pos.line X.env = pure false := by rfl)
    (hf : X.fn x = true ∨ X.env.scope.names.lookup x = some .local := by first | exact .inl rfl | exact .inr rfl | assumption) : SS X G (.Assign [.Name x pos'] a pos) (sSet i fa) := .mk <| PS.mono (ps_set hN hi hx ha.p hs hf) fun D τ H q => by
  obtain ⟨ρ, σ, h, S, L, q⟩ := q
  exact seq_E S L q fun x h1 ρ1 H1 v S1 L1 x1 r1 q1 => q1 ρ1 H1 .refl S1 _ (L1.set i r1)
/-- a, b = x, y: plain locals -/
def sPar (is : List Nat) (es : XA) : XS := fun σ h => (es σ h).bind fun ws h1 => match runAll (is.map gNm) ws σ with
  | some σ' => .ok (.nx σ') h1
  | none => .bad
theorem runAll_two {i j : Nat} {ws : List W} {σ σ' : SW} (e : runAll [gNm i, gNm j] ws σ = some σ') : ∃ x y, ws = [x, y] ∧ σ' = (σ.set i (some x)).set j (some y) := by
  match ws, e with
  | [x, y], e => exact ⟨x, y, rfl, by simpa [runAll, gNm] using e.symm⟩
  | [], e => cases e
  | [x], e => cases e
  | x :: y :: z :: r, e => cases e
theorem runAll_three {i j k : Nat} {ws : List W} {σ σ' : SW} (e : runAll [gNm i, gNm j, gNm k] ws σ = some σ') : ∃ x y z, ws = [x, y, z] ∧ σ' = ((σ.set i (some x)).set j (some y)).set k (some z) := by
  match ws, e with
  | [x, y, z], e => exact ⟨x, y, z, rfl, by simpa [runAll, gNm] using e.symm⟩
  | [], e => cases e
  | [x], e => cases e
  | [x, y], e => cases e
  | x :: y :: z :: u :: r, e => cases e
theorem ss_par2 (i j : Nat) {x y : Str} {ta : XA} {px py pt : Pos} {kt k2 pt2} (hc : X.calm = true) (hN : X.N.Nodup) (ha : SA X G [a, b] ta) (hi : X.N[i]? = some x := by rfl) (hj : X.N[j]? = some y := by rfl) (hij : i ≠ j := by decide)
    (hx : X.env.scope.names.lookup x = some .local := by rfl) (hy : X.env.scope.names.lookup y = some .local := by rfl)
    (hw : swappedStores [.Tuple [.Name x px, .Name y py] kt pt] (.Tuple [a, b] k2 pt2) X.env = pure (some [x, y]) := by rfl)
    (hs : swapsWithSole [.Tuple [.Name x px, .Name y py] kt pt] (.Tuple [a, b] k2 pt2) pos.line X.env = pure false := by rfl) :
    SS X G (.Assign [.Tuple [.Name x px, .Name y py] kt pt] (.Tuple [a, b] k2 pt2) pos) (sPar [i, j] ta) := .mk <| PS.mono (ps_par hc hN hi hj hij hx hy ha.p hw hs) fun D τ H q => by
  obtain ⟨ρ, σ, h, S, L, q⟩ := q
  refine seq_A S L q fun ws h1 ρ1 H1 vs S1 L1 x1 r1 q1 => ?_
  split at q1
  · rename_i σ' e
    obtain ⟨x, y, rfl, rfl⟩ := runAll_two e
    cases r1 with
    | cons ra r2 => cases r2 with
      | cons rb r3 =>
        cases r3
        exact ⟨_, _, rfl, q1 ρ1 H1 .refl S1 _ ((L1.set i ra).set j rb)⟩
  · exact q1.elim

/-! ### what is walked -/
def numW (xs : List W) : List W := xs.zipIdx.map fun p => W.tup [.int (p.2 : Nat), p.1]
def sideW (xs ys : List W) : List W := List.zipWith (fun x y => W.tup [x, y]) xs ys
def side3 : List W → List W → List W → List W
  | x :: xs, y :: ys, z :: zs => W.tup [x, y, z] :: side3 xs ys zs
  | _, _, _ => []
inductive Src where
  | seq (n : Nat) (xs : List W) | pure (xs : List W) | enum (n : Nat) (xs : List W) | zip (n m : Nat) (xs ys : List W) | rev (n : Nat) (xs : List W) | zip3 (n m k : Nat) (xs ys zs : List W)
def Src.items : Src → List W
  | .seq _ xs => xs
  | .pure xs => xs
  | .enum _ xs => numW xs
  | .zip _ _ xs ys => sideW xs ys
  | .rev _ xs => xs.reverse
  | .zip3 _ _ _ xs ys zs => side3 xs ys zs
def Src.stay : Src → AH → Bool
  | .seq n xs, h => decide (listAt h n = some xs)
  | .pure _, _ => true
  | .enum n xs, h => decide (listAt h n = some xs)
  | .zip n m xs ys, h => decide (listAt h n = some xs) && decide (listAt h m = some ys)
  | .rev n xs, h => decide (listAt h n = some xs)
  | .zip3 n m k xs ys zs, h => decide (listAt h n = some xs) && (decide (listAt h m = some ys) && decide (listAt h k = some zs))
abbrev XI := SW → AH → Res Src
structure ItOk (X : Cx) (G : GT) (ρ0 : List Addr) (H0 : Hp) (src : Src) (J : It) : Prop where
  stop : ∀ (i : Nat) ρ h H, Ext ⟨X.K, G⟩ ρ0 H0 ρ H → HS ⟨X.K, G⟩ ρ h H → src.stay h = true → src.items.length ≤ i → J.stop i H
  go : ∀ (i : Nat) ρ h H w, Ext ⟨X.K, G⟩ ρ0 H0 ρ H → HS ⟨X.K, G⟩ ρ h H → src.stay h = true → src.items[i]? = some w → J.go i H
  yld : ∀ (i : Nat) ρ h H w x H', Ext ⟨X.K, G⟩ ρ0 H0 ρ H → HS ⟨X.K, G⟩ ρ h H → src.stay h = true → src.items[i]? = some w → J.yld i H x H' →
    Ext ⟨X.K, G⟩ ρ H ρ H' ∧ HS ⟨X.K, G⟩ ρ h H' ∧ RelW ⟨X.K, G⟩ ρ H' w x
def tI (X : Cx) (G : GT) (f : XI) : TI := fun τ H R => ∃ ρ σ h, HS ⟨X.K, G⟩ ρ h H ∧ LR ⟨X.K, G⟩ ρ H σ τ ∧ Gd X G ρ H (f σ h) fun src _ ρ' H' => ∀ J, ItOk X G ρ' H' src J → R J H'
structure SI (X : Cx) (G : GT) (tg iter : Expr) (f : XI) : Prop where
  p : PI X tg iter (tI X G f)
theorem PI.mono {tg iter : Expr} {t t' : TI} (h : PI X tg iter t) (k : ∀ τ H R, t' τ H R → t τ H R) : PI X tg iter t' := fun pins s σ H R I q => h pins s σ H R I (k _ _ _ q)
theorem PI.or {tg iter : Expr} {t t' : TI} (h : PI X tg iter t) (h' : PI X tg iter t') : PI X tg iter (fun τ H R => t τ H R ∨ t' τ H R) := fun pins s σ H R I q => by
  rcases q with q | q
  · exact h pins s σ H R I q
  · exact h' pins s σ H R I q
/-- a list or a tuple -/
def iSeq (e : XE) : XI := fun σ h => (e σ h).bind fun x h1 => match x with
  | .ref n => match listAt h1 n with
    | some xs => .ok (.seq n xs) h1
    | none => .bad
  | .tup xs => .ok (.pure xs) h1
  | _ => .bad
theorem seq_I {f : XI} {α : Type} {k : Src → AH → Res α} {τ : L2.St} {H : Hp} {P : α → AH → List Addr → Hp → Prop} {R : It → Hp → Prop} {ρ : List Addr} {σ : SW} {h : AH} (S : HS ⟨X.K, G⟩ ρ h H) (L : LR ⟨X.K, G⟩ ρ H σ τ)
    (q : Gd X G ρ H ((f σ h).bind k) P) (n : ∀ src h' ρ' H' J, HS ⟨X.K, G⟩ ρ' h' H' → LR ⟨X.K, G⟩ ρ' H' σ τ → Ext ⟨X.K, G⟩ ρ H ρ' H' → ItOk X G ρ' H' src J → Gd X G ρ' H' (k src h') P → R J H') : tI X G f τ H R :=
  ⟨ρ, σ, h, S, L, (Gd.bind q).mono fun w h' ρ' H' x s g J hJ => n w h' ρ' H' J s (L.ext x) x hJ g⟩
theorem itl_ok {ρ : List Addr} {h : AH} {H : Hp} {n : Nat} {xs : List W} {a : Addr} (hn : ρ[n]? = some a) : ItOk X G ρ H (.seq n xs) (Itl X.K a) := by
  have key : ∀ ρ' h' H', Ext ⟨X.K, G⟩ ρ H ρ' H' → HS ⟨X.K, G⟩ ρ' h' H' → (Src.seq n xs).stay h' = true → ∃ vs, SqL X.K H' a vs ∧ RelWs ⟨X.K, G⟩ ρ' H' xs vs := fun ρ' h' H' x S e => by
    have e' : listAt h' n = some xs := of_decide_eq_true e
    obtain ⟨a', vs, e1, sq, rs⟩ := S.list e' (.ref (x.pre _ _ hn))
    cases e1
    exact ⟨vs, sq, rs⟩
  refine ⟨fun i ρ' h' H' x S e hi => ?_, fun i ρ' h' H' w x S e hw => ?_, fun i ρ' h' H' w y H2 x S e hw hy => ?_⟩
  · obtain ⟨vs, sq, rs⟩ := key ρ' h' H' x S e
    exact ⟨vs, sq, by rw [← rs.length]; exact hi⟩
  · obtain ⟨vs, sq, rs⟩ := key ρ' h' H' x S e
    obtain ⟨v, ev, _⟩ := rs.get hw
    exact ⟨vs, v, sq, ev⟩
  · obtain ⟨vs, sq, rs⟩ := key ρ' h' H' x S e
    obtain ⟨e2, hy⟩ := hy
    subst e2
    obtain ⟨v, ev, rv⟩ := rs.get hw
    have := hy vs sq
    rw [ev] at this
    cases this
    exact ⟨.refl, S, rv⟩
end
end Z
set_option Elab.async false
set_option linter.all false
set_option maxRecDepth 100000
set_option maxHeartbeats 4000000
namespace Z
open PySem PySem.Spec PyProof.Rows L2

section
variable {X : Cx} {G : GT} {a b c : Expr} {fa fb fc : XE} {pos p2 : Pos} {st : Stmt} {rest body : List Stmt} {f g : XS} {tg iter : Expr}

theorem ok_E {w : W} {τ : L2.St} {H : Hp} {Q : VK} {ρ : List Addr} {σ : SW} {h h1 : AH} (S : HS ⟨X.K, G⟩ ρ h H) (L : LR ⟨X.K, G⟩ ρ H σ τ) (e : fa σ h = .ok w h1)
    (n : ∀ ρ' H' v, HS ⟨X.K, G⟩ ρ' h1 H' → LR ⟨X.K, G⟩ ρ' H' σ τ → Ext ⟨X.K, G⟩ ρ H ρ' H' → RelW ⟨X.K, G⟩ ρ' H' w v → Q v H') : tE X G fa τ H Q :=
  ⟨ρ, σ, h, S, L, by rw [e]; exact fun ρ' H' x s v r => n ρ' H' v s (L.ext x) x r⟩
theorem itt_ok {ρ : List Addr} {H : Hp} {xs : List W} {vs : List V} {a : Addr} (sq : SqT X.K H a vs) (rs : RelWs ⟨X.K, G⟩ ρ H xs vs) : ItOk X G ρ H (.pure xs) (Itt X.K a) := by
  refine ⟨fun i ρ' h' H' x S e hi => ⟨vs, x.tup _ _ sq, by rw [← rs.length]; exact hi⟩, fun i ρ' h' H' w x S e hw => ?_, fun i ρ' h' H' w y H2 x S e hw hy => ?_⟩
  · obtain ⟨v, ev, _⟩ := rs.get hw
    exact ⟨vs, v, x.tup _ _ sq, ev⟩
  · obtain ⟨e2, hy⟩ := hy
    subst e2
    obtain ⟨v, ev, rv⟩ := (rs.ext x).get hw
    have := hy vs (x.tup _ _ sq)
    rw [ev] at this
    cases this
    exact ⟨.refl, S, rv⟩
theorem si_seq (ha : SE X G a fa) : SI X G tg a (iSeq fa) := .mk <| PI.mono (PI.or (pi_list ha.p) (pi_tup ha.p)) fun τ H R q => by
  obtain ⟨ρ, σ, h, S, L, q⟩ := q
  unfold iSeq at q
  cases e : fa σ h with
  | exc c h' => rw [e] at q; exact q.elim
  | bad => rw [e] at q; exact q.elim
  | ok w h1 =>
    rw [e, Res.bind_ok] at q
    cases w with
    | ref n =>
      left
      dsimp only at q
      split at q
      · rename_i xs hx
        refine ok_E S L e fun ρ1 H1 v S1 L1 x1 r1 => ?_
        cases r1 with
        | ref hr =>
          obtain ⟨a, vs, e1, sq, rs⟩ := S1.list hx (.ref hr)
          cases e1
          exact ⟨_, rfl, ⟨vs, sq⟩, q ρ1 H1 x1 S1 _ (itl_ok (h := h1) hr)⟩
      · exact q.elim
    | tup xs =>
      right
      refine ok_E S L e fun ρ1 H1 v S1 L1 x1 r1 => ?_
      cases r1 with
      | tup sq rs => exact ⟨_, rfl, ⟨_, sq⟩, q ρ1 H1 x1 S1 _ (itt_ok sq rs)⟩
    | _ => exact q.elim
/-- range -/
def rngW (lo : Int) (n : Nat) : List W := (List.range n).map fun (i : Nat) => W.int (lo + (i : Int))
theorem rngW_length {lo : Int} {n : Nat} : (rngW lo n).length = n := by simp [rngW]
theorem rngW_get {lo : Int} {n i : Nat} {w : W} (e : (rngW lo n)[i]? = some w) : i < n ∧ w = .int (lo + (i : Int)) := by
  have hl : i < (rngW lo n).length := (List.getElem?_eq_some_iff.mp e).1
  rw [rngW_length] at hl
  refine ⟨hl, ?_⟩
  simp [rngW, hl] at e
  exact e.symm
theorem itr_ok {ρ : List Addr} {H : Hp} {lo : Int} {n : Nat} : ItOk X G ρ H (.pure (rngW lo n)) (Itr lo n) := by
  refine ⟨fun i ρ' h' H' x S e hi => ?_, fun i ρ' h' H' w x S e hw => (rngW_get hw).1, fun i ρ' h' H' w y H2 x S e hw hy => ?_⟩
  · have hi : (rngW lo n).length ≤ i := hi
    rw [rngW_length] at hi; exact hi
  · obtain ⟨e2, hy⟩ := hy
    subst e2; subst hy
    rw [(rngW_get hw).2]
    exact ⟨.refl, S, .int _⟩
def inRng (j : Int) : Bool := decide (-(2 ^ 62) ≤ j) && decide (j < 2 ^ 62)
def iRg1 (a : XA) : XI := fun σ h => (a σ h).bind fun ws h1 => match ws with
  | [.int j] => if inRng j = true then .ok (.pure (rngW 0 j.toNat)) h1 else .bad
  | _ => .bad
theorem si_range1 {ta : XA} {p : Pos} (hg : Gl X "range") (hm : X.mg "range" = none) (ha : SA X G [a] ta) (hs : starEach [a] X.env = [(false, eval a X.env)] := by rfl) : SI X G tg (.Call (.Name "range" p) [a] [] pos) (iRg1 ta) := .mk <| PI.mono (pi_range1 hg hm ha.p hs) fun τ H R q => by
  obtain ⟨ρ, σ, h, S, L, q⟩ := q
  refine seq_A S L q fun ws h1 ρ1 H1 vs S1 L1 x1 r1 q1 => ?_
  split at q1
  · cases r1 with
    | cons r r' =>
      cases r; cases r'
      split at q1
      · rename_i hj
        simp only [inRng, Bool.and_eq_true, decide_eq_true_eq] at hj
        exact ⟨_, rfl, hj.1, hj.2, q1 ρ1 H1 .refl S1 _ itr_ok⟩
      · exact q1.elim
  · exact q1.elim
/-! ### for -/
def loopS (stay : AH → Bool) (g : TGt) (body : XS) : List W → SW → AH → Res Fl
  | [], σ, h => if stay h = true then .ok (.nx σ) h else .bad
  | x :: xs, σ, h => if stay h = true then match g.run x σ with
      | some σ1 => (body σ1 h).bind fun fl h1 => match fl with
        | .nx σ2 => loopS stay g body xs σ2 h1
        | .ct σ2 => loopS stay g body xs σ2 h1
        | .bk σ2 => .ok (.nx σ2) h1
        | .rt w => .ok (.rt w) h1
      | none => .bad
    else .bad
def sFor (it : XI) (g : TGt) (body : XS) : XS := fun σ h => (it σ h).bind fun src h1 => loopS src.stay g body src.items σ h1
theorem tFor_of {it : XI} {g : TGt} {tb : XS} {D : Ends} {τ : L2.St} {H : Hp} (q : tSt X G (sFor it g tb) D τ H) : tFor (tI X G it) (gOf X G g) (tSt X G tb) D τ H := by
  obtain ⟨ρ, σ, h, S, L, q⟩ := q
  refine seq_I S L q fun src h1 ρ1 H1 J S1 L1 x1 hJ q1 => ?_
  refine ⟨fun i m τ' H' => m = src.items.length - i ∧ i ≤ src.items.length ∧ ∃ ρ' σ' h', Ext ⟨X.K, G⟩ ρ1 H1 ρ' H' ∧ HS ⟨X.K, G⟩ ρ' h' H' ∧ LR ⟨X.K, G⟩ ρ' H' σ' τ' ∧ Gd X G ρ' H' (loopS src.stay g tb (src.items.drop i) σ' h') fun fl _ ρ' H' => FlOk X G D ρ' H' fl,
    ⟨src.items.length, by simp, Nat.zero_le _, ρ1, σ, h1, .refl, S1, L1, by simpa using q1⟩, ?_⟩
  rintro i m τ' H' ⟨rfl, hi, ρ', σ', h', x', S', L', q'⟩
  by_cases hlt : i < src.items.length
  · right
    have hd : src.items.drop i = src.items[i] :: src.items.drop (i + 1) := List.drop_eq_getElem_cons hlt
    have hw : src.items[i]? = some src.items[i] := by simp [hlt]
    rw [hd] at q'
    unfold loopS at q'
    split at q'
    · rename_i hst
      refine ⟨hJ.go i ρ' h' H' _ x' S' hst hw, fun τ2 H2 => i + 1 ≤ src.items.length ∧ ∃ ρ2 σ2 h2, Ext ⟨X.K, G⟩ ρ1 H1 ρ2 H2 ∧ HS ⟨X.K, G⟩ ρ2 h2 H2 ∧ LR ⟨X.K, G⟩ ρ2 H2 σ2 τ2 ∧ Gd X G ρ2 H2 (loopS src.stay g tb (src.items.drop (i + 1)) σ2 h2) fun fl _ ρ' H' => FlOk X G D ρ' H' fl,
        fun τ2 H2 ⟨h2, k2⟩ => ⟨_, by omega, rfl, h2, k2⟩, fun x H2 hy => ?_⟩
      obtain ⟨xy, S2, rw'⟩ := hJ.yld i ρ' h' H' _ x H2 x' S' hst hw hy
      split at q'
      · rename_i σ1 hr
        refine ⟨ρ', σ', h', _, σ1, S2, L'.ext xy, rw', hr, fun τ3 L3 _ => ?_⟩
        refine seq_S S2 L3 (q'.ext xy) fun fl h3 ρ3 H3 S3 x3 q3 => ?_
        cases fl with
        | nx σ3 => exact fun τ4 L4 => ⟨hlt, ρ3, σ3, h3, (x'.trans xy).trans x3, S3, L4, q3⟩
        | ct σ3 => exact fun τ4 L4 => ⟨hlt, ρ3, σ3, h3, (x'.trans xy).trans x3, S3, L4, q3⟩
        | bk σ3 => exact q3 ρ3 H3 .refl S3
        | rt w => exact q3 ρ3 H3 .refl S3
      · exact q'.elim
    · exact q'.elim
  · left
    have e : i = src.items.length := by omega
    subst e
    rw [List.drop_length] at q'
    unfold loopS at q'
    split at q'
    · rename_i hst
      exact ⟨hJ.stop _ ρ' h' H' x' S' hst (Nat.le_refl _), q' ρ' H' .refl S' τ' L'⟩
    · exact q'.elim
theorem ss_for {it : XI} {g : TGt} {tb : XS} (hp : PassesOwn (model X.prog X.w) X.A X.env X.xe) (hc : X.calm = true) (hi : SI X G tg iter it) (hg : SG X G tg g) (hb : SB X G body tb) (hs : ∀ x, foldedSetIterable iter X.env x = pure x := by intro _; rfl) :
    SS X G (.For tg iter body [] pos) (sFor it g tb) := .mk <| PS.mono (ps_for hp hc hi.p hg.p hb.p hs) fun D τ H q => tFor_of q

/-! ### while -/
/-! ### builtins -/
abbrev OC := List W → AH → Res W
def cOf (X : Cx) (G : GT) (r : OC) : List V → Hp → VK → Prop := fun vs H Q => ∃ ρ ws h, HS ⟨X.K, G⟩ ρ h H ∧ RelWs ⟨X.K, G⟩ ρ H ws vs ∧ Gd X G ρ H (r ws h) fun w _ ρ' H' => ∀ v, RelW ⟨X.K, G⟩ ρ' H' w v → Q v H'
structure CallS (X : Cx) (G : GT) (f : Value) (r : OC) : Prop where
  p : CallR X f (cOf X G r)
def xCB (r : OC) (t : XA) : XE := fun σ h => (t σ h).bind fun ws h1 => r ws h1
theorem tCB_of {r : OC} {t : XA} {τ : L2.St} {H : Hp} {Q : VK} (q : tE X G (xCB r t) τ H Q) : tCB (cOf X G r) (tAs X G t) τ H Q := by
  obtain ⟨ρ, σ, h, S, L, q⟩ := q
  exact seq_A S L q fun ws h1 ρ1 H1 vs S1 L1 x1 r1 q1 => ⟨ρ1, ws, h1, S1, r1, q1⟩
theorem se_blt {x : Str} {id : String} {es : List Expr} {p : Pos} {r : OC} {t : XA} (hc : CallS X G (.builtin id) r) (hg : Gl X x) (hm : X.mg x = none) (hv : bootBuiltins x = some (.builtin id)) (ha : SA X G (a :: es) t) (hn : x ≠ "__name__" := by decide) (hdb : (x == ("__debug__" : Str)) = false := by decide)
    (he : starEach (a :: es) X.env = (false, eval a X.env) :: starEach es X.env := by rfl) (hpl : (backTo pos (starEach es X.env)).any (·.1) = false := by rfl) : SE X G (.Call (.Name x p) (a :: es) [] pos) (xCB r t) := .mk <| PE.mono (pe_callB hc.p hg hm hv ha.p hn hdb he hpl) fun _ _ _ q => tCB_of q
theorem se_ty {x : Str} {T : String} {es : List Expr} {p : Pos} {r : OC} {t : XA} (hc : CallS X G (.type T) r) (hg : Gl X x) (hm : X.mg x = none) (hv : bootBuiltins x = some (.type T)) (ha : SA X G (a :: es) t) (hn : x ≠ "__name__" := by decide) (hdb : (x == ("__debug__" : Str)) = false := by decide)
    (he : starEach (a :: es) X.env = (false, eval a X.env) :: starEach es X.env := by rfl) (hpl : (backTo pos (starEach es X.env)).any (·.1) = false := by rfl) : SE X G (.Call (.Name x p) (a :: es) [] pos) (xCB r t) := .mk <| PE.mono (pe_callTy hc.p hg hm hv ha.p hn hdb he hpl) fun _ _ _ q => tCB_of q
def bLen : OC := fun ws h => match ws with
  | [.ref n] => match listAt h n with
    | some xs => .ok (.int xs.length) h
    | none => .bad
  | [.tup xs] => .ok (.int xs.length) h
  | _ => .bad
theorem len_S : CallS X G (.builtin "len") bLen := .mk <| CallR.mono call_len_seq fun vs H Q q => by
  obtain ⟨ρ, ws, h, S, r, q⟩ := q
  unfold bLen at q
  split at q
  · split at q
    · rename_i xs hx
      cases r with
      | cons r r' =>
        cases r'
        obtain ⟨a, us, rfl, sq, rs⟩ := S.list hx r
        exact ⟨a, us, rfl, .inl sq, q ρ H .refl S _ (by rw [rs.length]; exact .int _)⟩
    · exact q.elim
  · cases r with
    | cons r r' =>
      cases r'
      cases r with
      | tup sq rs => exact ⟨_, _, rfl, .inr sq, q ρ H .refl S _ (by rw [rs.length]; exact .int _)⟩
  · exact q.elim
def bList : OC := fun ws h => match ws with
  | [.ref n] => match listAt h n with
    | some xs => .ok (.ref h.length) (h ++ [.lst xs])
    | none => .bad
  | [.tup xs] => .ok (.ref h.length) (h ++ [.lst xs])
  | _ => .bad
theorem list_S : CallS X G (.type "list") bList := .mk <| CallR.mono call_list_of fun vs H Q q => by
  obtain ⟨ρ, ws, h, S, r, q⟩ := q
  unfold bList at q
  split at q
  · split at q
    · rename_i xs hx
      cases r with
      | cons r r' =>
        cases r'
        obtain ⟨a, us, rfl, sq, rs⟩ := S.list hx r
        refine ⟨a, us, rfl, .inl sq, fun p hp => ?_⟩
        obtain ⟨y, s, r⟩ := new_lst S rs hp
        exact q _ _ y s _ r
    · exact q.elim
  · cases r with
    | cons r r' =>
      cases r'
      cases r with
      | tup sq rs =>
        refine ⟨_, _, rfl, .inr sq, fun p hp => ?_⟩
        obtain ⟨y, s, r⟩ := new_lst S rs hp
        exact q _ _ y s _ r
  · exact q.elim
/-- the rngW, the bools of a list of such -/
def asInt : W → Option Int
  | .int i => some i
  | _ => none
def asBl : W → Option Bool
  | .bl i => some i
  | _ => none
theorem rel_ints {g : Gx} {ρ : List Addr} {H : Hp} : ∀ {ws : List W} {ns : List Int} {vs : List V}, optAll asInt ws = some ns → RelWs g ρ H ws vs → vs = ns.map V.int
  | [], ns, _, e, .nil => by cases e; rfl
  | w :: ws, ns, _, e, .cons r t => by
    unfold optAll at e
    split at e
    · rename_i y ys e1 e2
      cases e
      cases w with
      | int i => cases e1; cases r; rw [rel_ints e2 t]; rfl
      | _ => cases e1
    · cases e
theorem rel_bls {g : Gx} {ρ : List Addr} {H : Hp} : ∀ {ws : List W} {ns : List Bool} {vs : List V}, optAll asBl ws = some ns → RelWs g ρ H ws vs → vs = ns.map V.bl
  | [], ns, _, e, .nil => by cases e; rfl
  | w :: ws, ns, _, e, .cons r t => by
    unfold optAll at e
    split at e
    · rename_i y ys e1 e2
      cases e
      cases w with
      | bl i => cases e1; cases r; rw [rel_bls e2 t]; rfl
      | _ => cases e1
    · cases e
def bSum : OC := fun ws h => match ws with
  | [.ref n] => match listAt h n with
    | some xs => match optAll asInt xs with
      | some ns => .ok (.int ns.sum) h
      | none => .bad
    | none => .bad
  | _ => .bad
theorem sum_S (hc : X.calm = true) : CallS X G (.builtin "sum") bSum := .mk <| CallR.mono (cr_sum hc) fun vs H Q q => by
  obtain ⟨ρ, ws, h, S, r, q⟩ := q
  unfold bSum at q
  split at q
  · split at q
    · rename_i xs hx
      split at q
      · rename_i ns hns
        cases r with
        | cons r r' =>
          cases r'
          obtain ⟨a, us, rfl, sq, rs⟩ := S.list hx r
          rw [rel_ints hns rs] at sq
          exact ⟨a, ns, rfl, sq, q ρ H .refl S _ (.int _)⟩
      · exact q.elim
    · exact q.elim
  · exact q.elim
def bAll (any : Bool) : OC := fun ws h => match ws with
  | [.ref n] => match listAt h n with
    | some xs => match optAll asBl xs with
      | some ns => .ok (.bl (if any = true then ns.any id else ns.all id)) h
      | none => .bad
    | none => .bad
  | _ => .bad
theorem all_S (hc : X.calm = true) : CallS X G (.builtin "all") (bAll false) := .mk <| CallR.mono (cr_all hc) fun vs H Q q => by
  obtain ⟨ρ, ws, h, S, r, q⟩ := q
  unfold bAll at q
  split at q
  · split at q
    · rename_i xs hx
      split at q
      · rename_i ns hns
        cases r with
        | cons r r' =>
          cases r'
          obtain ⟨a, us, rfl, sq, rs⟩ := S.list hx r
          rw [rel_bls hns rs] at sq
          exact ⟨a, ns, rfl, sq, q ρ H .refl S _ (.bl _)⟩
      · exact q.elim
    · exact q.elim
  · exact q.elim
theorem RelWs.two {g : Gx} {ρ : List Addr} {H : Hp} {i j : Int} {vs : List V} (r : RelWs g ρ H [.int i, .int j] vs) : vs = [.int i, .int j] := by
  cases r with
  | cons r r' => cases r; cases r' with
    | cons r r' => cases r; cases r'; rfl
end
end Z
set_option Elab.async false
set_option linter.all false
set_option maxRecDepth 100000
set_option maxHeartbeats 4000000
namespace Z
open PySem PySem.Spec PyProof.Rows L2

section
variable {X : Cx} {G : GT} {a b c : Expr} {fa fb fc : XE} {pos p2 : Pos} {st : Stmt} {rest body : List Stmt} {f g : XS} {tg iter : Expr}

/-- the greatest, the least of a list of ints -/
def maxI : List Int → Int
  | [] => 0
  | [x] => x
  | x :: xs => max x (maxI xs)
def minI : List Int → Int
  | [] => 0
  | [x] => x
  | x :: xs => min x (minI xs)
theorem maxI_mem : ∀ {ns : List Int}, 0 < ns.length → maxI ns ∈ ns ∧ ∀ y ∈ ns, y ≤ maxI ns
  | [x], _ => ⟨by simp [maxI], fun y hy => by simp at hy; simp [maxI, hy]⟩
  | x :: y :: r, _ => by
    obtain ⟨h1, h2⟩ := maxI_mem (ns := y :: r) (by simp)
    show max x (maxI (y :: r)) ∈ _ ∧ ∀ z ∈ _, z ≤ max x (maxI (y :: r))
    refine ⟨?_, fun z hz => ?_⟩
    · rcases Int.le_total x (maxI (y :: r)) with k | k
      · rw [Int.max_eq_right k]; exact List.mem_cons_of_mem _ h1
      · rw [Int.max_eq_left k]; exact List.mem_cons_self
    · rcases List.mem_cons.mp hz with rfl | hz
      · exact Int.le_max_left _ _
      · exact Int.le_trans (h2 z hz) (Int.le_max_right _ _)
theorem minI_mem : ∀ {ns : List Int}, 0 < ns.length → minI ns ∈ ns ∧ ∀ y ∈ ns, minI ns ≤ y
  | [x], _ => ⟨by simp [minI], fun y hy => by simp at hy; simp [minI, hy]⟩
  | x :: y :: r, _ => by
    obtain ⟨h1, h2⟩ := minI_mem (ns := y :: r) (by simp)
    show min x (minI (y :: r)) ∈ _ ∧ ∀ z ∈ _, min x (minI (y :: r)) ≤ z
    refine ⟨?_, fun z hz => ?_⟩
    · rcases Int.le_total x (minI (y :: r)) with k | k
      · rw [Int.min_eq_left k]; exact List.mem_cons_self
      · rw [Int.min_eq_right k]; exact List.mem_cons_of_mem _ h1
    · rcases List.mem_cons.mp hz with rfl | hz
      · exact Int.min_le_left _ _
      · exact Int.le_trans (Int.min_le_right _ _) (h2 z hz)
/-- the second of max, min: two ints, or a list of ints -/
def bMax : OC := fun ws h => match ws with
  | [.ref n] => match listAt h n with
    | some xs => match optAll asInt xs with
      | some ns => if 0 < ns.length then .ok (.int (maxI ns)) h else .bad
      | none => .bad
    | none => .bad
  | [.int i, .int j] => .ok (.int (if j > i then j else i)) h
  | _ => .bad
def bMin : OC := fun ws h => match ws with
  | [.ref n] => match listAt h n with
    | some xs => match optAll asInt xs with
      | some ns => if 0 < ns.length then .ok (.int (minI ns)) h else .bad
      | none => .bad
    | none => .bad
  | [.int i, .int j] => .ok (.int (if j < i then j else i)) h
  | _ => .bad
theorem max_S (hc : X.calm = true) : CallS X G (.builtin "max") bMax := .mk <| CallR.mono (Z.CallR.or (cr_max hc) (call_max2 hc)) fun vs H Q q => by
  obtain ⟨ρ, ws, h, S, r, q⟩ := q
  unfold bMax at q
  split at q
  · split at q
    · rename_i xs hx
      split at q
      · rename_i ns hns
        split at q
        · rename_i hp
          cases r with
          | cons r r' =>
            cases r'
            obtain ⟨a, us, rfl, sq, rs⟩ := S.list hx r
            rw [rel_ints hns rs] at sq
            refine .inl ⟨a, ns, rfl, sq, hp, fun m h1 h2 => ?_⟩
            have e : m = maxI ns := Int.le_antisymm ((maxI_mem hp).2 m h1) (h2 _ (maxI_mem hp).1)
            subst e
            exact q ρ H .refl S _ (.int _)
        · exact q.elim
      · exact q.elim
    · exact q.elim
  · exact .inr ⟨_, _, r.two, q ρ H .refl S _ (.int _)⟩
  · exact q.elim
theorem min_S (hc : X.calm = true) : CallS X G (.builtin "min") bMin := .mk <| CallR.mono (Z.CallR.or (cr_min hc) (call_min2 hc)) fun vs H Q q => by
  obtain ⟨ρ, ws, h, S, r, q⟩ := q
  unfold bMin at q
  split at q
  · split at q
    · rename_i xs hx
      split at q
      · rename_i ns hns
        split at q
        · rename_i hp
          cases r with
          | cons r r' =>
            cases r'
            obtain ⟨a, us, rfl, sq, rs⟩ := S.list hx r
            rw [rel_ints hns rs] at sq
            refine .inl ⟨a, ns, rfl, sq, hp, fun m h1 h2 => ?_⟩
            have e : m = minI ns := Int.le_antisymm (h2 _ (minI_mem hp).1) ((minI_mem hp).2 m h1)
            subst e
            exact q ρ H .refl S _ (.int _)
        · exact q.elim
      · exact q.elim
    · exact q.elim
  · exact .inr ⟨_, _, r.two, q ρ H .refl S _ (.int _)⟩
  · exact q.elim

/-! ### isinstance, of what has a builtin's type -/
def tyOf (h : AH) : W → Option String
  | .non => some "NoneType"
  | .bl _ => some "bool"
  | .int _ => some "int"
  | .str _ => some "str"
  | .byt _ => some "bytes"
  | .flt _ => some "float"
  | .tup _ => some "tuple"
  | .ref n => match h[n]? with
    | some (.lst _) => some "list"
    | some (.fro _) => some "list"
    | _ => none
  | _ => none
def isB (t T : String) : Option Bool :=
  if T ∈ (["int", "str", "bool", "bytes", "list", "tuple", "dict"] : List String) ∧ t ∈ (["NoneType", "bool", "int", "str", "bytes", "float", "tuple", "list"] : List String) then some (t == T || (t == "bool" && T == "int")) else none
theorem isB_kit {K : PySem.W.Frag} {t T : String} {b : Bool} (e : isB t T = some b) : PySem.W.kitOne K (.type t) (.type T) = some b := by
  unfold isB at e
  split at e
  · rename_i hh
    obtain ⟨h1, h2⟩ := hh
    simp only [List.mem_cons, List.mem_nil_iff, or_false] at h1 h2
    cases e
    rcases h1 with rfl | rfl | rfl | rfl | rfl | rfl | rfl <;> rcases h2 with rfl | rfl | rfl | rfl | rfl | rfl | rfl | rfl <;> first | rfl | (with_unfolding_all rfl)
  · cases e
def bIsi : OC := fun ws h => match ws with
  | [x, .ty T] => match tyOf h x with
    | some t => match isB t T with
      | some b => .ok (.bl b) h
      | none => .bad
    | none => .bad
  | _ => .bad
theorem isi_S : CallS X G (.builtin "isinstance") bIsi := by
  refine .mk ?_
  intro pins s σ H xs us Q I r q
  obtain ⟨ρ, ws, h, S, rw', q⟩ := q
  unfold bIsi at q
  split at q
  · rename_i x T
    split at q
    · rename_i t ht
      split at q
      · rename_i b hb
        have q := q ρ H .refl S _ (.bl b)
        cases rw' with
        | cons r1 r2 => cases r2 with
          | cons r3 r4 =>
            cases r3; cases r4
            cases r with
            | cons u1 u2 => cases u2 with
              | cons u3 u4 =>
                cases u4
                cases u3
                have hk := isB_kit (K := X.K) hb
                have fin : ∀ tk, EP X pins σ Q (.bool b) { s with toks := tk } := fun tk => ⟨.bl b, H, I.tok tk, rfl, q⟩
                cases x with
                | non => cases r1; cases ht; cases u1; exact PySem.W.kia_one PySem.W.kitx_none I.kIn True.intro hk (fun z => nomatch z) fin
                | bl y => cases r1; cases ht; cases u1; exact PySem.W.kia_one PySem.W.kitx_bool I.kIn True.intro hk (fun z => nomatch z) fin
                | int y => cases r1; cases ht; obtain ⟨tk, rfl⟩ := u1; exact PySem.W.kia_one PySem.W.kitx_int I.kIn True.intro hk (fun z => nomatch z) fin
                | str y => cases r1; cases ht; obtain ⟨tk, rfl⟩ := u1; exact PySem.W.kia_one PySem.W.kitx_str I.kIn True.intro hk (fun z => nomatch z) fin
                | byt y => cases r1; cases ht; obtain ⟨tk, rfl⟩ := u1; exact PySem.W.kia_one PySem.W.kitx_bytes I.kIn True.intro hk (fun z => nomatch z) fin
                | flt y => cases r1; cases ht; obtain ⟨tk, rfl⟩ := u1; exact PySem.W.kia_one PySem.W.kitx_float I.kIn True.intro hk (fun z => nomatch z) fin
                | tup y =>
                  cases ht
                  cases r1 with
                  | tup sq rs =>
                    cases u1
                    obtain ⟨its, _, ⟨o, h1, h2, _⟩, _⟩ := I.tuple sq
                    exact PySem.W.kia_one PySem.W.kitx_tuple I.kIn ⟨o, h1, h2⟩ hk (fun z => nomatch z) fin
                | ref n =>
                  have hl : ∃ xs, listAt h n = some xs ∧ t = "list" := by
                    simp only [tyOf] at ht
                    unfold listAt
                    split at ht
                    · rename_i e; first | (rw [e]; cases ht; exact ⟨_, rfl, rfl⟩) | (cases ht; exact ⟨_, rfl, rfl⟩)
                    · rename_i e; first | (rw [e]; cases ht; exact ⟨_, rfl, rfl⟩) | (cases ht; exact ⟨_, rfl, rfl⟩)
                    · cases ht
                  obtain ⟨xs, hx, rfl⟩ := hl
                  obtain ⟨a, vs, rfl, sq, rs⟩ := S.list hx r1
                  cases u1
                  obtain ⟨its, _, ⟨o, n', h1, h2, _⟩, _⟩ := I.list sq
                  exact PySem.W.kia_one PySem.W.kitx_list I.kIn ⟨o, h1, h2⟩ hk (fun z => nomatch z) fin
                | _ => cases ht
      · exact q.elim
    · exact q.elim
  · exact q.elim
/-- a builtin class as a value -/
theorem se_tyv {x : Str} {T : String} {pos : Pos} (hg : Gl X x) (hm : X.mg x = none) (hv : bootBuiltins x = some (.type T)) (hn : x ≠ "__name__" := by decide) (hd : (x == ("__debug__" : Str)) = false := by decide) : SE X G (.Name x pos) (xC (.ty T)) :=
  .mk <| PE.mono (pe_bltn (v := .ty T) hg hm hv rfl hn hd) fun _ _ _ q => tC_of (fun _ _ => .ty T) q

/-! ### methods of lists -/
abbrev OM := W → List W → AH → Res W
def mOf (X : Cx) (G : GT) (r : OM) : V → List V → Hp → VK → Prop := fun x vs H Q => ∃ ρ w ws h, HS ⟨X.K, G⟩ ρ h H ∧ RelW ⟨X.K, G⟩ ρ H w x ∧ RelWs ⟨X.K, G⟩ ρ H ws vs ∧ Gd X G ρ H (r w ws h) fun w _ ρ' H' => ∀ v, RelW ⟨X.K, G⟩ ρ' H' w v → Q v H'
structure MtS (X : Cx) (G : GT) (id : String) (r : OM) : Prop where
  p : MtR X id (mOf X G r)
theorem MtR.mono {id : String} {r r' : V → List V → Hp → VK → Prop} (h : MtR X id r) (k : ∀ x vs H Q, r' x vs H Q → r x vs H Q) : MtR X id r' := fun pins s σ H x xs v us Q I r1 r2 q => h pins s σ H x xs v us Q I r1 r2 (k _ _ _ _ q)
def isLst (h : AH) : W → Bool
  | .ref n => (listAt h n).isSome
  | _ => false
theorem isLst_ty {ρ : List Addr} {h : AH} {H : Hp} {w : W} {v : V} (S : HS ⟨X.K, G⟩ ρ h H) (r : RelW ⟨X.K, G⟩ ρ H w v) (e : isLst h w = true) : tyV X.K "list" v H := by
  cases w with
  | ref n =>
    obtain ⟨xs, hx⟩ := Option.isSome_iff_exists.mp (show (listAt h n).isSome = true from e)
    obtain ⟨a, vs, rfl, sq, rs⟩ := S.list hx r
    exact .inl ⟨rfl, vs, sq⟩
  | _ => cases e
def xBM (r : OM) (o : XE) (t : XA) : XE := fun σ h => (o σ h).bind fun x h1 => if isLst h1 x = true then (t σ h1).bind fun ws h2 => r x ws h2 else .bad
theorem se_bm {o : Expr} {fo : XE} {es : List Expr} {t : XA} {name : Str} {apos : Pos} {id : String} {r : OM} (slot : Slot "list" name id) (hty : typeOf (.builtin id) = pure (.type "method_descriptor")) (hm : MtS X G id r) (ho : SE X G o fo) (ha : SA X G (a :: es) t)
    (hbase : attributeBase o name X.env (eval o X.env) = eval o X.env := by rfl)
    (hfew : ((backTo pos (starEach (a :: es) X.env)).all (fun x => !x.1) && (backToKw pos (keywordEach [] X.env)).all (fun x => x.1.isSome)
      && decide ((a :: es).length + ([] : List Keyword).length + (if ([] : List Keyword).isEmpty then 0 else 1) < 30)) = true := by rfl)
    (hline : (apos.endLine == pos.line) = true := by rfl) (hs : starEach (a :: es) X.env = (false, eval a X.env) :: starEach es X.env := by rfl) (hplain : (backTo pos (starEach es X.env)).any (·.1) = false := by rfl) :
    SE X G (.Call (.Attribute o name apos) (a :: es) [] pos) (xBM r fo t) := .mk <| PE.mono (pe_bm PySem.F.plainAttrs_list slot hty hm.p ho.p ha.p hbase hfew hline hs hplain) fun τ H Q q => by
  obtain ⟨ρ, σ, h, S, L, q⟩ := q
  refine seq_E S L q fun x h1 ρ1 H1 v S1 L1 x1 r1 q1 => ?_
  split at q1
  · rename_i hl
    refine ⟨isLst_ty S1 r1 hl, seq_A S1 L1 q1 fun ws h2 ρ2 H2 vs S2 L2 x2 r2 q2 => ?_⟩
    exact ⟨ρ2, x, ws, h2, S2, r1.ext x2, r2, q2⟩
  · exact q1.elim
def xBM0 (r : OM) (o : XE) : XE := fun σ h => (o σ h).bind fun x h1 => if isLst h1 x = true then r x [] h1 else .bad
theorem se_bm0 {o : Expr} {fo : XE} {name : Str} {apos : Pos} {id : String} {r : OM} (slot : Slot "list" name id) (hty : typeOf (.builtin id) = pure (.type "method_descriptor")) (hm : MtS X G id r) (ho : SE X G o fo)
    (hbase : attributeBase o name X.env (eval o X.env) = eval o X.env := by rfl) (hline : (apos.endLine == pos.line) = true := by rfl) :
    SE X G (.Call (.Attribute o name apos) [] [] pos) (xBM0 r fo) := .mk <| PE.mono (pe_bm0 PySem.F.plainAttrs_list slot hty hm.p ho.p hbase hline) fun τ H Q q => by
  obtain ⟨ρ, σ, h, S, L, q⟩ := q
  refine seq_E S L q fun x h1 ρ1 H1 v S1 L1 x1 r1 q1 => ?_
  split at q1
  · rename_i hl
    exact ⟨isLst_ty S1 r1 hl, ρ1, x, [], h1, S1, r1, .nil, q1⟩
  · exact q1.elim
/-- the list at n is written -/
theorem HS.wlist {ρ : List Addr} {h : AH} {H : Hp} {n : Nat} {xs ys : List W} {v : V} (S : HS ⟨X.K, G⟩ ρ h H) (e : h[n]? = some (.lst xs)) (r : RelW ⟨X.K, G⟩ ρ H (.ref n) v) :
    ∃ a vs, v = .ref a ∧ H a = some (.lst vs) ∧ RelWs ⟨X.K, G⟩ ρ H xs vs ∧ ∀ (ys : List W) (us : List V), RelWs ⟨X.K, G⟩ ρ H ys us → HS ⟨X.K, G⟩ ρ (h.set n (.lst ys)) (upd H a (.lst us)) ∧ Ext ⟨X.K, G⟩ ρ H ρ (upd H a (.lst us)) := by
  obtain ⟨a, rfl, hn, o⟩ := S.of_ref e r
  cases o with
  | lst h1 h2 =>
    refine ⟨a, _, rfl, h1, h2, fun ys us r' => ?_⟩
    have x : Ext ⟨X.K, G⟩ ρ H ρ (upd H a (.lst us)) := ⟨fun _ _ z => z, fun b vs z => sqT_upd (fun xs q => by rw [h1] at q; cases q) (fun ob xs q => by rw [h1] at q; cases q) z⟩
    exact S.write hn e (fun z => z) h1 (fun xs z => by cases z) (fun ob xs z => by cases z) (.lst upd_same (r'.ext x)) (fun xs z => by cases z)
def oAppend : OM := fun w ws h => match w, ws with
  | .ref n, [x] => match h[n]? with
    | some (.lst xs) => if xs.length < sizeLine then .ok .non (h.set n (.lst (xs ++ [x]))) else .bad
    | _ => .bad
  | _, _ => .bad
theorem append_S : MtS X G "list.append" oAppend := .mk <| MtR.mono mt_append fun x vs H Q q => by
  obtain ⟨ρ, w, ws, h, S, r, rs, q⟩ := q
  unfold oAppend at q
  split at q
  · split at q
    · rename_i xs hx
      split at q
      · rename_i hz
        cases rs with
        | cons r1 r2 =>
          cases r2
          obtain ⟨a, vs, rfl, ha, rx, k⟩ := S.wlist (ys := []) hx r
          obtain ⟨S', x'⟩ := k _ _ (rx.append (.cons r1 .nil))
          exact ⟨a, vs, _, rfl, rfl, ha, by rw [← rx.length]; exact hz, q ρ _ x' S' _ .non⟩
      · exact q.elim
    · exact q.elim
  · exact q.elim
def oReverse : OM := fun w ws h => match w, ws with
  | .ref n, [] => match h[n]? with
    | some (.lst xs) => .ok .non (h.set n (.lst xs.reverse))
    | _ => .bad
  | _, _ => .bad
theorem reverse_S : MtS X G "list.reverse" oReverse := .mk <| MtR.mono mt_reverse fun x vs H Q q => by
  obtain ⟨ρ, w, ws, h, S, r, rs, q⟩ := q
  unfold oReverse at q
  split at q
  · split at q
    · rename_i xs hx
      cases rs
      obtain ⟨a, vs, rfl, ha, rx, k⟩ := S.wlist (ys := []) hx r
      obtain ⟨S', x'⟩ := k _ _ rx.reverse
      exact ⟨a, vs, rfl, rfl, ha, q ρ _ x' S' _ .non⟩
    · exact q.elim
  · exact q.elim
/-- xs[i] = e -/
def sSub (e o i : XE) : XS := fun σ h => (e σ h).bind fun v h1 => (o σ h1).bind fun x h2 => (i σ h2).bind fun k h3 => match x, k with
  | .ref n, .int z => match h3[n]? with
    | some (.lst xs) => match ixN xs.length z with
      | some j => .ok (.nx σ) (h3.set n (.lst (xs.set j v)))
      | none => .bad
    | _ => .bad
  | _, _ => .bad
theorem ss_sub {o i : Expr} {fo fi : XE} (ha : SE X G a fa) (ho : SE X G o fo) (hi : SE X G i fi) (hs : swapsWithSole [.Subscript o i p2] a pos.line X.env = pure false := by rfl) (hw : swappedStores [.Subscript o i p2] a X.env = pure none := by rfl)
    (h1 : (assignEach [.Subscript o i p2] X.env).map (·.2) = [assign (.Subscript o i p2) X.env] := by rfl)
    (has : ∀ v, assign (.Subscript o i p2) X.env v = (do
      let ov ← holding [v] (eval o X.env)
      let iv ← holding [v, ov] (eval i X.env)
      standAt p2
      holding [v, ov, iv] (setItem ov iv v)
      release [v, ov, iv] []) := by intro _; rfl) : SS X G (.Assign [.Subscript o i p2] a pos) (sSub fa fo fi) := .mk <| PS.mono (ps_asg ha.p (pg_sub ho.p hi.p set_list has) hs hw h1) fun D τ H q => by
  obtain ⟨ρ, σ, h, S, L, q⟩ := q
  refine seq_E S L q fun v h1 ρ1 H1 v' S1 L1 x1 r1 q1 => ?_
  refine seq_E S1 L1 q1 fun x h2 ρ2 H2 x' S2 L2 x2 r2 q2 => ?_
  refine seq_E S2 L2 q2 fun k h3 ρ3 H3 k' S3 L3 x3 r3 q3 => ?_
  split at q3
  · split at q3
    · rename_i xs hx
      split at q3
      · rename_i j hj
        cases r3
        obtain ⟨a, vs, rfl, ha, rx, kk⟩ := S3.wlist (ys := []) hx (r2.ext x3)
        obtain ⟨S', x'⟩ := kk _ _ (rx.set ((r1.ext x2).ext x3) j)
        exact ⟨a, vs, _, j, rfl, rfl, ha, by rw [← rx.length]; exact hj, q3 ρ3 _ x' S' τ (L3.ext x')⟩
      · exact q3.elim
    · exact q3.elim
  · exact q3.elim

/-! ### own defs -/
abbrev Fenv := Nat → List W → AH → Res W
/-- a def's promise by its reading -/
def spF (K : PySem.W.Frag) (G : GT) (n : Nat) (φ : List W → AH → Res W) : Sp := fun vs H Q _ => ∃ ρ ws h, HS ⟨K, G⟩ ρ h H ∧ RelWs ⟨K, G⟩ ρ H ws vs ∧ ws.length = n ∧ match φ ws h with
  | .ok w h' => ∀ ρ' H' v, Ext ⟨K, G⟩ ρ H ρ' H' → HS ⟨K, G⟩ ρ' h' H' → RelW ⟨K, G⟩ ρ' H' w v → Q v H'
  | .exc _ _ => False
  | .bad => False
def xCall (φ : List W → AH → Res W) (n : Nat) (t : XA) : XE := fun σ h => (t σ h).bind fun ws h1 => if ws.length = n then φ ws h1 else .bad
theorem sp_of_gd {ρ : List Addr} {ws : List W} {h : AH} {H : Hp} {vs : List V} {Q : VK} {E : XK} {φ : List W → AH → Res W} {n : Nat} (S : HS ⟨X.K, G⟩ ρ h H) (r : RelWs ⟨X.K, G⟩ ρ H ws vs) (hn : ws.length = n)
    (q : Gd X G ρ H (φ ws h) fun w _ ρ' H' => ∀ v, RelW ⟨X.K, G⟩ ρ' H' w v → Q v H') : spF X.K G n φ vs H Q E := by
  refine ⟨ρ, ws, h, S, r, hn, ?_⟩
  cases e : φ ws h with
  | ok w h' => rw [e] at q; exact fun ρ' H' v x s r' => q ρ' H' x s v r'
  | exc c h' => rw [e] at q; exact q
  | bad => rw [e] at q; exact q
/-- a def by its body -/
def startW (n : Nat) (ws : List W) : SW := ws.map some ++ List.replicate (n - ws.length) none
def runB (n : Nat) (body : XS) : List W → AH → Res W := fun ws h => (body (startW n ws) h).bind fun fl h1 => match fl with
  | .nx _ => .ok .non h1
  | .rt w => .ok w h1
  | _ => .bad
theorem start_rel {g : Gx} {ρ : List Addr} {H : Hp} {N : List Str} {ws : List W} {vs : List V} (r : RelWs g ρ H ws vs) : LR g ρ H (startW N.length ws) (L2.start N vs) := by
  unfold startW L2.start
  refine ⟨by simp [r.length], fun i w e => ?_⟩
  by_cases hi : i < ws.length
  · rw [List.getElem?_append_left (by simpa using hi), List.getElem?_map] at e
    cases e2 : ws[i]? with
    | none => rw [e2] at e; cases e
    | some w' =>
      rw [e2] at e
      cases e
      obtain ⟨v, ev, rv⟩ := r.get e2
      refine ⟨v, ?_, rv⟩
      rw [List.getElem?_append_left (by simpa [← r.length] using hi), List.getElem?_map, ev]
      rfl
  · rw [List.getElem?_append_right (by simpa using hi), List.getElem?_replicate] at e
    split at e <;> cases e
theorem fn_S {P : Program} {w : World} {K : PySem.W.Frag} {mg : Str → Option Value} {base : Heap} {x qual : Str} {st : Stmt} {fn : Addr} {fd : FuncData} {N ps : List Str} {k : Nat} {body : XS} (F : Fun K x qual st fn fd) (Sc : FnScope N ps (defScope st))
    (hbody : ∀ (cdv : Value) (A : Around) (outer : List Env) (s : Shared) (H : Hp) (E : XK), Room k (A.deeper (envOfC qual (defScope st) s.heap.objs.size fn cdv)) →
      SB (cxOf CX0 P w K mg base N qual (defScope st) fn cdv A outer s H E).nox G (defBody st) body) : FnOk P w K mg base CX0 (k + 1) fn fd ps (spF K G ps.length (runB N.length body)) := by
  refine F.ok Sc (fun vs H Q E h => ?_) (fun cdv A outer s H vs Q E hr h => ?_)
  · obtain ⟨ρ, ws, h, S, r, hn, _⟩ := h
    rw [← r.length, hn]
  · refine ⟨_, (hbody cdv A outer s H E hr).p, ?_⟩
    obtain ⟨ρ, ws, h, S, r, hn, q⟩ := h
    refine ⟨ρ, startW N.length ws, h, S, start_rel r, ?_⟩
    unfold runB at q
    cases e : body (startW N.length ws) h with
    | ok fl h1 =>
      rw [e, Res.bind_ok] at q
      intro ρ' H' x s
      cases fl with
      | nx σ' => exact fun τ' L' => q ρ' H' _ x s .non
      | rt w' => exact fun v r' => q ρ' H' v x s r'
      | bk _ => exact q.elim
      | ct _ => exact q.elim
    | exc c h1 => rw [e] at q; exact q
    | bad => rw [e] at q; exact q
end
end Z
set_option Elab.async false
set_option linter.all false
set_option maxRecDepth 100000
set_option maxHeartbeats 4000000
namespace Z
open PySem PySem.Spec PyProof.Rows L2

section
variable {X : Cx} {G : GT} {a b c : Expr} {fa fb fc : XE} {pos p2 : Pos} {st : Stmt} {rest body : List Stmt} {f g : XS} {tg iter : Expr}

/-! ### comprehensions -/
def wpW (σ : SW) : List Nat → SW
  | [] => σ
  | v :: vs => (wpW σ vs).set v none
theorem LR.wipe {g : Gx} {ρ : List Addr} {H : Hp} {σ : SW} {τ : L2.St} (l : LR g ρ H σ τ) : ∀ vs : List Nat, LR g ρ H (wpW σ vs) (L2.wipe τ vs)
  | [] => l
  | v :: vs => by unfold wpW L2.wipe; exact (LR.wipe l vs).setNone v
theorem wipe_get {τ : L2.St} : ∀ (vs : List Nat) (j : Nat), (L2.wipe τ vs)[j]? = if j ∈ vs then (if j < τ.length then some none else none) else τ[j]?
  | [], j => by simp [L2.wipe]
  | v :: vs, j => by
    unfold L2.wipe
    by_cases hj : v = j
    · subst hj
      rw [if_pos (by simp)]
      by_cases hv : v < τ.length
      · rw [if_pos hv, List.getElem?_set_self (by rw [wipe_length]; exact hv)]
      · rw [if_neg hv, List.getElem?_eq_none (by simp [wipe_length]; omega)]
    · rw [List.getElem?_set_ne hj, wipe_get vs j]
      by_cases hm : j ∈ vs
      · rw [if_pos hm, if_pos (List.mem_cons_of_mem _ hm)]
      · rw [if_neg hm, if_neg (by simp only [List.mem_cons, not_or]; exact ⟨fun e => hj e.symm, hm⟩)]
theorem SameBut.wipe {sl vs : List Nat} {τ τ' : L2.St} (h : SameBut sl τ τ') (hs : ∀ i ∈ sl, i ∈ vs) : L2.wipe τ' vs = L2.wipe τ vs := by
  refine List.ext_getElem? fun j => ?_
  rw [wipe_get, wipe_get, h.1]
  by_cases hm : j ∈ vs
  · rw [if_pos hm, if_pos hm]
  · rw [if_neg hm, if_neg hm, h.2 j fun z => hm (hs j z)]
theorem wipe_wipe {τ : L2.St} (vs : List Nat) : L2.wipe (L2.wipe τ vs) vs = L2.wipe τ vs := by
  refine List.ext_getElem? fun j => ?_
  rw [wipe_get, wipe_length, wipe_get]
  by_cases hm : j ∈ vs
  · rw [if_pos hm, if_pos hm]
  · rw [if_neg hm, if_neg hm]
def Res.noexc {α : Type} : Res α → Res α
  | .ok a h => .ok a h
  | .exc _ _ => .bad
  | .bad => .bad
@[simp] theorem Res.noexc_ok {α : Type} {a : α} {h : AH} : (Res.ok a h).noexc = .ok a h := rfl
theorem Gd.blk {α : Type} {r : Res α} {ρ : List Addr} {H : Hp} {P : α → AH → List Addr → Hp → Prop} {s : Shared} {H0 : Hp} {scope : Scope} {ce : Env} {fp : List Addr} (q : Gd X G ρ H r.noexc P) : Gd (X.blk s H0 scope ce fp) G ρ H r P := by
  cases r with
  | ok a h => exact q
  | exc c h => exact q.elim
  | bad => exact q
def loopC (stay : AH → Bool) (g : TGt) (t : XT) (e : XE) (n : Nat) (σ : SW) : List W → AH → Res W
  | [], h => if stay h = true then .ok (.ref n) h else .bad
  | x :: xs, h => if stay h = true then match g.run x σ with
      | some σ1 => (t σ1 h).noexc.bind fun b h2 => if b = true then (e σ1 h2).noexc.bind fun y h3 => match h3[n]? with
            | some (.lst acc) => if acc.length < sizeLine then loopC stay g t e n σ xs (h3.set n (.lst (acc ++ [y]))) else .bad
            | _ => .bad
          else loopC stay g t e n σ xs h2
      | none => .bad
    else .bad
def xLc (it : XI) (g : TGt) (t : XT) (e : XE) (vs : List Nat) : XE := fun σ h => (it σ h).bind fun src h1 => loopC src.stay g t e h1.length (wpW σ vs) src.items (h1 ++ [.lst []])
def yYes : XT := fun _ h => .ok true h
theorem tLc_of {it : XI} {g : TGt} {t : XT} {e : XE} {vs : List Nat} (hsl : ∀ i ∈ g.slots, i ∈ vs) {τ : L2.St} {H : Hp} {Q : VK} (q : tE X G (xLc it g t e vs) τ H Q) :
    tLc (tI X G it) (gOf X G g) (tT X G fun σ h => (t σ h).noexc) (tE X G fun σ h => (e σ h).noexc) vs τ H Q := by
  obtain ⟨ρ, σ, h, S, L, q⟩ := q
  refine seq_I S L q fun src h1 ρ1 H1 J S1 L1 x1 hJ q1 => ?_
  intro D hD
  obtain ⟨y0, s0, r0⟩ := new_lst S1 .nil hD
  refine ⟨fun i m H' => m = src.items.length - i ∧ i ≤ src.items.length ∧ ∃ ρ' h', Ext ⟨X.K, G⟩ (ρ1 ++ [D]) (upd H1 D (.lst [])) ρ' H' ∧ HS ⟨X.K, G⟩ ρ' h' H' ∧ Gd X G ρ' H' (loopC src.stay g t e h1.length (wpW σ vs) (src.items.drop i) h') (fun w _ ρ' H' => ∀ v, RelW ⟨X.K, G⟩ ρ' H' w v → Q v H'),
    ⟨src.items.length, by simp, Nat.zero_le _, ρ1 ++ [D], _, .refl, s0, by simpa using q1.ext y0⟩, ?_⟩
  rintro i m H' ⟨rfl, hi, ρ', h', x', S', q'⟩
  have hD' : ρ'[h1.length]? = some D := by
    cases r0 with | ref e => exact x'.pre _ _ e
  have x1' : Ext ⟨X.K, G⟩ ρ1 H1 ρ' H' := y0.trans x'
  by_cases hlt : i < src.items.length
  · right
    have hd : src.items.drop i = src.items[i] :: src.items.drop (i + 1) := List.drop_eq_getElem_cons hlt
    have hw : src.items[i]? = some src.items[i] := by simp [hlt]
    rw [hd] at q'
    unfold loopC at q'
    split at q'
    · rename_i hst
      refine ⟨hJ.go i ρ' h' H' _ x1' S' hst hw, fun H2 => i + 1 ≤ src.items.length ∧ ∃ ρ2 h2, Ext ⟨X.K, G⟩ (ρ1 ++ [D]) (upd H1 D (.lst [])) ρ2 H2 ∧ HS ⟨X.K, G⟩ ρ2 h2 H2 ∧ Gd X G ρ2 H2 (loopC src.stay g t e h1.length (wpW σ vs) (src.items.drop (i + 1)) h2) (fun w _ ρ' H' => ∀ v, RelW ⟨X.K, G⟩ ρ' H' w v → Q v H'),
        fun H2 ⟨h2, k2⟩ => ⟨_, by omega, rfl, h2, k2⟩, fun x H2 hy => ?_⟩
      obtain ⟨xy, S2, rw'⟩ := hJ.yld i ρ' h' H' _ x H2 x1' S' hst hw hy
      split at q'
      · rename_i σ1 hr
        refine ⟨ρ', wpW σ vs, h', _, σ1, S2, ((L1.ext x1').ext xy).wipe vs, rw', hr, fun τ3 L3 b3 => ⟨?_, ?_⟩⟩
        · rw [b3.wipe hsl, wipe_wipe]
        · refine seq_T S2 L3 (q'.ext xy) fun b h2 ρ3 H3 S3 L3' x3 q3 => ?_
          cases b with
          | true =>
            rw [if_pos rfl] at q3 ⊢
            refine seq_E S3 L3' q3 fun y h4 ρ4 H4 v S4 L4 x4 r4 q4 => ?_
            have x4' : Ext ⟨X.K, G⟩ (ρ1 ++ [D]) (upd H1 D (.lst [])) ρ4 H4 := ((x'.trans xy).trans x3).trans x4
            split at q4
            · rename_i acc hacc
              split at q4
              · rename_i hz
                obtain ⟨a, us, e1, ha, rx, kk⟩ := S4.wlist (ys := []) hacc (.ref (((xy.trans x3).trans x4).pre _ _ hD'))
                cases e1
                obtain ⟨S5, x5⟩ := kk _ _ (rx.append (.cons r4 .nil))
                exact ⟨us, ha, by rw [← rx.length]; exact hz, hlt, ρ4, _, x4'.trans x5, S5, q4.ext x5⟩
              · exact q4.elim
            · exact q4.elim
          | false =>
            rw [if_neg Bool.false_ne_true] at q3 ⊢
            exact ⟨hlt, ρ3, h2, (x'.trans xy).trans x3, S3, q3⟩
      · exact q'.elim
    · exact q'.elim
  · left
    have e : i = src.items.length := by omega
    subst e
    rw [List.drop_length] at q'
    unfold loopC at q'
    split at q'
    · rename_i hst
      exact ⟨hJ.stop _ ρ' h' H' x1' S' hst (Nat.le_refl _), q' ρ' H' .refl S' _ (.ref hD')⟩
    · exact q'.elim
section
variable {elt : Expr} {ifs : List Expr} {scope : Scope} {own : List (Str × Nat)} {it : XI} {gt : TGt} {t : XT} {e : XE}
structure STs (X : Cx) (G : GT) (ifs : List Expr) (t : XT) : Prop where
  p : PTs X ifs (tT X G t)
theorem sts_nil : STs X G [] yYes := .mk <| fun pins s σ H Q I q => pts_nil pins s σ H Q I (by
  obtain ⟨ρ, σ', h, S, L, q⟩ := q
  exact q ρ H .refl S)
theorem sts_one {c : Expr} (h : ST X G c t) : STs X G [c] t := ⟨pts_one h.p⟩
theorem se_lc (hc : X.calm = true) (hN : X.N.Nodup) (hi : SI X G tg iter it) (ok : BlkOk X.N X.env.scope scope own)
    (hg : ∀ (s : Shared) (H : Hp) (C : Addr) (cl : List (Str × Addr)) (fp : List Addr), SG (X.blk s H scope (compEnvC scope cl C X.env) fp) G tg gt) (ht : ∀ (s : Shared) (H : Hp) (C : Addr) (cl : List (Str × Addr)) (fp : List Addr), STs (X.blk s H scope (compEnvC scope cl C X.env) fp) G ifs t)
    (he : ∀ (s : Shared) (H : Hp) (C : Addr) (cl : List (Str × Addr)) (fp : List Addr), SE (X.blk s H scope (compEnvC scope cl C X.env) fp) G elt e) (hsl : ∀ i ∈ gt.slots, i ∈ own.map (·.2) := by decide) (hs : ∀ x, foldedSetIterable iter X.env x = pure x := by intro _; rfl) :
    SE X G (.ListComp elt [⟨tg, iter, ifs, 0⟩] scope pos) (xLc it gt t e (own.map (·.2))) :=
  .mk <| PE.mono (pe_lc (te := tE X G fun σ h => (e σ h).noexc) (tt := tT X G fun σ h => (t σ h).noexc) (g := gOf X G gt) hc hN hi.p ok (fun s H C cl fp => (hg s H C cl fp).p)
    (fun s H C cl fp pins s' σ H' Q I q => (ht s H C cl fp).p pins s' σ H' Q I (by obtain ⟨ρ, σ', h, S, L, q⟩ := q; exact ⟨ρ, σ', h, S, L, Gd.blk q⟩))
    (fun s H C cl fp => PE.mono (he s H C cl fp).p fun τ H Q q => by obtain ⟨ρ, σ', h, S, L, q⟩ := q; exact ⟨ρ, σ', h, S, L, Gd.blk q⟩) hs) fun τ H Q q => tLc_of hsl q
theorem ss_setLc (i : Nat) {y : Str} {py spos : Pos} (hc : X.calm = true) (hN : X.N.Nodup) (hi : SI X G tg iter it) (ok : BlkOk X.N X.env.scope scope own)
    (hg : ∀ (s : Shared) (H : Hp) (C : Addr) (cl : List (Str × Addr)) (fp : List Addr), SG (X.blk s H scope (compEnvC scope cl C X.env) fp) G tg gt) (ht : ∀ (s : Shared) (H : Hp) (C : Addr) (cl : List (Str × Addr)) (fp : List Addr), STs (X.blk s H scope (compEnvC scope cl C X.env) fp) G ifs t)
    (he : ∀ (s : Shared) (H : Hp) (C : Addr) (cl : List (Str × Addr)) (fp : List Addr), SE (X.blk s H scope (compEnvC scope cl C X.env) fp) G elt e)
    (hsw : swapsWith (.ListComp elt [⟨tg, iter, ifs, 0⟩] scope pos) (some (.Name y py)) spos.line X.env = pure true) (hy : X.N[i]? = some y := by rfl) (hyl : X.env.scope.names.lookup y = some .local := by rfl) (hsl : ∀ i ∈ gt.slots, i ∈ own.map (·.2) := by decide) (hs : ∀ x, foldedSetIterable iter X.env x = pure x := by intro _; rfl) :
    SS X G (.Assign [.Name y py] (.ListComp elt [⟨tg, iter, ifs, 0⟩] scope pos) spos) (sSet i (xLc it gt t e (own.map (·.2)))) :=
  .mk <| PS.mono (ps_setLc (te := tE X G fun σ h => (e σ h).noexc) (tt := tT X G fun σ h => (t σ h).noexc) (g := gOf X G gt) hc hN hy hyl hsw hi.p ok (fun s H C cl fp => (hg s H C cl fp).p)
    (fun s H C cl fp pins s' σ H' Q I q => (ht s H C cl fp).p pins s' σ H' Q I (by obtain ⟨ρ, σ', h, S, L, q⟩ := q; exact ⟨ρ, σ', h, S, L, Gd.blk q⟩))
    (fun s H C cl fp => PE.mono (he s H C cl fp).p fun τ H Q q => by obtain ⟨ρ, σ', h, S, L, q⟩ := q; exact ⟨ρ, σ', h, S, L, Gd.blk q⟩) hs) fun D τ H q => by
  obtain ⟨ρ, σ, h, S, L, q⟩ := q
  refine tLc_of hsl ⟨ρ, σ, h, S, L, (Gd.bind q).mono fun w h' ρ' H' x s g v r => ?_⟩
  exact g ρ' H' .refl s _ ((L.ext x).set i r)
end
end
end Z
set_option Elab.async false
set_option linter.all false
set_option maxRecDepth 100000
set_option maxHeartbeats 4000000
namespace Z
open PySem PySem.W PySem.Calls PyProof.Rows L2

/-! ### from the head to a reading of the law's def; the script's numbers have at most 2^20 bits -/
theorem lay_bits {ns : List Int} (h : (WData.list (ns.map WData.int)).layable = true) : ∀ x ∈ ns, Builtin.Int.intBits x ≤ 1048576 := fun x hx => by
  have e : ofPy (.list (ns.map PyData.int)) = WData.list (ns.map WData.int) := by
    show WData.list (ofPys (ns.map PyData.int)) = _
    rw [ofPys_eq, List.map_map]
    rfl
  have hh : PySem.Spec.Shape.has (.list .int) (.list (ns.map PyData.int)) = true := by
    simp [PySem.Spec.Shape.has]
  have := lay0_ofPy (s := .list .int) (d := .list (ns.map PyData.int)) (by decide) hh (by rw [e]; exact h)
  have h2 : PyData.layable0 (.list (ns.map .int)) = true := by simpa [PyData.layableAll0] using this
  exact intBits_le_of_item hx h2
theorem attach_bits {l : OpenLaw} {n : Nat} {q : Program} {loose : List Str} {XP : (Str → Option Value) → Heap → Prop} {YP : World → Heap → Prop} {d : DefRec}
    (hn : l.most = some n) (hdf : d.params.defaults = [])
    (call : ∀ (w : World) (s₀ s₁ : Shared) (mg mb : Str → Option Value) (fa : Addr) (o : Obj) (pm cd doc : Value) (a : Addr) (vs : List Value) (ns : List Int),
      Ground q loose [] XP w s₀ mg mb s₁.heap → YP w s₁.heap →
      s₁.heap.get? fa = some o → o.data = .func (docDef d.name d.params d.body d.scope pm cd doc) → s₁.heap.CodeRec cd d.name → mg d.name = some (.ref fa) →
      s₁.heap.get? a = some { cls := .type "list", data := .seq vs.toArray } → IntsAre vs ns → ns.length ≤ n → (∀ x ∈ ns, Builtin.Int.intBits x ≤ 1048576) → s₁.gens = #[] →
      codeAny (model l.prog w) callerA (.call (.ref fa) ⟨[.ref a], []⟩) (fun r s' => r = .ok (.ret (.bool true)) ∧ OldK s₁.heap s'.heap ∧ s'.os = s₁.os ∧ AllBare s'.gens) s₁) :
    WalkO q loose XP YP l.row.toRowW d [] (fun f vs => PySem.call f vs) := by
  intro w s₀ s₁ mg mb G Y fa o pm cd doc dV kV ho hd hcd hD hmg hg args vals as hpre hlay hrd hwl hlo
  obtain rfl : dV = .none := Dflts.none hD hdf
  obtain rfl : kV = .none := Dflts.noKw hD
  obtain ⟨a, vs, ns, rfl, rfl, hobj, hints, hlen⟩ := Att.script_of hn hpre hwl
  have hb := lay_bits (layW_cons hlay).1
  refine enter_call (codeAny_mono (call w s₀ s₁ mg mb fa o pm cd doc a vs ns G Y ho (fd_plain hd) hcd hmg hobj hints hlen hb hg) fun r s' hq => ?_)
  obtain ⟨rfl, h2, h3, h4⟩ := hq
  exact ⟨.inl ⟨.bool true, .bool true, [], rfl, fun _ => rfl, .bool true, Att.post_true l _, fun _ => ⟨List.Pairwise.nil, fun _ hm => (nomatch hm)⟩⟩, h2, h3, h4⟩
/-- where a def's code keeps the codes within it -/
theorem tabIn_of {K : PySem.W.Frag} {x : Str} {f c P : Addr} {oc oc' : Value} {od od' : Option Addr} {sl sl' : Array (Option Value)} {fd : FuncData} {vs : Array Value} (a : nsIn K mainGlobals x = some (some (.ref f))) (l : K.lookup f = some ⟨oc, od, .func fd, sl⟩) (hc : fd.code = .ref c)
    (v : K.lookup c = some ⟨oc', od', .fields vs, sl'⟩) (w : (vs[11]? : Option Value) = some (.ref P)) : tabIn K x = some (c, P) := by
  unfold tabIn
  simp only [a, l, hc, v, w]
theorem codeK {K : PySem.W.Frag} {h : Heap} {c P : Addr} {o : Obj} (X : K.In h) (v : K.lookup c = some o) (hd : CodeHd h c P) : ∀ h', K.In h' → CodeHd h' c P := fun h' X' => by
  obtain ⟨o', vs, file, tf, flags, tg, inF, text, tt, e, r⟩ := hd
  have e1 := X c o v
  rw [e] at e1
  cases e1
  exact ⟨o, vs, file, tf, flags, tg, inF, text, tt, X' c o v, r⟩
/-- what the module of built-in names is -/
def BMain (mg : Str → Option Value) (h : Heap) : Prop := ∃ bm ob, mg "__builtins__" = some (.ref bm) ∧ bm ≠ builtinsNs ∧ h.get? bm = some ob ∧ ob.cls = .type "module" ∧ ob.dict = some builtinsNs ∧ ob.data = .plain
/-- the abstract heap at the law's entry: the script, the tables -/
def H00 (K : PySem.W.Frag) (tabs : List (Addr × Addr)) (a : Addr) (so : Obj) (xs : List V) : Hp := fun b =>
  if b ∈ tabs.map (·.2) then some (.tbl #[]) else if b = a ∧ K.lookup a = none then some (.frz so (.lst xs)) else none
theorem law_callT {P : Program} {w : World} {K : PySem.W.Frag} {mg mb : Str → Option Value} {k : Nat} {fa a : Addr} {fd : FuncData} {x : Str} {sp : Sp} {s₁ : Shared} {vs : List Value} {ns : List Int} {tabs : List (Addr × Addr)}
    (KX : K.In s₁.heap) (hns : s₁.heap.Ns mainGlobals mg) (hb : s₁.heap.Ns builtinsNs mb) (hbb : ∀ x : Str, x ≠ "__name__" → mb x = bootBuiltins x) (hlim : s₁.heap.NoLimit) (hbm : BMain mg s₁.heap) (hg : s₁.gens = #[])
    (hT : TabsAt tabs s₁.heap) (hKT : noTabs K = true)
    (ha : s₁.heap.get? a = some { cls := .type "list", data := .seq vs.toArray }) (hi : IntsAre vs ns) (hl : ns.length ≤ sizeLine) (hr : Room k callerA)
    (F : ∀ base : Heap, K.In base → base.Ns mainGlobals mg → BMain mg base → FnOk P w K mg base CX0 k fa fd [x] sp) (hbind : ∀ (s : Shared) (u : Value), BindsTo s fd ⟨[u], []⟩ [(x, u)])
    (hsp : ∀ H : Hp, FroAt K H a (ns.map V.int) → (∀ q ∈ tabs, H q.2 = some (.tbl #[])) → sp [.ref a] H (fun v _ => v = .bl true) fun _ _ _ => False) :
    codeAny (model P w) callerA (.call (.ref fa) ⟨[.ref a], []⟩) (fun r s' => r = .ok (.ret (.bool true)) ∧ OldK s₁.heap s'.heap ∧ s'.os = s₁.os ∧ AllBare s'.gens) s₁ := by
  have rv := vals_ints hi
  have lenV := hi.length
  generalize hso : ({ cls := .type "list", data := .seq vs.toArray } : Obj) = so at ha
  generalize hH : H00 K tabs a so (ns.map V.int) = H
  have tabO : ∀ b, b ∈ tabs.map (·.2) → s₁.heap.get? b = some (tabObj #[]) := fun b hb => by
    obtain ⟨q, hq, e⟩ := List.mem_map.mp hb
    rw [← e]; exact (hT q hq).2
  have aT : a ∉ tabs.map (·.2) := fun z => by
    have e := tabO a z
    rw [ha, ← hso] at e; cases e
  have hin : ∀ b, b ∈ tabs.map (·.2) → H b = some (.tbl #[]) := fun b hb => by rw [← hH]; exact if_pos hb
  have hsc : K.lookup a = none → H a = some (.frz so (.lst (ns.map V.int))) := fun hk => by rw [← hH]; unfold H00; rw [if_neg aT, if_pos ⟨rfl, hk⟩]
  have hcases : ∀ b u, H b = some u → (b ∈ tabs.map (·.2) ∧ u = .tbl #[]) ∨ (b = a ∧ K.lookup a = none ∧ u = .frz so (.lst (ns.map V.int))) := fun b u e => by
    rw [← hH] at e
    unfold H00 at e
    split at e
    · rename_i hb; cases e; exact .inl ⟨hb, rfl⟩
    · split at e
      · rename_i hb; cases e; exact .inr ⟨hb.1, hb.2, rfl⟩
      · cases e
  have unt : ∀ {b : Addr} {o : Obj}, s₁.heap.get? b = some o → o ≠ tabObj #[] → o ≠ so → H b = none := fun {b o} e n1 n2 => by
    cases q : H b with
    | none => rfl
    | some u =>
      rcases hcases b u q with ⟨h1, _⟩ | ⟨h1, _⟩
      · rw [tabO b h1] at e; cases e; exact absurd rfl n1
      · rw [h1, ha] at e; cases e; exact absurd rfl n2
  have base_of : ∀ {b : Addr} {o : Obj}, s₁.heap.get? b = some o → H b = none → (hidT s₁.heap H).get? b = some o := fun e n => hidT_get e n
  have noA : ∀ {b : Addr} {o : Obj} {es : Array DictEntry} {ep : Nat}, s₁.heap.get? b = some o → o.data = .dict es ep → H b = none := fun {b o es ep} e d =>
    unt e (fun z => by rw [z] at d; cases d) fun z => by rw [z, ← hso] at d; cases d
  have nsK : ∀ {b : Addr} {m : Str → Option Value}, s₁.heap.Ns b m → (hidT s₁.heap H).Ns b m := fun {b m} ⟨o, es, ep, e, d, r⟩ => ⟨o, es, ep, base_of e (noA e d), d, r⟩
  have hKb : K.In (hidT s₁.heap H) := fun b o e => base_of (KX b o e) (by
    cases q : H b with
    | none => rfl
    | some u =>
      rcases hcases b u q with ⟨h1, _⟩ | ⟨h1, h2, _⟩
      · have z := KX b o e
        rw [tabO b h1] at z
        cases z
        have h2 := List.all_eq_true.mp hKT (b, _) (mem_of_lookupK e)
        exact absurd (show false = true from h2) Bool.false_ne_true
      · rw [h1, h2] at e; cases e)
  have hM : Mod K mg (hidT s₁.heap H) := ⟨hKb, nsK hns, ⟨mb, nsK hb, hbb⟩, let ⟨mc, h1, h2⟩ := hlim; ⟨mc, nsK h1, h2⟩⟩
  have hBM : BMain mg (hidT s₁.heap H) := by
    obtain ⟨bm, ob, b1, b2, b3, b4, b5, b6⟩ := hbm
    exact ⟨bm, ob, b1, b2, base_of b3 (unt b3 (fun z => by rw [z] at b6; cases b6) fun z => by rw [z, ← hso] at b6; cases b6), b4, b5, b6⟩
  have hok : HOk P w H s₁.heap := fun b u e => by
    rcases hcases b u e with ⟨h1, rfl⟩ | ⟨rfl, _, rfl⟩
    · exact tabO b h1
    · exact ⟨ha, by rw [List.length_map]; exact hl, vs, _, rv, by rw [hso]; exact ha⟩
  have e0 : Env0 P w K mg (hidT s₁.heap H) callerA [] s₁ H := ⟨rfl, hM, fun b o e => of_hidT e, Nat.le_of_eq (hidT_size _ _), trivial, fun b hb => absurd (show b ∈ ([] : List Addr) from hb) (by simp), hok, .of_eq hg⟩
  have hS : FroAt K H a (ns.map V.int) := by
    cases hk : K.lookup a with
    | none => exact .inl ⟨so, hsc hk⟩
    | some o =>
      have e := KX a o hk
      rw [ha] at e
      cases e
      rw [← hso] at hk
      exact .inr ⟨_, vs.toArray, _, hk, rfl, rfl, rfl, by rw [List.size_toArray, lenV]; exact hl, by simpa using rv⟩
  refine codeAny_mono ((F _ hKb (nsK hns) hBM).run callerA [] s₁ H ⟨[.ref a], []⟩ [.ref a] [.ref a] _ _ hr e0 (hbind s₁ (.ref a)) (.cons rfl .nil) (hsp H hS fun q hq => hin _ (List.mem_map_of_mem hq))) fun r s' h => ?_
  cases r with
  | error e => exact False.elim h
  | ok fl =>
    cases fl with
    | next => exact False.elim h
    | brk => exact False.elim h
    | cont => exact False.elim h
    | ret u =>
      obtain ⟨v, H', os, bare, un, hok', r', q⟩ := h
      have q' : v = .bl true := q
      subst q'
      obtain rfl : u = Value.bool true := r'
      have look : ∀ b o, s₁.heap.get? b = some o → s'.heap.get? b = some o ∨ (b ∈ tabs.map (·.2) ∧ ∃ more, s'.heap.get? b = some (tabObj (#[] ++ more))) := fun b o e => by
        cases q : H b with
        | none => exact .inl (un.keep b o e q (by intro z; exact absurd (show b ∈ ([] : List Addr) from z) (by simp)) (by simp))
        | some u =>
          rcases hcases b u q with ⟨h1, rfl⟩ | ⟨rfl, _, rfl⟩
          · obtain ⟨more, z⟩ := un.tbls b _ q
            exact .inr ⟨h1, more, hok' b _ z⟩
          · have z := un.frzs _ _ _ q
            obtain ⟨e2, _⟩ := hok' _ _ z
            rw [ha] at e; cases e
            exact .inl e2
      refine ⟨rfl, ⟨fun b o e => ?_, fun b o e => ?_⟩, os, bare⟩
      · rcases look b o e with z | ⟨h1, more, z⟩
        · exact .inl z
        · obtain ⟨q, hq, e1⟩ := List.mem_map.mp h1
          subst e1
          rw [(hT q hq).2] at e
          cases e
          exact .inr (.inl ⟨((hT q hq).1.tab (hT q hq).2).isCodeTable, rfl, #[], more, rfl, z⟩)
      · rcases look b o e with z | ⟨_, more, z⟩
        · exact ⟨_, z⟩
        · exact ⟨_, z⟩
theorem walk_Z {l : PySem.W.OpenLaw} {n k : Nat} {q : Program} {loose : List Str} {XP : (Str → Option Value) → Heap → Prop} {YP : World → Heap → Prop} {d : DefRec} {K : Params → PySem.W.Frag} {x : Str} {φ : List W → AH → Res W}
    (hn : l.most = some n) (hn2 : n ≤ sizeLine) (hdf : d.params.defaults = []) (hr : Room k callerA)
    (hY : ∀ (w : World) (h : Heap), YP w h → (K w.params).In h)
    (hKT : ∀ w : World, noTabs (K w.params) = true)
    (F : ∀ (w : World) (mg : Str → Option Value) (fa : Addr) (h : Heap), (K w.params).In h → h.Ns mainGlobals mg → mg d.name = some (.ref fa) → (∀ (x : Str) (c P : Addr) (d : DefRec), (recsOf q).find? (fun e => e.name == x) = some d → tabIn (K w.params) x = some (c, P) → CodeHd h c P ∧ h.get? P = some (tabObj #[])) →
      ∃ (fd : FuncData) (G : GT), TabsAt G.tb h ∧ (∀ (s : Shared) (u : Value), BindsTo s fd ⟨[u], []⟩ [(x, u)]) ∧
        ∀ base : Heap, (K w.params).In base → base.Ns mainGlobals mg → BMain mg base → FnOk l.prog w (K w.params) mg base CX0 k fa fd [x] (spF (K w.params) G 1 φ))
    (hφ : ∀ ns : List Int, ns.length ≤ n → (∀ x ∈ ns, Builtin.Int.intBits x ≤ 1048576) → ∃ h', φ [.ref 0] [.fro (ns.map .int)] = .ok (.bl true) h') :
    PySem.W.WalkO q loose XP YP l.row.toRowW d [] (fun f vs => PySem.call f vs) := by
  refine attach_bits hn hdf fun w s₀ s₁ mg mb fa o pm cd doc a vs ns GG Y ho hd hcd hmg hobj hints hlen hbits hg => ?_
  have KX := hY w _ Y
  obtain ⟨fd, G, hT, hb, hF⟩ := F w mg fa _ KX GG.T.g hmg fun x c P d hr ht => tab_of GG.T KX hr ht
  refine law_callT KX GG.T.g GG.T.b GG.T.builtins GG.T.nolimit GG.T.bmain hg hT (hKT w) hobj hints (Nat.le_trans hlen hn2) hr hF hb (fun H hfro htb => ?_)
  obtain ⟨h', e⟩ := hφ ns hlen hbits
  have rr : ∀ (ns : List Int), RelWs ⟨K w.params, G⟩ [a] H (ns.map .int) (ns.map V.int) := fun ns => by
    induction ns with
    | nil => exact .nil
    | cons i r ih => exact .cons (.int i) ih
  refine ⟨[a], [.ref 0], [.fro (ns.map .int)], ⟨rfl, fun i j b hij e1 e2 => ?_, fun i b ob e1 e2 => ?_, fun q hq => ⟨#[], htb q hq, trivial⟩⟩, .cons (.ref rfl) .nil, rfl, ?_⟩
  · have h1 : i < 1 := (List.getElem?_eq_some_iff.mp e1).1
    have h2 : j < 1 := (List.getElem?_eq_some_iff.mp e2).1
    omega
  · have h1 : i < 1 := (List.getElem?_eq_some_iff.mp e1).1
    obtain rfl : i = 0 := by omega
    cases e1; cases e2
    exact .fro hfro (rr ns)
  · rw [e]
    intro ρ' H' v x s r
    cases r
    rfl
end Z
set_option Elab.async false
set_option linter.all false
set_option maxRecDepth 100000
set_option maxHeartbeats 4000000
namespace Z
open PySem PySem.Spec PyProof.Rows L2
section
variable {X : Cx} {G : GT} {a b c d : Expr} {fa fb fc : XE} {pos p2 : Pos} {tg iter : Expr}

/-! ### three names at once -/
theorem ss_par3 (i j k : Nat) {x y z : Str} {ta : XA} {px py pz pt : Pos} {kt k2 pt2} (hc : X.calm = true) (hN : X.N.Nodup) (ha : SA X G [a, b, c] ta) (hi : X.N[i]? = some x := by rfl) (hj : X.N[j]? = some y := by rfl) (hk : X.N[k]? = some z := by rfl) (hij : i ≠ j := by decide) (hik : i ≠ k := by decide) (hjk : j ≠ k := by decide)
    (hx : X.env.scope.names.lookup x = some .local := by rfl) (hy : X.env.scope.names.lookup y = some .local := by rfl) (hz : X.env.scope.names.lookup z = some .local := by rfl)
    (hw : swappedStores [.Tuple [.Name x px, .Name y py, .Name z pz] kt pt] (.Tuple [a, b, c] k2 pt2) X.env = pure (some [x, y, z]) := by rfl)
    (hs : swapsWithSole [.Tuple [.Name x px, .Name y py, .Name z pz] kt pt] (.Tuple [a, b, c] k2 pt2) pos.line X.env = pure false := by rfl) :
    SS X G (.Assign [.Tuple [.Name x px, .Name y py, .Name z pz] kt pt] (.Tuple [a, b, c] k2 pt2) pos) (sPar [i, j, k] ta) := by
  refine .mk ?_
  intro pins s τ H D I h
  rw [exec_Assign_arm]
  refine wpAny_bind (wpAny_standAt ?_)
  rw [hs]
  refine wpAny_bind (wpAny_pure ?_)
  rw [if_neg (by decide)]
  obtain ⟨ρ, σ, h0, S, L, q⟩ := h
  have hA : tAs X G ta τ H (fun vs H1 => ∃ u v w, vs = [u, v, w] ∧ D.nx (((τ.set i (some u)).set j (some v)).set k (some w)) H1) := by
    refine seq_A S L q fun ws h1 ρ1 H1 vs S1 L1 x1 r1 q1 => ?_
    split at q1
    · rename_i σ' e
      obtain ⟨x, y, z, rfl, rfl⟩ := runAll_three e
      cases r1 with
      | cons ra r2 => cases r2 with
        | cons rb r3 => cases r3 with
          | cons rc r4 =>
            cases r4
            exact ⟨_, _, _, rfl, q1 ρ1 H1 .refl S1 _ (((L1.set i ra).set j rb).set k rc)⟩
    · exact q1.elim
  refine wpAny_bind (Tuple_ (thn (ha.p _ pins s τ H _ I hA) fun us s1 ⟨vs, H1, I1, r1, q1⟩ => ?_))
  obtain ⟨v, w, w2, e1, q1⟩ := q1
  subst e1
  obtain ⟨u1, u2, u3, rfl, rv, rw', rw2⟩ : ∃ u1 u2 u3, us = [u1, u2, u3] ∧ RelV v u1 ∧ RelV w u2 ∧ RelV w2 u3 := by
    cases r1 with
    | cons p q =>
      cases q with
      | cons p' q' =>
        cases q' with
        | cons p3 q3 =>
          cases q3
          exact ⟨_, _, _, rfl, p, p', p3⟩
  refine wpAny_newObj_type ?_ (by show 3 ≤ sizeLine; decide)
  have I2 : Inv X pins τ H1 { s1 with heap := s1.heap.push { cls := .type "tuple", data := .seq [u1, u2, u3].toArray } } := I1.kept (t' := s1.toks) fun b o e => Heap.get?_push_of_some _ e
  rw [hw]
  refine wpAny_bind (wpAny_pure ?_)
  show wpAny (model X.prog X.w) X.A (do rule "assign.swapped-stores"; let items ← unpackItems (.ref s1.heap.objs.size) 3 none; assignInOrder [fun v => bindName X.env z v, fun v => bindName X.env y v, fun v => bindName X.env x v] items.reverse; pure Flow.next) _ _ _
  refine wpAny_bind (wpAny_rule (wpAny_bind (unpackItems_tuple (items := #[u1, u2, u3]) (I.ok.hd hc) (IsTup.new s1.heap _) fun h' hx' => ?_)))
  have I3 := I2.kept (h' := h') (t' := s1.toks) fun b o e => hx' b o (Nat.ne_of_lt (Heap.lt_size e)) e
  show wpAny _ _ (assignInOrder [fun v => bindName X.env z v, fun v => bindName X.env y v, fun v => bindName X.env x v] [u3, u2, u1] >>= fun _ => pure Flow.next) _ _ _
  refine wpAny_bind (assignInOrder_cons (wpAny_bindName (store_ok I3 hN hk (.inl hz) rw2 (fun s2 I4 => ?_) (.inr hz))))
  refine assignInOrder_cons (wpAny_bindName (store_ok I4 hN hj (.inl hy) rw' (fun s3 I5 => ?_) (.inr hy)))
  refine assignInOrder_cons (wpAny_bindName (store_ok I5 hN hi (.inl hx) rv (fun s4 I6 => assignInOrder_nil (wpAny_pure ?_)) (.inr hx)))
  have e1 : ((τ.set k (some w2)).set j (some w)).set i (some v) = ((τ.set i (some v)).set j (some w)).set k (some w2) := by
    rw [List.set_comm _ _ hjk.symm, List.set_comm _ _ hik.symm, List.set_comm _ _ hij.symm]
  rw [e1] at I6
  exact ⟨_, H1, I6, q1⟩

/-! ### small ones -/
def xNeg (a : XE) : XE := fun σ h => (a σ h).bind fun x h1 => match x with
  | .int i => .ok (.int (-i)) h1
  | _ => .bad
theorem se_neg (ha : SE X G a fa) : SE X G (.UnaryOp .USub a pos) (xNeg fa) := .mk <| PE.mono (pe_un un_neg ha.p) fun τ H Q q => by
  obtain ⟨ρ, σ, h, S, L, q⟩ := q
  refine seq_E S L q fun x h1 ρ1 H1 v S1 L1 x1 r1 q1 => ?_
  cases x with
  | int i => cases r1; exact ⟨i, rfl, q1 ρ1 H1 .refl S1 _ (.int _)⟩
  | _ => exact q1.elim
theorem se_gint {x : Str} {i : Int} {pos : Pos} (hm : ∃ t, X.mg x = some (.int i t)) (hg : Gl X x := by rfl) (hd : (x == ("__debug__" : Str)) = false := by decide) : SE X G (.Name x pos) (xC (.int i)) := by
  obtain ⟨t, hm⟩ := hm
  exact se_glob (v := .int i) hg hm ⟨t, rfl⟩ (fun _ _ => .int i) hd
/-- a def as it stands behind the top -/
structure FnFact (K : PySem.W.Frag) (mg : Str → Option Value) (x qual : Str) (st : Stmt) (ps : List Str) (fn : Addr) (fd : FuncData) : Prop where
  F : Fun K x qual st fn fd
  b : Binds K fd ps []
  m : mg x = some (.ref fn)
theorem se_fn {x : Str} {st : Stmt} {p : Pos} {es : List Expr} {t : XA} {k n : Nat} {fn : Addr} {fd : FuncData} {ps : List Str} {φ : List W → AH → Res W} (T : FnFact X.K X.mg x x st ps fn fd) (F : FnOk X.prog X.w X.K X.mg X.base CX0 k fn fd ps (spF X.K G n φ)) (hr : Room k X.A)
    (ha : SA X G (a :: es) t) (hg : Gl X x := by rfl) (hdb : (x == ("__debug__" : Str)) = false := by decide) (he : starEach (a :: es) X.env = (false, eval a X.env) :: starEach es X.env := by rfl) (hpl : (backTo pos (starEach es X.env)).any (·.1) = false := by rfl) :
    SE X G (.Call (.Name x p) (a :: es) [] pos) (xCall φ n t) := .mk <| PE.mono (pe_call F hr hg T.m T.F.kp T.b .nil pass0 ha.p hdb he hpl) fun τ H Q q => by
  obtain ⟨ρ, σ, h, S, L, q⟩ := q
  refine seq_A S L q fun ws h1 ρ1 H1 vs S1 L1 x1 r1 q1 => ?_
  split at q1
  · rename_i hn
    rw [List.append_nil]
    exact sp_of_gd S1 r1 hn q1
  · exact q1.elim
theorem fnok_zero {P : Program} {w : World} {K : PySem.W.Frag} {mg : Str → Option Value} {base : Heap} {k : Nat} {fn : Addr} {fd : FuncData} {ps : List Str} {n : Nat} : FnOk P w K mg base CX0 k fn fd ps (spF K G n fun _ _ => .bad) :=
  ⟨fun vs H Q E h => by obtain ⟨_, _, _, _, _, _, z⟩ := h; exact z.elim, fun A outer s H args us vs Q E hr e0 hb r h => by obtain ⟨_, _, _, _, _, _, z⟩ := h; exact z.elim⟩
end
end Z
set_option Elab.async false
set_option linter.all false
set_option maxRecDepth 100000
set_option maxHeartbeats 4000000
namespace Z
open PySem PySem.Spec PyProof.Rows L2
section
variable {X : Cx} {G : GT} {a b c d : Expr} {fa fb fc : XE} {pos p2 : Pos} {tg iter : Expr}
instance decVis (sc : Scope) (x : Str) : Decidable (Vis sc x) := by unfold Vis; infer_instance
instance decLoc (sc : Scope) (x : Str) : Decidable (L2.Loc sc x) := by unfold L2.Loc; infer_instance
/-- a name of a def, its place among the def's names -/
structure VarOk (N : List Str) (sc : Scope) (i : Nat) (x : Str) : Prop where
  hN : N[i]? = some x
  hv : Vis sc x
  hl : L2.Loc sc x
  hd : (x == ("__debug__" : Str)) = false
  hcd : (x == ("__classdict__" : Str)) = false
theorem ev {i : Nat} {x : Str} (v : VarOk X.N X.env.scope i x) : SE X G (.Name x pos) (xVar i) := se_var i v.hN v.hv v.hd v.hcd
theorem gv {i : Nat} {x : Str} (v : VarOk X.N X.env.scope i x) (hN : X.N.Nodup) (hf : X.fn x = true := by rfl) : SG X G (.Name x pos) (gNm i) := sg_name i hN v.hN v.hl (.inl hf)
end
end Z
set_option Elab.async false
set_option linter.all false
set_option maxRecDepth 100000
set_option maxHeartbeats 4000000
/-! equations by which simp runs a reading: from the inside, never under a binder -/
namespace Z
open PySem L2

/-! ### what comes behind a result -/
def varK : Option (Option W) → AH → Res W
  | some (some w), h => .ok w h
  | _, _ => .bad
def opK (r : O2) (b : XE) (σ : SW) (x : Res W) : Res W := x.bind fun x h1 => (b σ h1).bind fun y h2 => r x y h2
def opK2 (r : O2) (x : W) (y : Res W) : Res W := y.bind fun y h2 => r x y h2
def bTK (x : Res W) : Res Bool := x.bind fun x h1 => match x with
  | .bl b => .ok b h1
  | _ => .bad
def chK (r r' : O2) (b c : XE) (σ : SW) (x : Res W) : Res W := x.bind fun x h1 => (b σ h1).bind fun y h2 => (r x y h2).bind fun z h3 => match z with
  | .bl true => (c σ h3).bind fun w h4 => r' y w h4
  | .bl false => .ok (.bl false) h3
  | _ => .bad
def chK2 (r r' : O2) (x : W) (c : XE) (σ : SW) (y : Res W) : Res W := y.bind fun y h2 => (r x y h2).bind fun z h3 => match z with
  | .bl true => (c σ h3).bind fun w h4 => r' y w h4
  | .bl false => .ok (.bl false) h3
  | _ => .bad
def chK3 (r' : O2) (y : W) (c : XE) (σ : SW) (z : Res W) : Res W := z.bind fun z h3 => match z with
  | .bl true => (c σ h3).bind fun w h4 => r' y w h4
  | .bl false => .ok (.bl false) h3
  | _ => .bad
def isNK (n : Bool) (x : Res W) : Res W := x.bind fun x h1 => .ok (.bl (n.xor (decide (x = .non)))) h1
def andK (b : XT) (σ : SW) (c : Res Bool) : Res Bool := c.bind fun c h1 => if c = true then b σ h1 else .ok false h1
def orK (b : XT) (σ : SW) (c : Res Bool) : Res Bool := c.bind fun c h1 => if c = true then .ok true h1 else b σ h1
def notK (c : Res Bool) : Res Bool := c.bind fun c h1 => .ok (!c) h1
def andVK (b : XE) (σ : SW) (x : Res W) : Res W := x.bind fun x h1 => match x with
  | .bl true => b σ h1
  | .bl false => .ok (.bl false) h1
  | _ => .bad
def orVK (b : XE) (σ : SW) (x : Res W) : Res W := x.bind fun x h1 => match x with
  | .bl true => .ok (.bl true) h1
  | .bl false => b σ h1
  | _ => .bad
def notVK (x : Res W) : Res W := x.bind fun x h1 => match x with
  | .bl c => .ok (.bl (!c)) h1
  | _ => .bad
def ifK (a b : XE) (σ : SW) (c : Res Bool) : Res W := c.bind fun c h1 => if c = true then a σ h1 else b σ h1
def aK (r : XA) (σ : SW) (x : Res W) : Res (List W) := x.bind fun x h1 => (r σ h1).bind fun xs h2 => .ok (x :: xs) h2
def aK2 (x : W) (xs : Res (List W)) : Res (List W) := xs.bind fun xs h2 => .ok (x :: xs) h2
def tupK (xs : Res (List W)) : Res W := xs.bind fun xs h1 => if xs.length ≤ sizeLine then .ok (.tup xs) h1 else .bad
def lstK (xs : Res (List W)) : Res W := xs.bind fun xs h1 => if xs.length ≤ sizeLine then .ok (.ref h1.length) (h1 ++ [.lst xs]) else .bad
def cbK (r : OC) (xs : Res (List W)) : Res W := xs.bind fun ws h1 => r ws h1
def callK (φ : List W → AH → Res W) (n : Nat) (xs : Res (List W)) : Res W := xs.bind fun ws h1 => if ws.length = n then φ ws h1 else .bad
def bmK (r : OM) (t : XA) (σ : SW) (x : Res W) : Res W := x.bind fun x h1 => if isLst h1 x = true then (t σ h1).bind fun ws h2 => r x ws h2 else .bad
def bmK2 (r : OM) (x : W) (ws : Res (List W)) : Res W := ws.bind fun ws h2 => r x ws h2
def bm0K (r : OM) (x : Res W) : Res W := x.bind fun x h1 => if isLst h1 x = true then r x [] h1 else .bad
def negK (x : Res W) : Res W := x.bind fun x h1 => match x with
  | .int i => .ok (.int (-i)) h1
  | _ => .bad
def pK (x : Res W) : Res (Option Int) := x.bind fun x h1 => match x with
  | .int i => .ok (some i) h1
  | _ => .bad
def slK (lo hi : XP) (σ : SW) (x : Res W) : Res W := x.bind fun x h1 => (lo σ h1).bind fun l h2 => (hi σ h2).bind fun u h3 => match x with
  | .ref n => match listAt h3 n with
    | some xs => .ok (.ref h3.length) (h3 ++ [.lst (cutW xs l u)])
    | none => .bad
  | .tup xs => if HT.sIx xs.length 0 l = 0 ∧ HT.sIx xs.length xs.length u = xs.length then .bad else .ok (.tup (cutW xs l u)) h3
  | _ => .bad
def slK2 (x : W) (hi : XP) (σ : SW) (l : Res (Option Int)) : Res W := l.bind fun l h2 => (hi σ h2).bind fun u h3 => match x with
  | .ref n => match listAt h3 n with
    | some xs => .ok (.ref h3.length) (h3 ++ [.lst (cutW xs l u)])
    | none => .bad
  | .tup xs => if HT.sIx xs.length 0 l = 0 ∧ HT.sIx xs.length xs.length u = xs.length then .bad else .ok (.tup (cutW xs l u)) h3
  | _ => .bad
def slK3 (x : W) (l : Option Int) (u : Res (Option Int)) : Res W := u.bind fun u h3 => match x with
  | .ref n => match listAt h3 n with
    | some xs => .ok (.ref h3.length) (h3 ++ [.lst (cutW xs l u)])
    | none => .bad
  | .tup xs => if HT.sIx xs.length 0 l = 0 ∧ HT.sIx xs.length xs.length u = xs.length then .bad else .ok (.tup (cutW xs l u)) h3
  | _ => .bad
def seqK (g : XS) (f : Res Fl) : Res Fl := f.bind fun fl h1 => match fl with
  | .nx σ1 => g σ1 h1
  | .bk σ1 => .ok (.bk σ1) h1
  | .ct σ1 => .ok (.ct σ1) h1
  | .rt w => .ok (.rt w) h1
def exprK (σ : SW) (x : Res W) : Res Fl := x.bind fun _ h1 => .ok (.nx σ) h1
def retK (x : Res W) : Res Fl := x.bind fun w h1 => .ok (.rt w) h1
def ifSK (f g : XS) (σ : SW) (c : Res Bool) : Res Fl := c.bind fun b h1 => if b = true then f σ h1 else g σ h1
def asgK2 (h : AH) : Option SW → Res Fl
  | some σ' => .ok (.nx σ') h
  | none => .bad
def asgK (g : TGt) (σ : SW) (x : Res W) : Res Fl := x.bind fun w h1 => asgK2 h1 (g.run w σ)
def parK (is : List Nat) (σ : SW) (xs : Res (List W)) : Res Fl := xs.bind fun ws h1 => asgK2 h1 (runAll (is.map gNm) ws σ)
def subK2 (σ : SW) (v : W) (n : Nat) (z : Int) (h : AH) : Option AO → Res Fl
  | some (.lst xs) => match ixN xs.length z with
      | some j => .ok (.nx σ) (h.set n (.lst (xs.set j v)))
      | none => .bad
  | _ => .bad
def runK (f : Res Fl) : Res W := f.bind fun fl h1 => match fl with
  | .nx _ => .ok .non h1
  | .rt w => .ok w h1
  | _ => .bad
def forK (g : TGt) (body : XS) (σ : SW) (s : Res Src) : Res Fl := s.bind fun src h1 => loopS src.stay g body src.items σ h1
def iSeqK (x : Res W) : Res Src := x.bind fun x h1 => match x with
  | .ref n => match listAt h1 n with
    | some xs => .ok (.seq n xs) h1
    | none => .bad
  | .tup xs => .ok (.pure xs) h1
  | _ => .bad
def rg1K (a : Res (List W)) : Res Src := a.bind fun ws h1 => match ws with
  | [.int j] => if inRng j = true then .ok (.pure (rngW 0 j.toNat)) h1 else .bad
  | _ => .bad
def lcK (g : TGt) (t : XT) (e : XE) (vs : List Nat) (σ : SW) (s : Res Src) : Res W := s.bind fun src h1 => loopC src.stay g t e h1.length (wpW σ vs) src.items (h1 ++ [.lst []])

def ixK : Option W → AH → Res W
  | some w, h => .ok w h
  | none, _ => .bad
section
variable {i n : Nat} {σ σ' σ1 : SW} {h h1 : AH} {r r' : O2} {a b c : XE} {x y w : W} {t u : XT} {A : XA} {xs : List W} {f g : XS} {m : OM} {o : OC} {P Q' : XP} {l l' : Option Int} {φ : List W → AH → Res W} {B : Bool} {I : XI} {T : TGt} {is : List Nat} {S : Src} {fl : Fl} {z : Int}
/-- expressions -/
theorem zE : (∀ (i : Nat) (σ : SW) (h : AH), xVar i σ h = varK σ[i]? h) ∧
    (∀ (h : AH) (w : W), varK (some (some w)) h = .ok w h) ∧
    (∀ (σ : SW) (h : AH) (w : W), xC w σ h = .ok w h) ∧
    (∀ (σ : SW) (h : AH) (r : O2) (a : XE) (b : XE), xOp r a b σ h = opK r b σ (a σ h)) ∧
    (∀ (σ : SW) (h : AH) (r : O2) (b : XE) (x : W), opK r b σ (.ok x h) = opK2 r x (b σ h)) ∧
    (∀ (h : AH) (r : O2) (x : W) (y : W), opK2 r x (.ok y h) = r x y h) ∧
    (∀ (σ : SW) (h : AH) (a : XE), bT a σ h = bTK (a σ h)) ∧
    (∀ (h : AH) (B : Bool), bTK (.ok (.bl B) h) = .ok B h) ∧
    (∀ (σ : SW) (h : AH) (r : O2) (r' : O2) (a : XE) (b : XE) (c : XE), xCh r r' a b c σ h = chK r r' b c σ (a σ h)) ∧
    (∀ (σ : SW) (h : AH) (r : O2) (r' : O2) (b : XE) (c : XE) (x : W), chK r r' b c σ (.ok x h) = chK2 r r' x c σ (b σ h)) ∧
    (∀ (σ : SW) (h : AH) (r : O2) (r' : O2) (c : XE) (x : W) (y : W), chK2 r r' x c σ (.ok y h) = chK3 r' y c σ (r x y h)) ∧
    (∀ (σ : SW) (h : AH) (r' : O2) (c : XE) (y : W) (B : Bool), chK3 r' y c σ (.ok (.bl B) h) = if B = true then opK2 r' y (c σ h) else .ok (.bl false) h) ∧
    (∀ (σ : SW) (h : AH) (a : XE), xIsN a σ h = isNK false (a σ h)) ∧
    (∀ (σ : SW) (h : AH) (a : XE), xNotN a σ h = isNK true (a σ h)) ∧
    (∀ (h : AH) (x : W) (B : Bool), isNK B (.ok x h) = .ok (.bl (B.xor (decide (x = .non)))) h) ∧
    (∀ (σ : SW) (h : AH) (t : XT) (u : XT), yAnd t u σ h = andK u σ (t σ h)) ∧
    (∀ (σ : SW) (h : AH) (u : XT) (B : Bool), andK u σ (.ok B h) = if B = true then u σ h else .ok false h) ∧
    (∀ (σ : SW) (h : AH) (t : XT) (u : XT), yOr t u σ h = orK u σ (t σ h)) ∧
    (∀ (σ : SW) (h : AH) (u : XT) (B : Bool), orK u σ (.ok B h) = if B = true then .ok true h else u σ h) ∧
    (∀ (σ : SW) (h : AH) (t : XT), yNot t σ h = notK (t σ h)) ∧
    (∀ (h : AH) (B : Bool), notK (.ok B h) = .ok (!B) h) ∧
    (∀ (σ : SW) (h : AH) (a : XE) (b : XE), xAnd a b σ h = andVK b σ (a σ h)) ∧
    (∀ (σ : SW) (h : AH) (b : XE) (B : Bool), andVK b σ (.ok (.bl B) h) = if B = true then b σ h else .ok (.bl false) h) ∧
    (∀ (σ : SW) (h : AH) (a : XE) (b : XE), xOr a b σ h = orVK b σ (a σ h)) ∧
    (∀ (σ : SW) (h : AH) (b : XE) (B : Bool), orVK b σ (.ok (.bl B) h) = if B = true then .ok (.bl true) h else b σ h) ∧
    (∀ (σ : SW) (h : AH) (a : XE), xNot a σ h = notVK (a σ h)) ∧
    (∀ (h : AH) (B : Bool), notVK (.ok (.bl B) h) = .ok (.bl (!B)) h) ∧
    (∀ (σ : SW) (h : AH) (a : XE) (b : XE) (t : XT), xIf t a b σ h = ifK a b σ (t σ h)) ∧
    (∀ (σ : SW) (h : AH) (a : XE) (b : XE) (B : Bool), ifK a b σ (.ok B h) = if B = true then a σ h else b σ h) ∧
    (∀ (σ : SW) (h : AH), aNil σ h = .ok [] h) ∧
    (∀ (σ : SW) (h : AH) (a : XE) (A : XA), aCons a A σ h = aK A σ (a σ h)) ∧
    (∀ (σ : SW) (h : AH) (x : W) (A : XA), aK A σ (.ok x h) = aK2 x (A σ h)) ∧
    (∀ (h : AH) (x : W) (xs : List W), aK2 x (.ok xs h) = .ok (x :: xs) h) ∧
    (∀ (σ : SW) (h : AH) (A : XA), xTup A σ h = tupK (A σ h)) ∧
    (∀ (h : AH) (xs : List W), tupK (.ok xs h) = if xs.length ≤ sizeLine then .ok (.tup xs) h else .bad) ∧
    (∀ (σ : SW) (h : AH) (A : XA), xLst A σ h = lstK (A σ h)) ∧
    (∀ (h : AH) (xs : List W), lstK (.ok xs h) = if xs.length ≤ sizeLine then .ok (.ref h.length) (h ++ [.lst xs]) else .bad) ∧
    (∀ (σ : SW) (h : AH) (A : XA) (o : OC), xCB o A σ h = cbK o (A σ h)) ∧
    (∀ (h : AH) (xs : List W) (o : OC), cbK o (.ok xs h) = o xs h) ∧
    (∀ (n : Nat) (σ : SW) (h : AH) (A : XA) (φ : List W → AH → Res W), xCall φ n A σ h = callK φ n (A σ h)) ∧
    (∀ (n : Nat) (h : AH) (xs : List W) (φ : List W → AH → Res W), callK φ n (.ok xs h) = if xs.length = n then φ xs h else .bad) ∧
    (∀ (σ : SW) (h : AH) (a : XE) (A : XA) (m : OM), xBM m a A σ h = bmK m A σ (a σ h)) ∧
    (∀ (σ : SW) (h : AH) (x : W) (A : XA) (m : OM), bmK m A σ (.ok x h) = if isLst h x = true then bmK2 m x (A σ h) else .bad) ∧
    (∀ (h : AH) (x : W) (xs : List W) (m : OM), bmK2 m x (.ok xs h) = m x xs h) ∧
    (∀ (σ : SW) (h : AH) (a : XE) (m : OM), xBM0 m a σ h = bm0K m (a σ h)) ∧
    (∀ (h : AH) (x : W) (m : OM), bm0K m (.ok x h) = if isLst h x = true then m x [] h else .bad) ∧
    (∀ (σ : SW) (h : AH) (a : XE), xNeg a σ h = negK (a σ h)) ∧
    (∀ (h : AH) (z : Int), negK (.ok (.int z) h) = .ok (.int (-z)) h) ∧
    (∀ (σ : SW) (h : AH), pNone σ h = .ok none h) ∧
    (∀ (σ : SW) (h : AH) (a : XE), pSome a σ h = pK (a σ h)) ∧
    (∀ (h : AH) (z : Int), pK (.ok (.int z) h) = .ok (some z) h) ∧
    (∀ (σ : SW) (h : AH) (a : XE) (P : XP) (Q' : XP), xSl a P Q' σ h = slK P Q' σ (a σ h)) ∧
    (∀ (σ : SW) (h : AH) (x : W) (P : XP) (Q' : XP), slK P Q' σ (.ok x h) = slK2 x Q' σ (P σ h)) ∧
    (∀ (σ : SW) (h : AH) (x : W) (Q' : XP) (l : Option Int), slK2 x Q' σ (.ok l h) = slK3 x l (Q' σ h)) := by
  refine ⟨fun i σ h => by unfold xVar varK; split <;> simp_all,
    (fun _ _ => rfl),
    (fun _ _ _ => rfl),
    (fun _ _ _ _ _ => rfl),
    (fun _ _ _ _ _ => rfl),
    (fun _ _ _ _ => rfl),
    (fun _ _ _ => rfl),
    (fun _ _ => rfl),
    (fun _ _ _ _ _ _ _ => rfl),
    (fun _ _ _ _ _ _ _ => rfl),
    (fun _ _ _ _ _ _ _ => rfl),
    (fun _ _ _ _ _ B => by cases B <;> rfl),
    fun σ h a => by unfold xIsN isNK; simp,
    fun σ h a => by unfold xNotN isNK; simp,
    (fun _ _ _ => rfl),
    (fun _ _ _ _ => rfl),
    (fun _ _ _ B => by cases B <;> rfl),
    (fun _ _ _ _ => rfl),
    (fun _ _ _ B => by cases B <;> rfl),
    (fun _ _ _ => rfl),
    (fun _ _ => rfl),
    (fun _ _ _ _ => rfl),
    (fun _ _ _ B => by cases B <;> rfl),
    (fun _ _ _ _ => rfl),
    (fun _ _ _ B => by cases B <;> rfl),
    (fun _ _ _ => rfl),
    (fun _ _ => rfl),
    (fun _ _ _ _ _ => rfl),
    (fun _ _ _ _ B => by cases B <;> rfl),
    (fun _ _ => rfl),
    (fun _ _ _ _ => rfl),
    (fun _ _ _ _ => rfl),
    (fun _ _ _ => rfl),
    (fun _ _ _ => rfl),
    (fun _ _ => rfl),
    (fun _ _ _ => rfl),
    (fun _ _ => rfl),
    (fun _ _ _ _ => rfl),
    (fun _ _ _ => rfl),
    (fun _ _ _ _ _ => rfl),
    (fun _ _ _ _ => rfl),
    (fun _ _ _ _ _ => rfl),
    (fun _ _ _ _ _ => rfl),
    (fun _ _ _ _ => rfl),
    (fun _ _ _ _ => rfl),
    (fun _ _ _ => rfl),
    (fun _ _ _ => rfl),
    (fun _ _ => rfl),
    (fun _ _ => rfl),
    (fun _ _ _ => rfl),
    (fun _ _ => rfl),
    (fun _ _ _ _ _ => rfl),
    (fun _ _ _ _ _ => rfl),
    (fun _ _ _ _ _ => rfl)⟩

/-- statements -/
theorem zS : (∀ (σ : SW) (h : AH), sNx σ h = .ok (.nx σ) h) ∧
    (∀ (σ : SW) (h : AH) (f : XS) (g : XS), sSeq f g σ h = seqK g (f σ h)) ∧
    (∀ (σ : SW) (h : AH) (g : XS), seqK g (.ok (.nx σ) h) = g σ h) ∧
    (∀ (h : AH) (w : W) (g : XS), seqK g (.ok (.rt w) h) = .ok (.rt w) h) ∧
    (∀ (σ : SW) (h : AH) (g : XS), seqK g (.ok (.bk σ) h) = .ok (.bk σ) h) ∧
    (∀ (σ : SW) (h : AH) (g : XS), seqK g (.ok (.ct σ) h) = .ok (.ct σ) h) ∧
    (∀ (σ : SW) (h : AH) (a : XE), sExpr a σ h = exprK σ (a σ h)) ∧
    (∀ (σ : SW) (h : AH) (x : W), exprK σ (.ok x h) = .ok (.nx σ) h) ∧
    (∀ (σ : SW) (h : AH) (a : XE), sRet a σ h = retK (a σ h)) ∧
    (∀ (h : AH) (x : W), retK (.ok x h) = .ok (.rt x) h) ∧
    (∀ (σ : SW) (h : AH), sRetN σ h = .ok (.rt .non) h) ∧
    (∀ (σ : SW) (h : AH), sBk σ h = .ok (.bk σ) h) ∧
    (∀ (σ : SW) (h : AH), sCt σ h = .ok (.ct σ) h) ∧
    (∀ (σ : SW) (h : AH) (t : XT) (f : XS) (g : XS), sIf t f g σ h = ifSK f g σ (t σ h)) ∧
    (∀ (σ : SW) (h : AH) (f : XS) (g : XS) (B : Bool), ifSK f g σ (.ok B h) = if B = true then f σ h else g σ h) ∧
    (∀ (σ : SW) (h : AH) (a : XE) (T : TGt), sAsg a T σ h = asgK T σ (a σ h)) ∧
    (∀ (σ : SW) (h : AH) (x : W) (T : TGt), asgK T σ (.ok x h) = asgK2 h (T.run x σ)) ∧
    (∀ (σ' : SW) (h : AH), asgK2 h (some σ') = .ok (.nx σ') h) ∧
    (∀ (i : Nat) (σ : SW) (x : W), (gNm i).run x σ = some (σ.set i (some x))) ∧
    (∀ (σ : SW) (h : AH) (A : XA) (is : List Nat), sPar is A σ h = parK is σ (A σ h)) ∧
    (∀ (σ : SW) (h : AH) (xs : List W) (is : List Nat), parK is σ (.ok xs h) = asgK2 h (runAll (is.map gNm) xs σ)) ∧
    (∀ (σ : SW), runAll [] [] σ = some σ) ∧
    (∀ (σ : SW) (x : W) (xs : List W) (T : TGt) (gs : List TGt), runAll (T :: gs) (x :: xs) σ = (T.run x σ).bind (runAll gs xs)) ∧
    (∀ (σ : SW) (xs : List W), ∀ gs : List TGt, (gTp gs).run (.tup xs) σ = runAll gs xs σ) ∧
    (∀ (n : Nat) (h : AH) (xs : List W) (f : XS), runB n f xs h = runK (f (startW n xs) h)) ∧
    (∀ (σ : SW) (h : AH), runK (.ok (.nx σ) h) = .ok .non h) ∧
    (∀ (h : AH) (w : W), runK (.ok (.rt w) h) = .ok w h) ∧
    (∀ (σ : SW) (h : AH) (f : XS) (I : XI) (T : TGt), sFor I T f σ h = forK T f σ (I σ h)) ∧
    (∀ (σ : SW) (h : AH) (f : XS) (T : TGt) (S : Src), forK T f σ (.ok S h) = loopS S.stay T f S.items σ h) ∧
    (∀ (σ : SW) (h : AH) (a : XE), iSeq a σ h = iSeqK (a σ h)) ∧
    (∀ (h : AH) (xs : List W), iSeqK (.ok (.tup xs) h) = .ok (.pure xs) h) ∧
    (∀ (σ : SW) (h : AH) (A : XA), iRg1 A σ h = rg1K (A σ h)) ∧
    (∀ (h : AH) (z : Int), rg1K (.ok [.int z] h) = if inRng z = true then .ok (.pure (rngW 0 z.toNat)) h else .bad) ∧
    (∀ (σ : SW) (h : AH) (a : XE) (t : XT) (I : XI) (T : TGt) (is : List Nat), xLc I T t a is σ h = lcK T t a is σ (I σ h)) ∧
    (∀ (σ : SW) (h : AH) (a : XE) (t : XT) (T : TGt) (is : List Nat) (S : Src), lcK T t a is σ (.ok S h) = loopC S.stay T t a h.length (wpW σ is) S.items (h ++ [.lst []])) := by
  refine ⟨(fun _ _ => rfl),
    (fun _ _ _ _ => rfl),
    (fun _ _ _ => rfl),
    (fun _ _ _ => rfl),
    (fun _ _ _ => rfl),
    (fun _ _ _ => rfl),
    (fun _ _ _ => rfl),
    (fun _ _ _ => rfl),
    (fun _ _ _ => rfl),
    (fun _ _ => rfl),
    (fun _ _ => rfl),
    (fun _ _ => rfl),
    (fun _ _ => rfl),
    (fun _ _ _ _ _ => rfl),
    (fun _ _ _ _ B => by cases B <;> rfl),
    fun σ h a T => by unfold sAsg asgK; congr 1,
    (fun _ _ _ _ => rfl),
    (fun _ _ => rfl),
    (fun _ _ _ => rfl),
    fun σ h A is => by unfold sPar parK; congr 1,
    (fun _ _ _ _ => rfl),
    (fun _ => rfl),
    (fun _ _ _ _ _ => rfl),
    (fun _ _ _ => rfl),
    (fun _ _ _ _ => rfl),
    (fun _ _ => rfl),
    (fun _ _ => rfl),
    (fun _ _ _ _ _ => rfl),
    (fun _ _ _ _ _ => rfl),
    (fun _ _ _ => rfl),
    (fun _ _ => rfl),
    (fun _ _ _ => rfl),
    (fun _ _ => rfl),
    (fun _ _ _ _ _ _ _ => rfl),
    (fun _ _ _ _ _ _ _ => rfl)⟩

theorem iSeqK_ref (e : listAt h n = some xs) : iSeqK (.ok (.ref n) h) = .ok (.seq n xs) h := by simp [iSeqK, e]
theorem slK3_ref (e : listAt h n = some xs) : slK3 (.ref n) l (.ok l' h) = .ok (.ref h.length) (h ++ [.lst (cutW xs l l')]) := by simp [slK3, e]
/-- operations -/
theorem zO : (∀ (h : AH), ∀ i j : Int, oAdd (.int i) (.int j) h = .ok (.int (i + j)) h) ∧
    (∀ (h : AH), ∀ i j : Int, oSub (.int i) (.int j) h = .ok (.int (i - j)) h) ∧
    (∀ (h : AH), ∀ i j : Int, oMod (.int i) (.int j) h = if 0 < j then .ok (.int (i % j)) h else .bad) ∧
    (∀ (h : AH), ∀ i j : Int, oFdiv (.int i) (.int j) h = if 0 < j ∧ j < 1073741824 then .ok (.int (i / j)) h else .bad) ∧
    (∀ (h : AH), ∀ i j : Int, oMul (.int i) (.int j) h = if IntMulOk i j then .ok (.int (i * j)) h else .bad) ∧
    (∀ (h : AH), ∀ i j : Int, oLt (.int i) (.int j) h = .ok (.bl (decide (i < j))) h) ∧
    (∀ (h : AH), ∀ i j : Int, oLe (.int i) (.int j) h = .ok (.bl (decide (i ≤ j))) h) ∧
    (∀ (h : AH), ∀ i j : Int, oGt (.int i) (.int j) h = .ok (.bl (decide (j < i))) h) ∧
    (∀ (h : AH), ∀ i j : Int, oGe (.int i) (.int j) h = .ok (.bl (decide (j ≤ i))) h) ∧
    (∀ (h : AH) (B : Bool), ∀ i j : Int, oEqD B (.int i) (.int j) h = .ok (.bl (B.xor (decide (i = j)))) h) ∧
    (∀ (h : AH) (B : Bool), ∀ i : Int, oEqD B .non (.int i) h = .ok (.bl B) h) ∧
    (∀ (h : AH) (B : Bool), ∀ i : Int, oEqD B (.int i) .non h = .ok (.bl B) h) ∧
    (∀ (h : AH) (B : Bool), oEqD B .non .non h = .ok (.bl (!B)) h) := by
  refine ⟨fun _ _ _ => rfl, fun _ _ _ => rfl, fun h i j => ?_, fun h i j => ?_, fun h i j => rfl, fun _ _ _ => rfl, fun _ _ _ => rfl, fun _ _ _ => rfl, fun _ _ _ => rfl, fun h B i j => ?_, fun h B i => ?_, fun h B i => ?_, fun h B => ?_⟩
  · simp [oMod, oI]
  · simp [oFdiv, oI]
  · simp [oEqD, dat, SeqAt.shaped, PyData.canLay0, PyData.depth, PyData.eqv]
    by_cases e : i = j <;> simp [e]
  · simp [oEqD, dat, SeqAt.shaped, PyData.canLay0, PyData.depth, PyData.eqv]
  · simp [oEqD, dat, SeqAt.shaped, PyData.canLay0, PyData.depth, PyData.eqv]
  · simp [oEqD, dat, SeqAt.shaped, PyData.canLay0, PyData.depth, PyData.eqv]
theorem zI : (∀ (h : AH) (xs : List W), ∀ i : Int, oIx (.tup xs) (.int i) h = ixK (atI xs i) h) ∧
    (∀ (h : AH) (w : W), ixK (some w) h = .ok w h) := by
  refine ⟨fun h xs i => ?_, fun _ _ => rfl⟩
  unfold oIx ixK
  dsimp only
  cases atI xs i <;> rfl
theorem oIx_ref (e : listAt h n = some xs) (i : Int) : oIx (.ref n) (.int i) h = ixK (atI xs i) h := by
  unfold oIx ixK
  simp only [e]
  cases atI xs i <;> rfl
/-- a choice goes out -/
theorem zP : (∀ (r : O2) (b : XE) (σ : SW) (p : Prop) [Decidable p] (X Y : Res W), opK r b σ (if p then X else Y) = if p then opK r b σ X else opK r b σ Y) ∧
    (∀ (r : O2) (x : W) (p : Prop) [Decidable p] (X Y : Res W), opK2 r x (if p then X else Y) = if p then opK2 r x X else opK2 r x Y) ∧
    (∀  (p : Prop) [Decidable p] (X Y : Res W), bTK (if p then X else Y) = if p then bTK X else bTK Y) ∧
    (∀ (r : O2) (r' : O2) (b : XE) (c : XE) (σ : SW) (p : Prop) [Decidable p] (X Y : Res W), chK r r' b c σ (if p then X else Y) = if p then chK r r' b c σ X else chK r r' b c σ Y) ∧
    (∀ (r : O2) (r' : O2) (x : W) (c : XE) (σ : SW) (p : Prop) [Decidable p] (X Y : Res W), chK2 r r' x c σ (if p then X else Y) = if p then chK2 r r' x c σ X else chK2 r r' x c σ Y) ∧
    (∀ (r' : O2) (y : W) (c : XE) (σ : SW) (p : Prop) [Decidable p] (X Y : Res W), chK3 r' y c σ (if p then X else Y) = if p then chK3 r' y c σ X else chK3 r' y c σ Y) ∧
    (∀ (B : Bool) (p : Prop) [Decidable p] (X Y : Res W), isNK B (if p then X else Y) = if p then isNK B X else isNK B Y) ∧
    (∀ (u : XT) (σ : SW) (p : Prop) [Decidable p] (X Y : Res Bool), andK u σ (if p then X else Y) = if p then andK u σ X else andK u σ Y) ∧
    (∀ (u : XT) (σ : SW) (p : Prop) [Decidable p] (X Y : Res Bool), orK u σ (if p then X else Y) = if p then orK u σ X else orK u σ Y) ∧
    (∀  (p : Prop) [Decidable p] (X Y : Res Bool), notK (if p then X else Y) = if p then notK X else notK Y) ∧
    (∀ (b : XE) (σ : SW) (p : Prop) [Decidable p] (X Y : Res W), andVK b σ (if p then X else Y) = if p then andVK b σ X else andVK b σ Y) ∧
    (∀ (b : XE) (σ : SW) (p : Prop) [Decidable p] (X Y : Res W), orVK b σ (if p then X else Y) = if p then orVK b σ X else orVK b σ Y) ∧
    (∀  (p : Prop) [Decidable p] (X Y : Res W), notVK (if p then X else Y) = if p then notVK X else notVK Y) ∧
    (∀ (a : XE) (b : XE) (σ : SW) (p : Prop) [Decidable p] (X Y : Res Bool), ifK a b σ (if p then X else Y) = if p then ifK a b σ X else ifK a b σ Y) ∧
    (∀ (A : XA) (σ : SW) (p : Prop) [Decidable p] (X Y : Res W), aK A σ (if p then X else Y) = if p then aK A σ X else aK A σ Y) ∧
    (∀ (x : W) (p : Prop) [Decidable p] (X Y : Res (List W)), aK2 x (if p then X else Y) = if p then aK2 x X else aK2 x Y) ∧
    (∀  (p : Prop) [Decidable p] (X Y : Res (List W)), tupK (if p then X else Y) = if p then tupK X else tupK Y) ∧
    (∀  (p : Prop) [Decidable p] (X Y : Res (List W)), lstK (if p then X else Y) = if p then lstK X else lstK Y) ∧
    (∀ (o : OC) (p : Prop) [Decidable p] (X Y : Res (List W)), cbK o (if p then X else Y) = if p then cbK o X else cbK o Y) ∧
    (∀ (φ : List W → AH → Res W) (n : Nat) (p : Prop) [Decidable p] (X Y : Res (List W)), callK φ n (if p then X else Y) = if p then callK φ n X else callK φ n Y) ∧
    (∀ (m : OM) (A : XA) (σ : SW) (p : Prop) [Decidable p] (X Y : Res W), bmK m A σ (if p then X else Y) = if p then bmK m A σ X else bmK m A σ Y) ∧
    (∀ (m : OM) (x : W) (p : Prop) [Decidable p] (X Y : Res (List W)), bmK2 m x (if p then X else Y) = if p then bmK2 m x X else bmK2 m x Y) ∧
    (∀ (m : OM) (p : Prop) [Decidable p] (X Y : Res W), bm0K m (if p then X else Y) = if p then bm0K m X else bm0K m Y) ∧
    (∀  (p : Prop) [Decidable p] (X Y : Res W), negK (if p then X else Y) = if p then negK X else negK Y) ∧
    (∀  (p : Prop) [Decidable p] (X Y : Res W), pK (if p then X else Y) = if p then pK X else pK Y) ∧
    (∀ (P : XP) (Q' : XP) (σ : SW) (p : Prop) [Decidable p] (X Y : Res W), slK P Q' σ (if p then X else Y) = if p then slK P Q' σ X else slK P Q' σ Y) ∧
    (∀ (g : XS) (p : Prop) [Decidable p] (X Y : Res Fl), seqK g (if p then X else Y) = if p then seqK g X else seqK g Y) ∧
    (∀ (σ : SW) (p : Prop) [Decidable p] (X Y : Res W), exprK σ (if p then X else Y) = if p then exprK σ X else exprK σ Y) ∧
    (∀  (p : Prop) [Decidable p] (X Y : Res W), retK (if p then X else Y) = if p then retK X else retK Y) ∧
    (∀ (f : XS) (g : XS) (σ : SW) (p : Prop) [Decidable p] (X Y : Res Bool), ifSK f g σ (if p then X else Y) = if p then ifSK f g σ X else ifSK f g σ Y) ∧
    (∀ (T : TGt) (σ : SW) (p : Prop) [Decidable p] (X Y : Res W), asgK T σ (if p then X else Y) = if p then asgK T σ X else asgK T σ Y) ∧
    (∀ (is : List Nat) (σ : SW) (p : Prop) [Decidable p] (X Y : Res (List W)), parK is σ (if p then X else Y) = if p then parK is σ X else parK is σ Y) ∧
    (∀  (p : Prop) [Decidable p] (X Y : Res Fl), runK (if p then X else Y) = if p then runK X else runK Y) ∧
    (∀ (T : TGt) (f : XS) (σ : SW) (p : Prop) [Decidable p] (X Y : Res Src), forK T f σ (if p then X else Y) = if p then forK T f σ X else forK T f σ Y) ∧
    (∀  (p : Prop) [Decidable p] (X Y : Res W), iSeqK (if p then X else Y) = if p then iSeqK X else iSeqK Y) ∧
    (∀  (p : Prop) [Decidable p] (X Y : Res (List W)), rg1K (if p then X else Y) = if p then rg1K X else rg1K Y) ∧
    (∀ (T : TGt) (t : XT) (a : XE) (is : List Nat) (σ : SW) (p : Prop) [Decidable p] (X Y : Res Src), lcK T t a is σ (if p then X else Y) = if p then lcK T t a is σ X else lcK T t a is σ Y) := by
  refine ⟨(fun _ _ _ p _ X Y => by split <;> rfl),
    (fun _ _ p _ X Y => by split <;> rfl),
    (fun  p _ X Y => by split <;> rfl),
    (fun _ _ _ _ _ p _ X Y => by split <;> rfl),
    (fun _ _ _ _ _ p _ X Y => by split <;> rfl),
    (fun _ _ _ _ p _ X Y => by split <;> rfl),
    (fun _ p _ X Y => by split <;> rfl),
    (fun _ _ p _ X Y => by split <;> rfl),
    (fun _ _ p _ X Y => by split <;> rfl),
    (fun  p _ X Y => by split <;> rfl),
    (fun _ _ p _ X Y => by split <;> rfl),
    (fun _ _ p _ X Y => by split <;> rfl),
    (fun  p _ X Y => by split <;> rfl),
    (fun _ _ _ p _ X Y => by split <;> rfl),
    (fun _ _ p _ X Y => by split <;> rfl),
    (fun _ p _ X Y => by split <;> rfl),
    (fun  p _ X Y => by split <;> rfl),
    (fun  p _ X Y => by split <;> rfl),
    (fun _ p _ X Y => by split <;> rfl),
    (fun _ _ p _ X Y => by split <;> rfl),
    (fun _ _ _ p _ X Y => by split <;> rfl),
    (fun _ _ p _ X Y => by split <;> rfl),
    (fun _ p _ X Y => by split <;> rfl),
    (fun  p _ X Y => by split <;> rfl),
    (fun  p _ X Y => by split <;> rfl),
    (fun _ _ _ p _ X Y => by split <;> rfl),
    (fun _ p _ X Y => by split <;> rfl),
    (fun _ p _ X Y => by split <;> rfl),
    (fun  p _ X Y => by split <;> rfl),
    (fun _ _ _ p _ X Y => by split <;> rfl),
    (fun _ _ p _ X Y => by split <;> rfl),
    (fun _ _ p _ X Y => by split <;> rfl),
    (fun  p _ X Y => by split <;> rfl),
    (fun _ _ _ p _ X Y => by split <;> rfl),
    (fun  p _ X Y => by split <;> rfl),
    (fun  p _ X Y => by split <;> rfl),
    (fun _ _ _ _ _ p _ X Y => by split <;> rfl)⟩
/-- nothing comes of a bad thing -/
theorem zB : (∀ (r : O2) (b : XE) (σ : SW), opK r b σ .bad = .bad) ∧
    (∀ (r : O2) (x : W), opK2 r x .bad = .bad) ∧
    (bTK .bad = .bad) ∧
    (∀ (r : O2) (r' : O2) (b : XE) (c : XE) (σ : SW), chK r r' b c σ .bad = .bad) ∧
    (∀ (r : O2) (r' : O2) (x : W) (c : XE) (σ : SW), chK2 r r' x c σ .bad = .bad) ∧
    (∀ (r' : O2) (y : W) (c : XE) (σ : SW), chK3 r' y c σ .bad = .bad) ∧
    (∀ (B : Bool), isNK B .bad = .bad) ∧
    (∀ (u : XT) (σ : SW), andK u σ .bad = .bad) ∧
    (∀ (u : XT) (σ : SW), orK u σ .bad = .bad) ∧
    (notK .bad = .bad) ∧
    (∀ (b : XE) (σ : SW), andVK b σ .bad = .bad) ∧
    (∀ (b : XE) (σ : SW), orVK b σ .bad = .bad) ∧
    (notVK .bad = .bad) ∧
    (∀ (a : XE) (b : XE) (σ : SW), ifK a b σ .bad = .bad) ∧
    (∀ (A : XA) (σ : SW), aK A σ .bad = .bad) ∧
    (∀ (x : W), aK2 x .bad = .bad) ∧
    (tupK .bad = .bad) ∧
    (lstK .bad = .bad) ∧
    (∀ (o : OC), cbK o .bad = .bad) ∧
    (∀ (φ : List W → AH → Res W) (n : Nat), callK φ n .bad = .bad) ∧
    (∀ (m : OM) (A : XA) (σ : SW), bmK m A σ .bad = .bad) ∧
    (∀ (m : OM) (x : W), bmK2 m x .bad = .bad) ∧
    (∀ (m : OM), bm0K m .bad = .bad) ∧
    (negK .bad = .bad) ∧
    (pK .bad = .bad) ∧
    (∀ (P : XP) (Q' : XP) (σ : SW), slK P Q' σ .bad = .bad) ∧
    (∀ (g : XS), seqK g .bad = .bad) ∧
    (∀ (σ : SW), exprK σ .bad = .bad) ∧
    (retK .bad = .bad) ∧
    (∀ (f : XS) (g : XS) (σ : SW), ifSK f g σ .bad = .bad) ∧
    (∀ (T : TGt) (σ : SW), asgK T σ .bad = .bad) ∧
    (∀ (is : List Nat) (σ : SW), parK is σ .bad = .bad) ∧
    (runK .bad = .bad) ∧
    (∀ (T : TGt) (f : XS) (σ : SW), forK T f σ .bad = .bad) ∧
    (iSeqK .bad = .bad) ∧
    (rg1K .bad = .bad) ∧
    (∀ (T : TGt) (t : XT) (a : XE) (is : List Nat) (σ : SW), lcK T t a is σ .bad = .bad) := by
  refine ⟨(fun _ _ _ => rfl),
    (fun _ _ => rfl),
    rfl,
    (fun _ _ _ _ _ => rfl),
    (fun _ _ _ _ _ => rfl),
    (fun _ _ _ _ => rfl),
    (fun _ => rfl),
    (fun _ _ => rfl),
    (fun _ _ => rfl),
    rfl,
    (fun _ _ => rfl),
    (fun _ _ => rfl),
    rfl,
    (fun _ _ _ => rfl),
    (fun _ _ => rfl),
    (fun _ => rfl),
    rfl,
    rfl,
    (fun _ => rfl),
    (fun _ _ => rfl),
    (fun _ _ _ => rfl),
    (fun _ _ => rfl),
    (fun _ => rfl),
    rfl,
    rfl,
    (fun _ _ _ => rfl),
    (fun _ => rfl),
    (fun _ => rfl),
    rfl,
    (fun _ _ _ => rfl),
    (fun _ _ => rfl),
    (fun _ _ => rfl),
    rfl,
    (fun _ _ _ => rfl),
    rfl,
    rfl,
    (fun _ _ _ _ _ => rfl)⟩
/-- lists and sizes -/
theorem zL : (∀ (α β : Type) (f : α → β) (a : α) (l : List α), (a :: l).map f = f a :: l.map f) ∧ (∀ (α β : Type) (f : α → β), ([] : List α).map f = []) ∧ (∀ (α : Type) (a : α) (l : List α), (a :: l).length = l.length + 1) ∧ (∀ (α : Type), ([] : List α).length = 0) ∧
    (∀ (α : Type) (a : α) (l k : List α), a :: l ++ k = a :: (l ++ k)) ∧ (∀ (α : Type) (k : List α), [] ++ k = k) ∧ (∀ (α : Type) (a : α) (n : Nat), List.replicate (n + 1) a = a :: List.replicate n a) ∧ (∀ (α : Type) (a : α), List.replicate 0 a = []) ∧
    (∀ (α : Type) (a b : α) (l : List α), (a :: l).set 0 b = b :: l) ∧ (∀ (α : Type) (a b : α) (l : List α) (n : Nat), (a :: l).set (n + 1) b = a :: l.set n b) ∧ (∀ (α : Type) (a : α) (l : List α), (a :: l)[0]? = some a) ∧ (∀ (α : Type) (a : α) (l : List α) (n : Nat), (a :: l)[n + 1]? = l[n]?) ∧
    (∀ (α β : Type) (a : α) (f : α → Option β), (some a).bind f = f a) ∧ (∀ b : Bool, (false.xor b) = b) ∧ (∀ b : Bool, (true.xor b) = !b) ∧ (sizeLine = 16777216) ∧ (∀ (n : Nat) (ws : List W), startW n ws = ws.map some ++ List.replicate (n - ws.length) none) := by
  refine ⟨fun _ _ _ _ _ => rfl, fun _ _ _ => rfl, fun _ _ _ => rfl, fun _ => rfl, fun _ _ _ _ => rfl, fun _ _ => rfl, fun _ _ _ => rfl, fun _ _ => rfl, fun _ _ _ _ => rfl, fun _ _ _ _ _ => rfl, fun _ _ _ => rfl, fun _ _ _ _ => rfl, fun _ _ _ _ => rfl, fun b => by cases b <;> rfl, fun b => by cases b <;> rfl, sizeLine_eq, fun _ _ => rfl⟩
theorem sl2 : (2:Nat) ≤ sizeLine := by decide
theorem sl3 : (3:Nat) ≤ sizeLine := by decide
theorem sl4 : (4:Nat) ≤ sizeLine := by decide
theorem sl1 : (1:Nat) ≤ sizeLine := by decide
end
end Z
set_option Elab.async false
set_option linter.all false
set_option maxRecDepth 100000
set_option maxHeartbeats 4000000
/-! loops by what holds between two turns; places in a heap -/
namespace Z
open PySem L2

theorem get_app {α : Type} {h g : List α} {n : Nat} {o : α} (e : h[n]? = some o) : (h ++ g)[n]? = some o := by
  rw [List.getElem?_append_left (List.getElem?_eq_some_iff.mp e).1]; exact e
theorem get_lt {α : Type} {h : List α} {n : Nat} {o : α} (e : h[n]? = some o) : n < h.length := (List.getElem?_eq_some_iff.mp e).1
theorem get_new {α : Type} {h : List α} {o : α} : (h ++ [o])[h.length]? = some o := by simp
theorem get_set {α : Type} {h : List α} {n : Nat} {o o' : α} (e : h[n]? = some o) : (h.set n o')[n]? = some o' := List.getElem?_set_self (get_lt e)
theorem get_set_ne {α : Type} {h : List α} {n m : Nat} {o o' : α} (e : h[m]? = some o) (ne : n ≠ m) : (h.set n o')[m]? = some o := by rw [List.getElem?_set_ne ne]; exact e
theorem listAt_of {h : AH} {n : Nat} {xs : List W} (e : h[n]? = some (.lst xs)) : listAt h n = some xs := by unfold listAt; rw [e]
theorem listAt_fro {h : AH} {n : Nat} {xs : List W} (e : h[n]? = some (.fro xs)) : listAt h n = some xs := by unfold listAt; rw [e]
theorem listAt_app {h g : AH} {n : Nat} {xs : List W} (e : listAt h n = some xs) : listAt (h ++ g) n = some xs := by
  unfold listAt at e ⊢
  split at e
  · rename_i q; rw [get_app q]; exact e
  · rename_i q; rw [get_app q]; exact e
  · cases e
theorem set_last {α : Type} {h : List α} {a o : α} : (h ++ [a]).set h.length o = h ++ [o] := by simp
theorem set_at {α : Type} {h g : List α} {a o : α} {n : Nat} (hn : n = h.length) : (h ++ a :: g).set n o = h ++ o :: g := by subst hn; simp
theorem get_at {α : Type} {h g : List α} {a : α} {n : Nat} (hn : n = h.length) : (h ++ a :: g)[n]? = some a := by subst hn; simp
theorem set_at2 {α : Type} {h g : List α} {a b o : α} {n : Nat} (hn : n = h.length + 1) : (h ++ a :: b :: g).set n o = h ++ a :: o :: g := by
  subst hn
  rw [show h ++ a :: b :: g = (h ++ [a]) ++ b :: g by simp, set_at (by simp)]
  simp
theorem get_at2 {α : Type} {h g : List α} {a b : α} {n : Nat} (hn : n = h.length + 1) : (h ++ a :: b :: g)[n]? = some b := by
  subst hn
  rw [show h ++ a :: b :: g = (h ++ [a]) ++ b :: g by simp, get_at (by simp)]

section
variable {stay : AH → Bool} {g : TGt} {body : XS} {xs : List W} {σ : SW} {h : AH}
/-- a loop that goes to its end -/
theorem loop_inv (Iv : Nat → SW → AH → Prop) (h0 : Iv 0 σ h) (hst : ∀ i σ h, i ≤ xs.length → Iv i σ h → stay h = true)
    (step : ∀ (i : Nat) x σ h, xs[i]? = some x → Iv i σ h → ∃ σ1, g.run x σ = some σ1 ∧ ∃ σ2 h2, body σ1 h = .ok (.nx σ2) h2 ∧ Iv (i + 1) σ2 h2) :
    ∃ σ' h', loopS stay g body xs σ h = .ok (.nx σ') h' ∧ Iv xs.length σ' h' := by
  have key : ∀ (ys : List W) (i : Nat) σ h, xs.drop i = ys → i ≤ xs.length → Iv i σ h → ∃ σ' h', loopS stay g body ys σ h = .ok (.nx σ') h' ∧ Iv xs.length σ' h' := by
    intro ys
    induction ys with
    | nil =>
      intro i σ h e hi iv
      have : i = xs.length := by
        have := congrArg List.length e
        simp at this
        omega
      subst this
      exact ⟨σ, h, by unfold loopS; rw [if_pos (hst _ σ h (Nat.le_refl _) iv)], iv⟩
    | cons y ys ih =>
      intro i σ h e hi iv
      have hl : i < xs.length := by
        have := congrArg List.length e
        simp at this
        omega
      have hx : xs[i]? = some y := by
        have := congrArg (fun l => l[0]?) e
        simpa using this
      have e' : xs.drop (i + 1) = ys := by
        have := congrArg (fun l => l.drop 1) e
        simpa [List.drop_drop, Nat.add_comm] using this
      obtain ⟨σ1, e1, σ2, h2, e2, iv2⟩ := step i y σ h hx iv
      obtain ⟨σ', h', e3, iv3⟩ := ih (i + 1) σ2 h2 e' hl iv2
      exact ⟨σ', h', by unfold loopS; rw [if_pos (hst i σ h hi iv), e1]; simp only [e2, Res.bind_ok]; exact e3, iv3⟩
  exact key xs 0 σ h (by simp) (Nat.zero_le _) h0
theorem stay_pure : (Src.pure xs).stay = fun _ => true := by funext h; rfl
end
section
variable {stay : AH → Bool} {g : TGt} {t : XT} {el : XE} {xs : List W} {σ : SW} {h : AH} {n : Nat}
/-- a comprehension -/
theorem comp_inv (Iv : Nat → AH → Prop) (h0 : Iv 0 h) (hst : ∀ i h, i ≤ xs.length → Iv i h → stay h = true)
    (step : ∀ (i : Nat) x h, xs[i]? = some x → Iv i h → ∃ σ1, g.run x σ = some σ1 ∧ ∃ b h1, t σ1 h = .ok b h1 ∧ (b = false → Iv (i + 1) h1) ∧ (b = true → ∃ y h2 acc, el σ1 h1 = .ok y h2 ∧ h2[n]? = some (.lst acc) ∧ acc.length < sizeLine ∧ Iv (i + 1) (h2.set n (.lst (acc ++ [y]))))) :
    ∃ h', loopC stay g t el n σ xs h = .ok (.ref n) h' ∧ Iv xs.length h' := by
  have key : ∀ (ys : List W) (i : Nat) h, xs.drop i = ys → i ≤ xs.length → Iv i h → ∃ h', loopC stay g t el n σ ys h = .ok (.ref n) h' ∧ Iv xs.length h' := by
    intro ys
    induction ys with
    | nil =>
      intro i h e hi iv
      have : i = xs.length := by
        have := congrArg List.length e
        simp at this
        omega
      subst this
      exact ⟨h, by unfold loopC; rw [if_pos (hst _ h (Nat.le_refl _) iv)], iv⟩
    | cons y ys ih =>
      intro i h e hi iv
      have hl : i < xs.length := by
        have := congrArg List.length e
        simp at this
        omega
      have hx : xs[i]? = some y := by
        have := congrArg (fun l => l[0]?) e
        simpa using this
      have e' : xs.drop (i + 1) = ys := by
        have := congrArg (fun l => l.drop 1) e
        simpa [List.drop_drop, Nat.add_comm] using this
      obtain ⟨σ1, e1, b, h1, e2, k1, k2⟩ := step i y h hx iv
      cases b with
      | false =>
        obtain ⟨h', e3, iv3⟩ := ih (i + 1) h1 e' hl (k1 rfl)
        exact ⟨h', by unfold loopC; rw [if_pos (hst i h hi iv), e1]; simp only [e2, Res.noexc_ok, Res.bind_ok]; exact e3, iv3⟩
      | true =>
        obtain ⟨z, h2, acc, q1, q2, q3, q4⟩ := k2 rfl
        obtain ⟨h', e3, iv3⟩ := ih (i + 1) _ e' hl q4
        exact ⟨h', by unfold loopC; rw [if_pos (hst i h hi iv), e1]; simp only [e2, Res.noexc_ok, Res.bind_ok, if_true, q1, q2, if_pos q3]; exact e3, iv3⟩
  exact key xs 0 h (by simp) (Nat.zero_le _) h0
end
end Z
set_option Elab.async false
set_option linter.all false
set_option maxRecDepth 100000
set_option maxHeartbeats 4000000
/-! == of data -/
namespace Z
open PySem L2
section
variable {h h' : AH}
theorem optAll_mem {α β : Type} {f : α → Option β} : ∀ {xs : List α} {ys : List β}, optAll f xs = some ys → ∀ y ∈ ys, ∃ x ∈ xs, f x = some y
  | [], _, e, y, hy => by cases e; cases hy
  | x :: xs, ys, e, y, hy => by
    unfold optAll at e
    split at e
    · rename_i z zs e1 e2
      cases e
      rcases List.mem_cons.mp hy with rfl | hy
      · exact ⟨x, List.mem_cons_self, e1⟩
      · obtain ⟨w, hw, e3⟩ := optAll_mem e2 y hy
        exact ⟨w, List.mem_cons_of_mem _ hw, e3⟩
    · cases e
theorem optAll_map {α β γ : Type} {f : α → Option β} {g : γ → α} {k : γ → β} (e : ∀ c, f (g c) = some (k c)) : ∀ l : List γ, optAll f (l.map g) = some (l.map k)
  | [] => rfl
  | c :: l => by rw [List.map_cons, List.map_cons]; unfold optAll; rw [e c, optAll_map e l]
theorem depthAll_le {n : Nat} : ∀ {ds : List PyData}, (∀ d ∈ ds, d.depth ≤ n) → PyData.depthAll ds ≤ n
  | [], _ => by simp [PyData.depthAll]
  | d :: ds, k => by
    simp only [PyData.depthAll]
    exact Nat.max_le.mpr ⟨k d List.mem_cons_self, depthAll_le fun e he => k e (List.mem_cons_of_mem _ he)⟩
theorem dat_depth : ∀ (n : Nat) (w : W) (d : PyData), dat h n w = some d → d.depth ≤ n
  | 0, _, _, e => by cases e
  | n + 1, w, d, e => by
    cases w with
    | non => cases e; simp [PyData.depth]
    | bl b => cases e; simp [PyData.depth]
    | int i => cases e; simp [PyData.depth]
    | str s => cases e; simp [PyData.depth]
    | tup ws =>
      obtain ⟨ds, e1, e2⟩ := Option.map_eq_some_iff.mp (show (optAll (dat h n) ws).map PyData.tuple = some d from e)
      subst e2
      have := depthAll_le (ds := ds) (n := n) fun d hd => by
        obtain ⟨x, _, ex⟩ := optAll_mem e1 d hd
        exact dat_depth n x d ex
      simp only [PyData.depth]
      omega
    | ref k =>
      simp only [dat] at e
      split at e
      · obtain ⟨ds, e1, e2⟩ := Option.map_eq_some_iff.mp e
        subst e2
        have := depthAll_le (ds := ds) (n := n) fun d hd => by
          obtain ⟨x, _, ex⟩ := optAll_mem e1 d hd
          exact dat_depth n x d ex
        simp only [PyData.depth]
        omega
      · cases e
    | _ => cases e
theorem shaped_of {w : W} {d : PyData} {n : Nat} (hn : n ≤ 64) (e : dat h n w = some d) (c : d.canLay0 = true) : SeqAt.shaped d = true := by
  unfold SeqAt.shaped
  rw [c, Bool.true_and]
  exact decide_eq_true (Nat.le_trans (dat_depth n w d e) hn)
/-- two things that are the same data -/
theorem eq_same {a b : W} {d : PyData} (e1 : dat h 9 a = some d) (e2 : dat h 9 b = some d) (c : d.canLay0 = true) (B : Bool) : oEqD B a b h = .ok (.bl (!B)) h := by
  have s1 := shaped_of (by decide) e1 c
  unfold oEqD
  rw [e1, e2]
  simp [s1, SeqAt.eqv_refl d c]
theorem canAll : ∀ {ds : List PyData}, (∀ d ∈ ds, d.canLay0 = true) → PyData.canLayAll0 ds = true
  | [], _ => rfl
  | d :: ds, k => by
    simp only [PyData.canLayAll0, Bool.and_eq_true]
    exact ⟨k d List.mem_cons_self, canAll fun e he => k e (List.mem_cons_of_mem _ he)⟩
/-- a list of ints -/
theorem dat_ints {n : Nat} {ns : List Int} (e : listAt h n = some (ns.map .int)) : dat h 9 (.ref n) = some (.list (ns.map .int)) := by
  show (match listAt h n with | some xs => (optAll (dat h 8) xs).map PyData.list | none => none) = _
  rw [e]
  dsimp only
  rw [optAll_map (f := dat h 8) (g := W.int) (k := PyData.int) (fun c => rfl)]
  rfl
theorem can_ints (ns : List Int) : (PyData.list (ns.map .int)).canLay0 = true := by
  show PyData.canLayAll0 (ns.map .int) = true
  exact canAll fun d hd => by obtain ⟨i, _, rfl⟩ := List.mem_map.mp hd; rfl
theorem ne_nil {n m : Nat} {ns : List Int} (e : listAt h n = some (ns.map .int)) (e2 : listAt h m = some []) : oEqD true (.ref n) (.ref m) h = .ok (.bl (decide (ns ≠ []))) h := by
  have d1 := dat_ints e
  have d2 : dat h 9 (.ref m) = some (.list (([] : List Int).map .int)) := dat_ints (ns := []) e2
  have s1 := shaped_of (by decide) d1 (can_ints ns)
  have s2 := shaped_of (by decide) d2 (can_ints [])
  unfold oEqD
  rw [d1, d2]
  simp only [s1, s2, and_self, if_true]
  cases ns with
  | nil => rfl
  | cons a r => rfl
theorem eq_str {s t : Str} (h1 : PyData.strOk s = true) (h2 : PyData.strOk t = true) (B : Bool) : oEqD B (.str s) (.str t) h = .ok (.bl (B.xor (decide (s = t)))) h := by
  unfold oEqD
  simp only [dat]
  have s1 : SeqAt.shaped (.str s) = true := by simp [SeqAt.shaped, PyData.canLay0, h1, PyData.depth]
  have s2 : SeqAt.shaped (.str t) = true := by simp [SeqAt.shaped, PyData.canLay0, h2, PyData.depth]
  simp only [s1, s2, and_self, if_true]
  rw [show PyData.eqv (.str s) (.str t) = decide (s = t) by simp [PyData.eqv]; try rfl]
end
end Z
set_option Elab.async false
set_option linter.all false
set_option maxRecDepth 100000
set_option maxHeartbeats 4000000
/-! isinstance, by kinds -/
namespace Z
open PySem L2
theorem zK : (∀ (h : AH) , bIsi [.non, .ty "int"] h = .ok (.bl false) h) ∧
    (∀ (h : AH) , bIsi [.non, .ty "str"] h = .ok (.bl false) h) ∧
    (∀ (h : AH) , bIsi [.non, .ty "bool"] h = .ok (.bl false) h) ∧
    (∀ (h : AH) , bIsi [.non, .ty "bytes"] h = .ok (.bl false) h) ∧
    (∀ (h : AH) , bIsi [.non, .ty "list"] h = .ok (.bl false) h) ∧
    (∀ (h : AH) , bIsi [.non, .ty "tuple"] h = .ok (.bl false) h) ∧
    (∀ (h : AH) , bIsi [.non, .ty "dict"] h = .ok (.bl false) h) ∧
    (∀ (h : AH) (v : Bool), bIsi [(.bl v), .ty "int"] h = .ok (.bl true) h) ∧
    (∀ (h : AH) (v : Bool), bIsi [(.bl v), .ty "str"] h = .ok (.bl false) h) ∧
    (∀ (h : AH) (v : Bool), bIsi [(.bl v), .ty "bool"] h = .ok (.bl true) h) ∧
    (∀ (h : AH) (v : Bool), bIsi [(.bl v), .ty "bytes"] h = .ok (.bl false) h) ∧
    (∀ (h : AH) (v : Bool), bIsi [(.bl v), .ty "list"] h = .ok (.bl false) h) ∧
    (∀ (h : AH) (v : Bool), bIsi [(.bl v), .ty "tuple"] h = .ok (.bl false) h) ∧
    (∀ (h : AH) (v : Bool), bIsi [(.bl v), .ty "dict"] h = .ok (.bl false) h) ∧
    (∀ (h : AH) (v : Int), bIsi [(.int v), .ty "int"] h = .ok (.bl true) h) ∧
    (∀ (h : AH) (v : Int), bIsi [(.int v), .ty "str"] h = .ok (.bl false) h) ∧
    (∀ (h : AH) (v : Int), bIsi [(.int v), .ty "bool"] h = .ok (.bl false) h) ∧
    (∀ (h : AH) (v : Int), bIsi [(.int v), .ty "bytes"] h = .ok (.bl false) h) ∧
    (∀ (h : AH) (v : Int), bIsi [(.int v), .ty "list"] h = .ok (.bl false) h) ∧
    (∀ (h : AH) (v : Int), bIsi [(.int v), .ty "tuple"] h = .ok (.bl false) h) ∧
    (∀ (h : AH) (v : Int), bIsi [(.int v), .ty "dict"] h = .ok (.bl false) h) ∧
    (∀ (h : AH) (v : Str), bIsi [(.str v), .ty "int"] h = .ok (.bl false) h) ∧
    (∀ (h : AH) (v : Str), bIsi [(.str v), .ty "str"] h = .ok (.bl true) h) ∧
    (∀ (h : AH) (v : Str), bIsi [(.str v), .ty "bool"] h = .ok (.bl false) h) ∧
    (∀ (h : AH) (v : Str), bIsi [(.str v), .ty "bytes"] h = .ok (.bl false) h) ∧
    (∀ (h : AH) (v : Str), bIsi [(.str v), .ty "list"] h = .ok (.bl false) h) ∧
    (∀ (h : AH) (v : Str), bIsi [(.str v), .ty "tuple"] h = .ok (.bl false) h) ∧
    (∀ (h : AH) (v : Str), bIsi [(.str v), .ty "dict"] h = .ok (.bl false) h) ∧
    (∀ (h : AH) (v : Array UInt8), bIsi [(.byt v), .ty "int"] h = .ok (.bl false) h) ∧
    (∀ (h : AH) (v : Array UInt8), bIsi [(.byt v), .ty "str"] h = .ok (.bl false) h) ∧
    (∀ (h : AH) (v : Array UInt8), bIsi [(.byt v), .ty "bool"] h = .ok (.bl false) h) ∧
    (∀ (h : AH) (v : Array UInt8), bIsi [(.byt v), .ty "bytes"] h = .ok (.bl true) h) ∧
    (∀ (h : AH) (v : Array UInt8), bIsi [(.byt v), .ty "list"] h = .ok (.bl false) h) ∧
    (∀ (h : AH) (v : Array UInt8), bIsi [(.byt v), .ty "tuple"] h = .ok (.bl false) h) ∧
    (∀ (h : AH) (v : Array UInt8), bIsi [(.byt v), .ty "dict"] h = .ok (.bl false) h) ∧
    (∀ (h : AH) (v : List W), bIsi [(.tup v), .ty "int"] h = .ok (.bl false) h) ∧
    (∀ (h : AH) (v : List W), bIsi [(.tup v), .ty "str"] h = .ok (.bl false) h) ∧
    (∀ (h : AH) (v : List W), bIsi [(.tup v), .ty "bool"] h = .ok (.bl false) h) ∧
    (∀ (h : AH) (v : List W), bIsi [(.tup v), .ty "bytes"] h = .ok (.bl false) h) ∧
    (∀ (h : AH) (v : List W), bIsi [(.tup v), .ty "list"] h = .ok (.bl false) h) ∧
    (∀ (h : AH) (v : List W), bIsi [(.tup v), .ty "tuple"] h = .ok (.bl true) h) ∧
    (∀ (h : AH) (v : List W), bIsi [(.tup v), .ty "dict"] h = .ok (.bl false) h) := by
  refine ⟨(fun _ => by simp [bIsi, tyOf, isB]),
    (fun _ => by simp [bIsi, tyOf, isB]),
    (fun _ => by simp [bIsi, tyOf, isB]),
    (fun _ => by simp [bIsi, tyOf, isB]),
    (fun _ => by simp [bIsi, tyOf, isB]),
    (fun _ => by simp [bIsi, tyOf, isB]),
    (fun _ => by simp [bIsi, tyOf, isB]),
    (fun _ _ => by simp [bIsi, tyOf, isB]),
    (fun _ _ => by simp [bIsi, tyOf, isB]),
    (fun _ _ => by simp [bIsi, tyOf, isB]),
    (fun _ _ => by simp [bIsi, tyOf, isB]),
    (fun _ _ => by simp [bIsi, tyOf, isB]),
    (fun _ _ => by simp [bIsi, tyOf, isB]),
    (fun _ _ => by simp [bIsi, tyOf, isB]),
    (fun _ _ => by simp [bIsi, tyOf, isB]),
    (fun _ _ => by simp [bIsi, tyOf, isB]),
    (fun _ _ => by simp [bIsi, tyOf, isB]),
    (fun _ _ => by simp [bIsi, tyOf, isB]),
    (fun _ _ => by simp [bIsi, tyOf, isB]),
    (fun _ _ => by simp [bIsi, tyOf, isB]),
    (fun _ _ => by simp [bIsi, tyOf, isB]),
    (fun _ _ => by simp [bIsi, tyOf, isB]),
    (fun _ _ => by simp [bIsi, tyOf, isB]),
    (fun _ _ => by simp [bIsi, tyOf, isB]),
    (fun _ _ => by simp [bIsi, tyOf, isB]),
    (fun _ _ => by simp [bIsi, tyOf, isB]),
    (fun _ _ => by simp [bIsi, tyOf, isB]),
    (fun _ _ => by simp [bIsi, tyOf, isB]),
    (fun _ _ => by simp [bIsi, tyOf, isB]),
    (fun _ _ => by simp [bIsi, tyOf, isB]),
    (fun _ _ => by simp [bIsi, tyOf, isB]),
    (fun _ _ => by simp [bIsi, tyOf, isB]),
    (fun _ _ => by simp [bIsi, tyOf, isB]),
    (fun _ _ => by simp [bIsi, tyOf, isB]),
    (fun _ _ => by simp [bIsi, tyOf, isB]),
    (fun _ _ => by simp [bIsi, tyOf, isB]),
    (fun _ _ => by simp [bIsi, tyOf, isB]),
    (fun _ _ => by simp [bIsi, tyOf, isB]),
    (fun _ _ => by simp [bIsi, tyOf, isB]),
    (fun _ _ => by simp [bIsi, tyOf, isB]),
    (fun _ _ => by simp [bIsi, tyOf, isB]),
    (fun _ _ => by simp [bIsi, tyOf, isB])⟩
theorem tyOf_ref {h : AH} {n : Nat} {xs : List W} (e : listAt h n = some xs) : tyOf h (.ref n) = some "list" := by
  unfold listAt at e
  simp only [tyOf]
  split at e <;> simp_all
theorem isi_ref {h : AH} {n : Nat} {xs : List W} (e : listAt h n = some xs) : bIsi [.ref n, .ty "int"] h = .ok (.bl false) h ∧ bIsi [.ref n, .ty "str"] h = .ok (.bl false) h ∧ bIsi [.ref n, .ty "bool"] h = .ok (.bl false) h ∧ bIsi [.ref n, .ty "bytes"] h = .ok (.bl false) h ∧ bIsi [.ref n, .ty "list"] h = .ok (.bl true) h ∧ bIsi [.ref n, .ty "tuple"] h = .ok (.bl false) h ∧ bIsi [.ref n, .ty "dict"] h = .ok (.bl false) h := by
  have t := tyOf_ref e
  refine ⟨?_, ?_, ?_, ?_, ?_, ?_, ?_⟩ <;> simp [bIsi, t, isB]
end Z
set_option Elab.async false
set_option linter.all false
set_option maxRecDepth 100000
set_option maxHeartbeats 4000000
/-! more of what is walked; instances; in; truth -/
namespace Z
open PySem PySem.Spec PyProof.Rows L2
section
variable {X : Cx} {G : GT} {a b c o : Expr} {fa fb fc fo : XE} {pos p2 : Pos} {st : Stmt} {rest body : List Stmt} {f g : XS} {tg iter : Expr}

/-! ### enumerate, zip, reversed -/
theorem numW_len (xs : List W) : (numW xs).length = xs.length := by simp [numW]
theorem numW_get {xs : List W} {i : Nat} {w : W} (e : (numW xs)[i]? = some w) : ∃ x, xs[i]? = some x ∧ w = .tup [.int (i : Nat), x] := by
  simp only [numW, List.getElem?_map, Option.map_eq_some_iff] at e
  obtain ⟨⟨x, j⟩, e1, e2⟩ := e
  rw [List.getElem?_zipIdx] at e1
  obtain ⟨y, e3, e4⟩ := Option.map_eq_some_iff.mp e1
  cases e4
  exact ⟨_, e3, by rw [← e2]; simp⟩
theorem key_list {ρ ρ' : List Addr} {h' : AH} {H H' : Hp} {n : Nat} {xs : List W} {a : Addr} (hn : ρ[n]? = some a) (x : Ext ⟨X.K, G⟩ ρ H ρ' H') (S : HS ⟨X.K, G⟩ ρ' h' H') (e : listAt h' n = some xs) : ∃ vs, SqL X.K H' a vs ∧ RelWs ⟨X.K, G⟩ ρ' H' xs vs := by
  obtain ⟨a', vs, e1, sq, rs⟩ := S.list e (.ref (x.pre _ _ hn))
  cases e1
  exact ⟨vs, sq, rs⟩
theorem ite_ok {ρ : List Addr} {H : Hp} {n : Nat} {xs : List W} {a : Addr} (hn : ρ[n]? = some a) : ItOk X G ρ H (.enum n xs) (Ite X.K a) := by
  refine ⟨fun i ρ' h' H' x S e hi => ?_, fun i ρ' h' H' w x S e hw => ?_, fun i ρ' h' H' w y H2 x S e hw hy => ?_⟩
  · obtain ⟨vs, sq, rs⟩ := key_list hn x S (of_decide_eq_true e)
    exact ⟨vs, sq, by rw [← rs.length]; simpa [Src.items, numW_len] using hi⟩
  · obtain ⟨vs, sq, rs⟩ := key_list hn x S (of_decide_eq_true e)
    obtain ⟨z, e1, rfl⟩ := numW_get hw
    obtain ⟨v, ev, _⟩ := rs.get e1
    exact ⟨vs, v, sq, ev⟩
  · obtain ⟨vs, sq, rs⟩ := key_list hn x S (of_decide_eq_true e)
    obtain ⟨z, e1, rfl⟩ := numW_get hw
    obtain ⟨T, v, rfl, hT, rfl, hy⟩ := hy
    obtain ⟨v', ev, rv⟩ := rs.get e1
    have q := hy vs sq
    rw [ev] at q; cases q
    exact new_tup S (.cons (.int _) (.cons rv .nil)) hT
def iEn (t : XA) : XI := fun σ h => (t σ h).bind fun ws h1 => match ws with
  | [.ref n] => match listAt h1 n with
    | some xs => .ok (.enum n xs) h1
    | none => .bad
  | _ => .bad
theorem si_enum {elts : List Expr} {kk : Nat} {tpos p : Pos} {ta : XA} (hg : Gl X "enumerate") (hm : X.mg "enumerate" = none) (ha : SA X G [a] ta) (hs : starEach [a] X.env = [(false, eval a X.env)] := by rfl) : SI X G (.Tuple elts kk tpos) (.Call (.Name "enumerate" p) [a] [] pos) (iEn ta) := .mk <| PI.mono (pi_enum hg hm ha.p hs) fun τ H R q => by
  obtain ⟨ρ, σ, h, S, L, q⟩ := q
  refine seq_A S L q fun ws h1 ρ1 H1 vs S1 L1 x1 r1 q1 => ?_
  split at q1
  · split at q1
    · rename_i xs hx
      cases r1 with
      | cons r r' =>
        cases r'
        cases r with
        | ref hr =>
          obtain ⟨a, us, e1, sq, rs⟩ := S1.list hx (.ref hr)
          cases e1
          exact ⟨_, us, rfl, sq, q1 ρ1 H1 .refl S1 _ (ite_ok hr)⟩
    · exact q1.elim
  · exact q1.elim
/-! ### in, not in -/
def listOrTup (h : AH) : W → Option (List W)
  | .ref n => listAt h n
  | .tup xs => some xs
  | _ => none
def eqWW : W → W → Bool
  | .non, .non => true
  | .bl a, .bl b => a == b
  | .bl a, .int b => (if a then 1 else 0) == b
  | .int a, .bl b => a == (if b then 1 else 0)
  | .int a, .int b => a == b
  | .str a, .str b => a == b
  | _, _ => false
def inW (x : W) (xs : List W) : Bool := xs.any fun y => eqWW y x
def oIn (neg : Bool) : O2 := fun x y h => match listOrTup h y with
  | some xs => if flatW x = true ∧ xs.all flatW = true then .ok (.bl (if neg then !inW x xs else inW x xs)) h else .bad
  | none => .bad
theorem flat_rel {g : Gx} {ρ : List Addr} {H : Hp} {w : W} {v : V} (r : RelW g ρ H w v) (e : flatW w = true) : flatV v = true := by
  cases r <;> first | rfl | cases e
theorem flats_rel {g : Gx} {ρ : List Addr} {H : Hp} : ∀ {ws : List W} {vs : List V}, RelWs g ρ H ws vs → ws.all flatW = true → vs.all flatV = true
  | _, _, .nil, _ => rfl
  | _, _, .cons r t, e => by
    rw [List.all_cons, Bool.and_eq_true] at e ⊢
    exact ⟨flat_rel r e.1, flats_rel t e.2⟩
theorem eq_rel {g : Gx} {ρ : List Addr} {H : Hp} {w w' : W} {v v' : V} (r : RelW g ρ H w v) (r' : RelW g ρ H w' v') (e : flatW w = true) (e' : flatW w' = true) : eqV v v' = eqWW w w' := by
  cases r <;> first | (cases r' <;> first | rfl | cases e') | cases e
theorem in_rel {g : Gx} {ρ : List Addr} {H : Hp} {w : W} {v : V} (r : RelW g ρ H w v) (e : flatW w = true) : ∀ {ws : List W} {vs : List V}, RelWs g ρ H ws vs → ws.all flatW = true → inV v vs = inW w ws
  | _, _, .nil, _ => rfl
  | _, _, .cons r1 t, k => by
    rw [List.all_cons, Bool.and_eq_true] at k
    unfold inV inW
    rw [List.any_cons, List.any_cons, eq_rel r1 r k.1 e]
    have := in_rel r e t k.2
    unfold inV inW at this
    rw [this]
theorem in_of {neg : Bool} {x y : V} {H : Hp} {Q : VK} (q : rOf X G (oIn neg) x y H Q) : rIn X.K neg x y H Q := by
  obtain ⟨ρ, w, z, h, S, rx, ry, q⟩ := q
  unfold oIn at q
  split at q
  · rename_i xs hx
    split at q
    · rename_i hf
      have q' := q ρ H .refl S _ (.bl _)
      cases z with
      | ref n =>
        obtain ⟨a, vs, rfl, sq, rs⟩ := S.list hx ry
        refine ⟨a, vs, rfl, .inl sq, flat_rel rx hf.1, flats_rel rs hf.2, ?_⟩
        rw [in_rel rx hf.1 rs hf.2]; exact q'
      | tup ys =>
        cases hx
        cases ry with
        | tup sq rs =>
          refine ⟨_, _, rfl, .inr sq, flat_rel rx hf.1, flats_rel rs hf.2, ?_⟩
          rw [in_rel rx hf.1 rs hf.2]; exact q'
      | _ => cases hx
    · exact q.elim
  · exact q.elim
theorem notIn_S : OpS X G (compareOp .NotIn) (oIn true) := .mk <| OpR.mono op_notIn_seq fun x y H Q q => in_of q

/-! ### any value's truth -/
theorem RelWs.isEmpty {g : Gx} {ρ : List Addr} {H : Hp} {ws : List W} {vs : List V} (r : RelWs g ρ H ws vs) : vs.isEmpty = ws.isEmpty := by cases r <;> rfl
end
end Z
set_option Elab.async false
set_option linter.all false
set_option maxRecDepth 100000
set_option maxHeartbeats 4000000
/-! instances -/
namespace Z
open PySem PySem.Spec PyProof.Rows L2
def putW (f : Str) (v : W) : List (Str × W) → List (Str × W)
  | [] => [(f, v)]
  | (g, x) :: r => if g = f then (g, v) :: r else (g, x) :: putW f v r
theorem RelF.put {g : Gx} {ρ : List Addr} {H : Hp} {f : Str} {w : W} {v : V} (r : RelW g ρ H w v) : ∀ {ws : List (Str × W)} {vs : List (Str × V)}, RelF g ρ H ws vs → RelF g ρ H (putW f w ws) (putF f v vs)
  | _, _, .nil => .cons r .nil
  | _, _, .cons (f := k) r1 t => by
    unfold putW putF
    split
    · exact .cons r t
    · exact .cons r1 (RelF.put r t)
theorem RelF.look {g : Gx} {ρ : List Addr} {H : Hp} {f : Str} : ∀ {ws : List (Str × W)} {vs : List (Str × V)}, RelF g ρ H ws vs → (∀ w, ws.lookup f = some w → ∃ v, vs.lookup f = some v ∧ RelW g ρ H w v) ∧ (ws.lookup f = none → vs.lookup f = none)
  | _, _, .nil => ⟨fun w e => (by cases e), fun _ => rfl⟩
  | _, _, .cons (f := k) r t => by
    obtain ⟨h1, h2⟩ := RelF.look (f := f) t
    simp only [List.lookup]
    cases hb : f == k with
    | true => exact ⟨fun w e => (by cases e; exact ⟨_, rfl, r⟩), fun e => (by cases e)⟩
    | false => exact ⟨h1, h2⟩
section
variable {X : Cx} {G : GT} {a b c o : Expr} {fa fb fc fo : XE} {pos p2 : Pos} {st : Stmt} {rest body : List Stmt} {f g : XS} {tg iter : Expr}
/-! ### methods -/
theorem mem_lookup {α β : Type} [BEq α] [LawfulBEq α] {a : α} {b : β} : ∀ {l : List (α × β)}, l.lookup a = some b → (a, b) ∈ l
  | (k, v) :: r, e => by
    simp only [List.lookup] at e
    cases hb : a == k with
    | true => rw [hb] at e; cases e; rw [beq_iff_eq.mp hb]; exact List.mem_cons_self
    | false => rw [hb] at e; exact List.mem_cons_of_mem _ (mem_lookup e)
/-! ### making -/
end
end Z
set_option Elab.async false
set_option linter.all false
set_option maxRecDepth 100000
set_option maxHeartbeats 4000000
namespace Z
open PySem PySem.Spec PyProof.Rows L2

/-! ### the number of generators only grows -/
theorem gens_runs {M : Model} {Γ : PySem.Ctx} {p : Pos} {t : Sem Fin} {fs : List Frame} {s z : Shared} {e : End} (h : Runs M Γ p t fs s e z) : s.gens.size ≤ z.gens.size := by
  induction h <;> (try simp only [Shared.setGen, Array.size_push, Array.size_setIfInBounds, Array.size_set!, Array.size_modify] at *) <;> omega
theorem gens_wakes {M : Model} {Γ : PySem.Ctx} {p : Pos} {g : Nat} {r : Resume} {s z : Shared} {res : GenResult} (h : Wakes M Γ p g r s res z) : s.gens.size ≤ z.gens.size := by
  have sz : ∀ (u : Shared) (st : GenState), (u.setGen g st).gens.size = u.gens.size := fun u st => by simp [Shared.setGen]
  unfold Wakes at h
  split at h
  · exact h.elim
  · split at h
    · obtain ⟨e1, u, hr, _, _, rfl⟩ := h
      have q := gens_runs hr
      rw [sz] at q
      rw [sz]; exact q
    · rw [h.2]; first | exact Nat.le_refl _ | (rw [sz]; exact Nat.le_refl _)
    · rw [h.2]; first | exact Nat.le_refl _ | (rw [sz]; exact Nat.le_refl _)
  · obtain ⟨e1, u, hr, _, _, rfl⟩ := h
    have q := gens_runs hr
    rw [sz] at q
    rw [sz]; exact q
  · rw [h.2]; exact Nat.le_refl _
  · rw [h.2]; exact Nat.le_refl _
theorem gens_wp {α : Type} (M : Model) (Γ : PySem.Ctx) (n : Nat) (t : Sem α) : ∀ (Q : α → Pos → Shared → Prop) (E : Value → Pos → Shared → Prop) (p : Pos) (s : Shared), n ≤ s.gens.size → Sem.wp M Γ t Q E p s →
    Sem.wp M Γ t (fun a p1 z => n ≤ z.gens.size ∧ Q a p1 z) (fun e p1 z => n ≤ z.gens.size ∧ E e p1 z) p s := by
  induction t with
  | pure a => exact fun Q E p s hn h => ⟨hn, h⟩
  | raise e => exact fun Q E p s hn h => ⟨hn, h⟩
  | unsupported _ => exact fun Q E p s _ h => h
  | finish _ => exact fun Q E p s _ h => h
  | register _ _ => exact fun Q E p s _ h => h
  | fork _ _ => exact fun Q E p s _ h => h
  | yield _ _ _ _ => exact fun Q E p s _ h => h
  | await _ _ _ _ _ => exact fun Q E p s _ h => h
  | rule _ k ih => exact fun Q E p s hn h => ih () Q E p s hn h
  | «at» p2 k ih => exact fun Q E p s hn h => ih () Q E p2 s hn h
  | load a _ k ih => exact fun Q E p s hn ⟨o, ho, h⟩ => ⟨o, ho, ih o Q E p s hn h⟩
  | update a _ f k ih => exact fun Q E p s hn h => ⟨h.1, ih () Q E p _ hn h.2⟩
  | loadIfAlive a k ih => exact fun Q E p s hn h => ih _ Q E p s hn h
  | point _ k ih => exact fun Q E p s hn h => ih () Q E p s hn h
  | alloc o k ih => exact fun Q E p s hn h => ih _ Q E p _ hn h
  | fresh k ih => exact fun Q E p s hn h => ih _ Q E p _ hn h
  | ask k ih => exact fun Q E p s hn h => ih _ Q E p s hn h
  | choose src m k ih => exact fun Q E p s hn h => ⟨h.1, ih _ Q E p _ hn h.2⟩
  | os q _ k ih => exact fun Q E p s hn h => ih _ Q E p _ hn h
  | call c hd _ _ k ih => exact fun Q E p s hn ⟨r, z, hr, h⟩ => ⟨r, z, hr, ih r Q E p z (Nat.le_trans hn (gens_runs hr)) h⟩
  | handled own k ih => exact fun Q E p s hn h => ih _ Q E p s hn h
  | genState g k ih => exact fun Q E p s hn ⟨st, hs, h⟩ => ⟨st, hs, ih _ Q E p s hn h⟩
  | newGen c k ih => exact fun Q E p s hn h => ih _ Q E p _ (Nat.le_trans hn (by simp)) h
  | resume g r _ k ih => exact fun Q E p s hn ⟨res, z, hw, h⟩ => ⟨res, z, hw, ih res Q E p z (Nat.le_trans hn (gens_wakes hw)) h⟩
  | stack k ih => exact fun Q E p s hn h => ih _ Q E p s hn h
  | thread k ih => exact fun Q E p s hn h => ih _ Q E p s hn h
theorem gens_any {α : Type} {M : Model} {A : Around} {s : Shared} {t : Sem α} {Q : α → Shared → Prop} {E : Value → Shared → Prop} {n : Nat} (hn : n ≤ s.gens.size) (h : wpAny M A t Q E s) :
    wpAny M A t (fun a z => n ≤ z.gens.size ∧ Q a z) (fun e z => n ≤ z.gens.size ∧ E e z) s :=
  fun Γ p hΓ => gens_wp M Γ n t _ _ p s hn (h Γ p hΓ)
end Z
set_option Elab.async false
set_option linter.all false
set_option maxRecDepth 100000
set_option maxHeartbeats 4000000
namespace L2
open PySem PySem.Spec PyProof.Rows

/-- the context of a generator expression's frame: s the state ahead of it, pn the generator itself -/
abbrev Cx.gen (X : Cx) (A : Around) (s : Shared) (H : Hp) (cenv : Env) (fp : List Addr) (pn : List (Addr × Obj)) : Cx :=
  { X with A := A, s_0 := s, H_0 := H, env := cenv, outer := X.stack, stack := cenv :: X.stack, ex := fp, fn := fun _ => false, pn := pn, xe := fun _ _ => False }

section
variable {X : Cx} {pins : List (Addr × Obj)} {σ : St} {H : Hp} {s s5 : Shared}
theorem Inv.re {z : Shared} (I : Inv X pins σ H s) (hh : z.heap = s.heap) (ho : z.os = s.os) (hb : AllBare z.gens) : Inv X pins σ H z :=
  ⟨I.ok, ho.trans I.os, hb, by rw [hh]; exact I.base, by rw [hh]; exact I.loc, by rw [hh]; exact I.cell, I.free, I.freeC, by rw [hh]; exact I.pin, by rw [hh]; exact I.hok, I.len⟩
theorem gen_start {scope : Scope} {own : List (Str × Nat)} {fp : List Addr} {A : Around} {code : Value} {a : Addr} {go : Obj} {m : Str → Option Value} (I : Inv X pins σ H s) (ok : BlkOk X.N X.env.scope scope own) (hN : X.N.Nodup)
    (hcell : ∀ y ∈ scope.names, y.2 ≠ .cell) (hfp : ∀ b ∈ fp, FpOk X pins H b ∧ b < s.heap.objs.size) (hA : A.frames = some (genEnv scope (cloFrom X.env.cells scope.names []) s.heap.objs.size code builtinsNs X.env :: X.stack)) (hd : X.calm = true → A.handled = none)
    (hos : s5.os = s.os) (hbare : AllBare s5.gens) (hns : s5.heap.Ns s.heap.objs.size m) (kp : ∀ b o, s.heap.get? b = some o → s5.heap.get? b = some o) (ha : s5.heap.get? a = some go) (hlt : s.heap.objs.size < a) (hgo : ∀ v, go.data ≠ .cell v) :
    Inv (X.gen A s H (genEnv scope (cloFrom X.env.cells scope.names []) s.heap.objs.size code builtinsNs X.env) fp [(a, go)]) [] (wipe σ (own.map (·.2))) H s5 := by
  have hfree : ∀ y ∈ scope.names, y.2 = .free → ∃ c, X.env.cells.lookup y.1 = some c := fun y hy e => by
    rcases ok.free y hy e with k | k
    · exact I.ok.has _ (.inl k)
    · exact I.ok.has _ (.inr k)
  have cm : ∀ {y c}, (y, c) ∈ cloFrom X.env.cells scope.names [] → X.env.cells.lookup y = some c ∧ c < s.heap.objs.size := fun {y c} hm => by
    rcases cloFrom_mem hm with hm | ⟨h1, rfl⟩
    · cases hm
    · obtain ⟨c, hc⟩ := hfree _ h1 rfl
      rw [hc]
      obtain ⟨w, z⟩ := I.cell _ _ hc
      exact ⟨rfl, z.lt⟩
  have mem : ∀ {y c}, (cloFrom X.env.cells scope.names []).lookup y = some c → X.env.cells.lookup y = some c ∧ c < s.heap.objs.size := fun {y c} e => cm (PySem.mem_of_lookup e)
  have look : ∀ {y}, scope.names.lookup y = some .free → ∃ c, (cloFrom X.env.cells scope.names []).lookup y = some c ∧ X.env.cells.lookup y = some c := fun {y} hl => by
    obtain ⟨c, e⟩ := mem_lookup (cloFrom_has (cells := X.env.cells) (acc := []) (PySem.mem_of_lookup hl))
    exact ⟨c, e, (mem e).1⟩
  have okG : (X.gen A s H (genEnv scope (cloFrom X.env.cells scope.names []) s.heap.objs.size code builtinsNs X.env) fp [(a, go)]).Ok := by
    refine ⟨I.ok.mod, ok.kind, I.ok.glob, rfl, Nat.le_refl _, fun y z c e1 e2 => I.ok.inj y z c (mem e1).1 (mem e2).1, fun y hy => ?_, fun y c z _ => absurd z Bool.false_ne_true, hd, hA, .inr ⟨rfl, rfl⟩, fun b hb => ⟨Nat.ne_of_lt (hfp b hb).2, fun y c e z => (hfp b hb).1.2.2.2.2.1 y c (mem e).1 z⟩,
      I.bs, Nat.le_trans I.ok.bsz I.sz, fun b o e hb => ?_, fun b hb z => ?_, I.stack, I.stkFree⟩
    · have hy : scope.names.lookup y = some .cell ∨ scope.names.lookup y = some .free := hy
      rcases hy with hy | hy
      · exact absurd rfl (hcell _ (PySem.mem_of_lookup hy))
      · obtain ⟨c, h1, _⟩ := look hy
        exact ⟨c, h1⟩
    · rcases (hfp b hb).1.2.2.2.1 with z | z
      · exact I.ok.noex b o e z
      · exact absurd (Nat.lt_of_lt_of_le (Heap.lt_size e) (Nat.le_trans I.ok.bsz z)) (Nat.lt_irrefl _)
    · rcases List.mem_cons.mp (I.stkSub b z) with z | z
      · exact (hfp b hb).1.2.1 z
      · exact (hfp b hb).1.2.2.1 z
  refine ⟨okG, hos, hbare, Un.kept kp, ⟨m, hns, fun i y av e1 e2 e3 => ?_⟩, fun y c e => ?_, I.hok.fresh (Nat.le_refl _), fun y c e => I.freeC y c (mem e).1, fun p hp => ?_, I.hok.kept kp, by rw [wipe_length]; exact I.len⟩
  · obtain ⟨e2, hne⟩ := wipe_some e2
    have no : ∀ k, scope.names.lookup y = some k → ¬ (k = .local ∨ k = .cell) := fun k e hh => by
      rcases ok.own _ (PySem.mem_of_lookup e) hh with q | q
      · obtain ⟨p, hp, hpy⟩ := List.mem_map.mp q
        have e4 := ok.ix p hp
        have : p.1 = y := hpy
        rw [this] at e4
        exact hne (List.mem_map.mpr ⟨p, hp, nodup_ix hN e4 e1⟩)
      · exact q (List.mem_of_getElem? e1)
    have e3 : Vis scope y := e3
    have hfr : scope.names.lookup y = some .free := by
      rcases e3 with e3 | e3 | e3
      · exact absurd (.inl rfl) (no _ e3)
      · exact absurd (.inr rfl) (no _ e3)
      · exact e3
    obtain ⟨m', hn, hl⟩ := I.loc
    have hvis : Vis X.env.scope y := (ok.free _ (PySem.mem_of_lookup hfr) rfl).elim (fun k => .inr (.inl k)) (fun k => .inr (.inr k))
    obtain ⟨w, r, q⟩ := hl i y av e1 e2 hvis
    refine ⟨w, r, .inr ⟨.inr hfr, ?_⟩⟩
    obtain ⟨c, h1, h2⟩ := look hfr
    rcases q with ⟨k, _⟩ | ⟨_, c', e', z⟩
    · have k : X.env.scope.names.lookup y = some .local := k
      rcases ok.free _ (PySem.mem_of_lookup hfr) rfl with k' | k' <;> rw [show X.env.scope.names.lookup y = _ from k'] at k <;> cases k
    · rw [h2] at e'; cases e'
      exact ⟨c, h1, z.keeps kp⟩
  · obtain ⟨w, z⟩ := I.cell y c (mem e).1
    exact ⟨w, z.keeps kp⟩
  · have e : p = (a, go) := by simpa using (show p ∈ [(a, go)] ++ ([] : List (Addr × Obj)) from hp)
    subst e
    refine ⟨ha, I.hok.fresh (Nat.le_of_lt hlt), Nat.ne_of_gt hlt, fun hb => ?_, hgo⟩
    obtain ⟨_, o, ho, _⟩ := I.stack.mem hb
    exact absurd (Nat.lt_trans (Heap.lt_size ho) hlt) (Nat.lt_irrefl _)
end
end L2
set_option Elab.async false
set_option linter.all false
set_option maxRecDepth 100000
set_option maxHeartbeats 4000000
namespace L2
open PySem PySem.Spec PyProof.Rows

theorem thnG {α : Type} {t : Sem α} {Q Q' : α → Shared → Prop} {M : Model} {A : Around} {E : Value → Shared → Prop} {s : Shared} {n : Nat} (hn : n ≤ s.gens.size) (h : wpAny M A t Q (fun _ _ => False) s) (hQ : ∀ a z, n ≤ z.gens.size → Q a z → Q' a z) : wpAny M A t Q' E s :=
  wpAny_mono (Z.gens_any hn h) (fun a z q => hQ a z q.1 q.2) fun _ _ q => q.2.elim
/-- the code of the loop, of its start -/
abbrev gC (elt tg iter : Expr) (scope : Scope) (pos : Pos) (it : Addr) (cenv : Env) : Code := .compLoop (.GeneratorExp elt [⟨tg, iter, [], 0⟩] scope pos) 0 (.ref it) .none cenv
abbrev gS (elt tg iter : Expr) (scope : Scope) (pos : Pos) (it : Addr) (cenv : Env) : Code := .compStart (.GeneratorExp elt [⟨tg, iter, [], 0⟩] scope pos) 0 (.ref it) .none cenv
/-- it is exhausted; it yields a bool, and goes on behind True -/
def GE (XG : Cx) (σw : St) (Qb : Bool → Hp → Prop) (s : Shared) : Prop := ∃ H, Inv XG [] σw H s ∧ Qb true H
def GY (XG : Cx) (σw : St) (Qb : Bool → Hp → Prop) (gn : Nat) : Protocol := fun _ _ v s kap => gn + 1 ≤ s.gens.size ∧ ∃ b H, v = .bool b ∧ Inv XG [] σw H s ∧ (b = false → Qb false H) ∧
  (b = true → ∀ z : Shared, z.heap = s.heap → z.os = s.os → AllBare z.gens → gn + 1 ≤ z.gens.size → kap (.send .none) z)

section
variable {X : Cx} {σ : St} {elt tg iter : Expr} {scope : Scope} {pos : Pos} {it : Addr} {fp : List Addr} {tn : Nat → Heap → Prop} {J : It} {g : TG} {te : TE} {cenv : Env} {A2 : Around} {s4 : Shared} {H4 : Hp} {pn : List (Addr × Obj)}
  {Qb : Bool → Hp → Prop} {vs : List Nat} {gn : Nat} {W : Nat → Nat → Hp → Prop}
theorem gen_loop (hc : X.calm = true) (hh : A2.handled = none) (hco : cenv.scope.isCoroutine = false) (T : Turn X.prog X.w X.K tg J fp it tn)
    (pg : PG (X.gen (A2.over (gC elt tg iter scope pos it cenv) []) s4 H4 cenv fp pn) tg g) (pe : PE (X.gen (A2.over (gC elt tg iter scope pos it cenv) []) s4 H4 cenv fp pn) elt te)
    (turn : ∀ i m H, W i m H → (J.stop i H ∧ Qb true H) ∨ (J.go i H ∧ ∃ m', m = m' + 1 ∧ ∀ x H', J.yld i H x H' → g x (wipe σ vs) H' fun σ2 H2 => wipe σ2 vs = wipe σ vs ∧ te σ2 H2 fun y H3 => ∃ b, y = .bl b ∧ (b = true → W (i + 1) m' H3) ∧ (b = false → Qb false H3)))
    (hpn : ∀ b ∈ fp, ∀ p ∈ pn, p.1 ≠ b) :
    ∀ (m i : Nat) (s0 s : Shared) (H : Hp), W i m H → Inv (X.gen (A2.over (gC elt tg iter scope pos it cenv) []) s4 H4 cenv fp pn) [] (wipe σ vs) H s → tn i s.heap → (∀ b ∈ fp, H b = none) → gn + 1 ≤ s.gens.size →
      Seg (model X.prog X.w) A2 (fun _ _ r z => r = .ok .next ∧ GE (X.gen (A2.over (gC elt tg iter scope pos it cenv) []) s4 H4 cenv fp pn) (wipe σ vs) Qb z)
        (GY (X.gen (A2.over (gC elt tg iter scope pos it cenv) []) s4 H4 cenv fp pn) (wipe σ vs) Qb gn) m s0 (gC elt tg iter scope pos it cenv) ((model X.prog X.w).den (gC elt tg iter scope pos it cenv)) [] s := by
  have stat : ∀ {σ' : St} {H' : Hp} {s' : Shared}, Inv (X.gen (A2.over (gC elt tg iter scope pos it cenv) []) s4 H4 cenv fp pn) [] σ' H' s' → (∀ b ∈ fp, H' b = none) → ∀ b ∈ fp, FpOk (X.gen (A2.over (gC elt tg iter scope pos it cenv) []) s4 H4 cenv fp pn) [] H' b := fun {σ' H' s'} I' hn b hb =>
    ⟨hn b hb, (I'.ok.exf b hb).1, I'.ok.exfs b hb, .inl hb, fun x c e => (I'.ok.exf b hb).2 x c e, fun p hp => hpn b hb p (by simpa using (show p ∈ pn ++ ([] : List (Addr × Obj)) from hp))⟩
  intro m
  induction m with
  | zero =>
    intro i s0 s H w I st hn hg
    show Seg _ A2 _ _ _ s0 _ ((compTurn (.GeneratorExp elt [⟨tg, iter, [], 0⟩] scope pos) 0 (.ref it) .none cenv).onRaise (leaving cenv)) [] s
    rcases turn i 0 H w with ⟨stop, q⟩ | ⟨_, m', e, _⟩
    · rw [compTurn_gen, Sem.onRaise_eq_wrap]
      refine seg_bind_wrap (wpAny_standAt (seg_bind_wrap ?_))
      refine thnF (T.done (X.gen (A2.over (gC elt tg iter scope pos it cenv) []) s4 H4 cenv fp pn) rfl rfl rfl hc i [] s _ H (fun _ _ => False) I (stat I hn) st stop) fun r s1 ⟨hr, I1⟩ => ?_
      subst hr
      exact seg_end (.ok .next) ⟨rfl, H, I1, q⟩
    · cases e
  | succ m ih =>
    intro i s0 s H w I st hn hg
    show Seg _ A2 _ _ _ s0 _ ((compTurn (.GeneratorExp elt [⟨tg, iter, [], 0⟩] scope pos) 0 (.ref it) .none cenv).onRaise (leaving cenv)) [] s
    rw [compTurn_gen, Sem.onRaise_eq_wrap]
    refine seg_bind_wrap (wpAny_standAt (seg_bind_wrap ?_))
    rcases turn i (m + 1) H w with ⟨stop, q⟩ | ⟨go, m', e, step⟩
    · refine thnF (T.done (X.gen (A2.over (gC elt tg iter scope pos it cenv) []) s4 H4 cenv fp pn) rfl rfl rfl hc i [] s _ H (fun _ _ => False) I (stat I hn) st stop) fun r s1 ⟨hr, I1⟩ => ?_
      subst hr
      exact seg_end (.ok .next) ⟨rfl, H, I1, q⟩
    · obtain rfl : m = m' := Nat.succ.inj e
      refine thnG hg (T.item (X.gen (A2.over (gC elt tg iter scope pos it cenv) []) s4 H4 cenv fp pn) rfl rfl rfl hc i [] s _ H (fun _ _ => False) I (stat I hn) st go) fun r s1 g1 ⟨u, hr, h1⟩ => ?_
      subst hr
      refine seg_bind_wrap (thnG g1 h1 fun _ s2 g2 ⟨x, H2, I2, r2, y2, st2, n2⟩ => ?_)
      have I2' := I2.pinned (stat I2 n2) (T.obj _ _ st2)
      refine seg_bind_wrap (thnG g2 (pg _ s2 _ H2 x u _ I2' r2 (step x H2 y2)) fun _ s3 g3 ⟨σ3, H3, I3, hw3, q3⟩ => ?_)
      refine seg_bind_wrap (wpAny_pure ?_)
      have hy : ∀ v, yieldOut cenv v = yieldValue v := fun v => by simp only [yieldOut, hco, Bool.false_eq_true, if_false]
      simp only [if_true, hy]
      rw [Sem.bind_eq_wrap', Sem.bind_eq_wrap', Sem.wrap_wrap, Sem.wrap_wrap]
      refine seg_wrap (thnG g3 (pe _ s3 σ3 H3 _ I3 q3) fun v s5 g5 ⟨y, H5, I5, r5, b, hb, qt, qf⟩ => ?_)
      subst hb
      obtain rfl : v = Value.bool b := r5
      have hl : (wipe σ vs).length = σ3.length := by rw [← hw3, wipe_length]
      have I6 := (I5.unpinned (pins := [])).weak hl (fun j v e => by
        rw [← hw3] at e
        exact (wipe_some e).1)
      have pin' : ∀ b ∈ fp, ∀ o, s2.heap.get? b = some o → s5.heap.get? b = some o ∧ H5 b = none := fun b hb o e =>
        let z := I5.pin (b, o) (List.mem_append_right _ (List.mem_append_right _ (mem_pinsAt hb e)))
        ⟨z.1, z.2.1⟩
      refine seg_at (seg_yield rfl rfl rfl ⟨g5, b, H5, rfl, I6, qf, fun hb z z1 z2 z3 z4 => ?_⟩)
      refine seg_again rfl (ih (i + 1) z z H5 (qt hb) (I6.re z1 z2 z3) ?_ (fun b hb => ?_) z4)
      · rw [z1]
        exact T.keep _ _ _ st2 fun b hb o e => (pin' b hb o e).1
      · obtain ⟨o, e, _⟩ := T.obj _ _ st2 b hb
        exact (pin' b hb o e).2
end
end L2
set_option Elab.async false
set_option linter.all false
set_option maxRecDepth 100000
set_option maxHeartbeats 4000000
namespace L2
open PySem PySem.Spec PyProof.Rows

section
variable {X : Cx} {σ : St} {elt tg iter : Expr} {scope : Scope} {pos : Pos} {it a : Addr} {fp : List Addr} {tn : Nat → Heap → Prop} {J : It} {cenv : Env} {A2 : Around} {s4 : Shared} {H4 : Hp} {pn : List (Addr × Obj)}
  {Qb : Bool → Hp → Prop} {σw : St} {gn : Nat}
theorem gen_first {R : GenEnd} {Y : Protocol} {m : Nat} {s0 s : Shared} (T : Turn X.prog X.w X.K tg J fp it tn) (st : tn 0 s.heap) (loop : Seg (model X.prog X.w) A2 R Y m s0 (gC elt tg iter scope pos it cenv) ((model X.prog X.w).den (gC elt tg iter scope pos it cenv)) [] s) :
    Seg (model X.prog X.w) A2 R Y m s0 (gS elt tg iter scope pos it cenv) ((model X.prog X.w).den (gS elt tg iter scope pos it cenv)) [] s := by
  show Seg _ A2 _ _ _ s0 _ ((compStart (.GeneratorExp elt [⟨tg, iter, [], 0⟩] scope pos) 0 (.ref it) .none cenv).onRaise (leaving cenv)) [] s
  unfold compStart
  rw [Sem.onRaise_eq_wrap]
  show Seg _ A2 _ _ _ s0 _ ((ask >>= _).wrap _ _ _ _) [] s
  refine seg_bind_wrap (wpAny_askSetting ?_)
  split
  · exact seg_again rfl loop
  · refine seg_bind_wrap (wpAny_rule ?_)
    show Seg _ A2 _ _ _ s0 _ ((standAt iter.pos >>= _).wrap _ _ _ _) [] s
    exact seg_bind_wrap (wpAny_standAt (seg_bind_wrap (T.self _ 0 s _ _ st (seg_again rfl loop))))

theorem all_loop {XG : Cx} {R : Result → Shared → Prop} (hP : XG.prog = X.prog) (hw : XG.w = X.w) (hh : X.A.handled = none) (hroom : X.A.depth < recursionLimit) (hG : ∀ {H : Hp} {z : Shared}, Inv XG [] σw H z → z.heap.IsGen a gn)
    (fin : ∀ (b : Bool) (H : Hp) (y z : Shared), Inv XG [] σw H y → Qb b H → z.os = y.os → (∀ b o, y.heap.get? b = some o → z.heap.get? b = some o) → AllBare z.gens → R (.ok (.ret (.bool b))) z) :
    ∀ (m : Nat) (H : Hp) (s : Shared) (gs : GenState), Inv XG [] σw H s → s.gens[gn]? = some gs → gs.Goes (model X.prog X.w) X.A.in1.in1 (fun _ _ r z => r = .ok .next ∧ GE XG σw Qb z) (GY XG σw Qb gn) m (.send .none) (s.setGen gn .running) →
      codeAny (model X.prog X.w) X.A (.builtin "all.loop" ⟨[.ref a], []⟩) R s := by
  have bs : ∀ (z : Shared) (x : GenState), AllBare z.gens → x.bare = true → AllBare (z.setGen gn x).gens := fun z x hz hx y hy => by
    have hy : y ∈ z.gens.setIfInBounds gn x := hy
    rcases Array.mem_or_eq_of_mem_setIfInBounds hy with q | q
    · exact hz y q
    · rw [q]; exact hx
  intro m
  induction m with
  | zero =>
    intro H s gs I hgs hgo
    refine codeAny_builtin F.entry_all_loop ?_
    rw [Around.under_plainId F.plain_all_loop _]
    show wpAny _ X.A.in1 (pyNext (.ref a) >>= _) _ _ s
    refine wpAny_bind (wpAny_pyNext_genexpQ (P := fun _ _ z => GE XG σw Qb z) hh I.nolimit hroom (hG I) hgs hgo (fun v s1 gs' hb hv => ?_) fun s1 hp h' hk => ?_)
    · obtain ⟨hg1, b, H1, rfl, I1, qf, qt⟩ := hv
      cases b with
      | true =>
        have hk := qt rfl ((s1.setGen gn gs').setGen gn .running) rfl rfl (bs _ _ (bs _ _ I1.bare hb) rfl) (by simpa [Shared.setGen] using hg1)
        exact hk.elim
      | false =>
        refine wpAny_bind (wpAny_holding (wpAny_truthy_bool ?_))
        refine wpAny_bind (wpAny_letGo ?_)
        refine wpAny_bind (wpAny_rule (wpAny_pure ?_))
        exact fin false H1 s1 (s1.setGen gn gs') I1 (qf rfl) rfl (fun b o e => e) (bs _ _ I1.bare hb)
    · obtain ⟨H1, I1, q⟩ := hp
      refine wpAny_bind (wpAny_rule (wpAny_pure ?_))
      exact fin true H1 s1 _ I1 q rfl hk (bs _ _ I1.bare rfl)
  | succ m ih =>
    intro H s gs I hgs hgo
    refine codeAny_builtin F.entry_all_loop ?_
    rw [Around.under_plainId F.plain_all_loop _]
    show wpAny _ X.A.in1 (pyNext (.ref a) >>= _) _ _ s
    refine wpAny_bind (wpAny_pyNext_genexpQ (P := fun _ _ z => GE XG σw Qb z) hh I.nolimit hroom (hG I) hgs hgo (fun v s1 gs' hb hv => ?_) fun s1 hp h' hk => ?_)
    · obtain ⟨hg1, b, H1, rfl, I1, qf, qt⟩ := hv
      have sz : (s1.setGen gn gs').gens.size = s1.gens.size := by simp [Shared.setGen]
      cases b with
      | true =>
        have hk := qt rfl ((s1.setGen gn gs').setGen gn .running) rfl rfl (bs _ _ (bs _ _ I1.bare hb) rfl) (by simpa [Shared.setGen] using hg1)
        refine wpAny_bind (wpAny_holding (wpAny_truthy_bool ?_))
        refine wpAny_bind (wpAny_letGo ?_)
        simp only [if_true]
        refine wpAny_pure ⟨plainId_quiet F.plain_all_loop _, ih H1 (s1.setGen gn gs') gs' (I1.re rfl rfl (bs _ _ I1.bare hb)) ?_ hk⟩
        exact setGen_self (gs := s1.gens[gn]'hg1) (Array.getElem?_eq_getElem hg1)
      | false =>
        refine wpAny_bind (wpAny_holding (wpAny_truthy_bool ?_))
        refine wpAny_bind (wpAny_letGo ?_)
        simp only [Bool.false_eq_true, if_false]
        refine wpAny_bind (wpAny_rule (wpAny_pure ?_))
        exact fin false H1 s1 (s1.setGen gn gs') I1 (qf rfl) rfl (fun b o e => e) (bs _ _ I1.bare hb)
    · obtain ⟨H1, I1, q⟩ := hp
      refine wpAny_bind (wpAny_rule (wpAny_pure ?_))
      exact fin true H1 s1 _ I1 q rfl hk (bs _ _ I1.bare rfl)
end

/-! ### a code table grows -/
section
variable {X : Cx} {pins : List (Addr × Obj)} {σ : St} {H : Hp} {s : Shared} {h' : Heap}
theorem Inv.tabbed {t' : Nat} {P : Addr} {ps more : Array Value} (I : Inv X pins σ H s) (hP : H P = some (.tbl ps)) (hx : Heap.ExtBut P s.heap h') (hn : h'.get? P = some { cls := .none, data := .fields (ps ++ more) }) :
    Inv X pins σ (upd H P (.tbl (ps ++ more))) { s with heap := h', toks := t' } := by
  have ne : ∀ {b}, H b = none → b ≠ P := fun {b} e z => by rw [z, hP] at e; cases e
  have nt : ∀ {b u}, H b = some u → (∀ q, u ≠ .tbl q) → b ≠ P := fun {b u} e n z => by rw [z, hP] at e; cases e; exact n _ rfl
  refine I.step (g' := s.gens) (d' := s.drawn) (ch := []) (fun _ z => nomatch z) (fun b o _ _ _ e n => hx b o (ne n) e) (fun b o _ _ _ e n => ⟨o.slots, hx b o (ne n) e⟩) (fun b o _ e n => by rw [upd_ne (ne n)]; exact n) (fun b o _ e => ?_)
    (fun b xs e => by rw [upd_ne (nt e (fun q z => nomatch z))]; exact e) (fun b o u e => by rw [upd_ne (nt e (fun q z => nomatch z))]; exact e) (fun b qs e => ?_) (fun m hm => ?_) (fun b u e => ?_) I.bare
  · by_cases hb : b = P
    · subst hb; exact ⟨_, hn⟩
    · exact ⟨o, hx b o hb e⟩
  · by_cases hb : b = P
    · subst hb
      rw [hP] at e; cases e
      exact ⟨more, upd_same⟩
    · exact ⟨#[], by rw [upd_ne hb, e]; simp⟩
  · obtain ⟨o, es, ep, ho, r⟩ := hm
    exact ⟨o, es, ep, hx _ o (ne I.free) ho, r⟩
  · by_cases hb : b = P
    · subst hb
      rw [upd_same] at e; cases e
      exact hn
    · rw [upd_ne hb] at e
      refine (I.hok b u e).stay (fun c v hc q => hx c v ?_ q) (fun c q => by rw [upd_ne (nt q (fun _ z => nomatch z))]; exact q) fun c xs q => by rw [upd_ne (nt q (fun _ z => nomatch z))]; exact q
      rcases hc with z | z
      · rw [z]; exact hb
      · exact nt z (fun _ z => nomatch z)
end

/-- all(elt for tg in iter): the code's table at P may grow first -/
def tAllG (P : Addr) (wi : TI) (g : TG) (te : TE) (vs : List Nat) : TE := fun σ H Q => wi σ H fun J H1 => ∃ ps, H1 P = some (.tbl ps) ∧ TriplesOk ps.toList ∧ ∀ more, TriplesOk (ps ++ more).toList → ∃ W : Nat → Nat → Hp → Prop, (∃ m, W 0 m (upd H1 P (.tbl (ps ++ more)))) ∧
  ∀ i m H, W i m H → (J.stop i H ∧ Q (.bl true) H) ∨ (J.go i H ∧ ∃ m', m = m' + 1 ∧ ∀ x H', J.yld i H x H' → g x (wipe σ vs) H' fun σ2 H2 => wipe σ2 vs = wipe σ vs ∧ te σ2 H2 fun y H3 => ∃ b, y = .bl b ∧ (b = true → W (i + 1) m' H3) ∧ (b = false → Q (.bl false) H3))
theorem upd_id {H : Hp} {P : Addr} {u : HO} (h : H P = some u) : upd H P u = H := by
  funext b
  unfold upd
  split
  · rename_i e; rw [e, h]
  · rfl
section
variable {X : Cx}
theorem pe_allG {elt tg iter : Expr} {scope : Scope} {own : List (Str × Nat)} {pos cpos p : Pos} {wi : TI} {g : TG} {te : TE} {c P : Addr} (hc : X.calm = true) (hN : X.N.Nodup) (hroom : X.A.depth < recursionLimit) (hi : PI X tg iter wi) (ok : BlkOk X.N X.env.scope scope own)
    (hcell : ∀ y ∈ scope.names, y.2 ≠ .cell) (hco : scope.isCoroutine = false) (h0 : scope.names.lookup (".0" : Str) = some .local) (hcode : X.env.code = .ref c) (hT : ∀ h, X.K.In h → PySem.W.CodeHd h c P) (hbm : Z.BMain X.mg X.base)
    (hgl : Gl X "all") (hm : X.mg "all" = none)
    (hg : ∀ (it C : Addr) (cl : List (Str × Addr)) (code : Value) (s : Shared) (H : Hp) (fp : List Addr) (pn : List (Addr × Obj)), PG (X.gen (X.A.in1.in1.over (gC elt tg iter scope pos it (genEnv scope cl C code builtinsNs X.env)) []) s H (genEnv scope cl C code builtinsNs X.env) fp pn) tg g)
    (he : ∀ (it C : Addr) (cl : List (Str × Addr)) (code : Value) (s : Shared) (H : Hp) (fp : List Addr) (pn : List (Addr × Obj)), PE (X.gen (X.A.in1.in1.over (gC elt tg iter scope pos it (genEnv scope cl C code builtinsNs X.env)) []) s H (genEnv scope cl C code builtinsNs X.env) fp pn) elt te)
    (hs : ∀ x, genFold iter X.env x = pure x := by intro _; rfl) :
    PE X (.Call (.Name "all" p) [.GeneratorExp elt [⟨tg, iter, [], 0⟩] scope pos] [] cpos) (tAllG P wi g te (own.map (·.2))) := by
  intro pins s σ H Q I h
  refine wpAny_Call_Name_kw (ld_blt I hgl hm (show bootBuiltins "all" = some (.builtin "all") by decide +kernel) ?_)
  refine PyProof.Rows.callWith_builtin1 ?_ rfl rfl
  show wpAny _ _ (spliced ((false, eval (.GeneratorExp elt [⟨tg, iter, [], 0⟩] scope pos) X.env) :: backTo cpos (starEach [] X.env))) _ _ s
  refine Calls.spliced_cons ?_
  have hfree : ∀ y ∈ scope.names, y.2 = .free → ∃ c, X.env.cells.lookup y.1 = some c := fun y hy e => by
    rcases ok.free y hy e with k | k
    · exact I.ok.has _ (.inl k)
    · exact I.ok.has _ (.inr k)
  have hh := I.ok.hd hc
  refine wpAny_GeneratorExp_make hco (closure_ok hfree) hcell h0 ok.kind hroom (thn (hi pins s σ H _ I h) fun xv s1 hx => thn hx fun itv s2 h2 => ?_) hs
  obtain ⟨it, fp, tn, J, H2, e, I2, T, st2, f2, ps, hP, htr, k⟩ := h2
  subst e
  have hget : s2.heap.get? P = some (PySem.W.tabObj ps) := I2.hok P _ hP
  have hhd := hT _ I2.kIn
  have hcd := hhd.code hget htr
  have htab := hhd.tab hget
  have fpP : ∀ b ∈ fp, b ≠ P := fun b hb z => by
    have q := (f2 b hb).1
    rw [z, hP] at q; cases q
  -- the rest, once the table stands
  have rest : ∀ (code : Value) (more : Array Value) (s3 : Shared), Inv X pins σ (upd H2 P (.tbl (ps ++ more))) s3 → tn 0 s3.heap → TriplesOk (ps ++ more).toList →
      wpAny (model X.prog X.w) X.A (builtinsFor X.env.globals X.env.builtins) (fun bi s₄ => ∀ h', h'.Ns s₄.heap.objs.size (fun y => if y = ".0" then some (.ref it) else none) → Heap.SameBut s₄.heap.objs.size (s₄.heap.push { cls := .type "frame", data := .dict #[] }) h' →
        (fun v s₁ => wpAny (model X.prog X.w) X.A (spliced (backTo cpos (starEach [] X.env))) (fun vs s₂ => wpAny (model X.prog X.w) X.A (call (.builtin "all") (v :: vs)) (EP X pins σ Q) X.xe s₂) X.xe s₁) (.ref h'.objs.size) { s₄ with
          gens := s₄.gens.push (.fresh (.compStart (.GeneratorExp elt [⟨tg, iter, [], 0⟩] scope pos) 0 (.ref it) .none (genEnv scope (cloFrom X.env.cells scope.names []) s₄.heap.objs.size code bi X.env))),
          toks := s₄.toks + 1 + 1 + 1,
          heap := h'.push { cls := .type "generator", data := .fields #[.int s₄.gens.size 0, .str "<genexpr>" (s₄.toks + 1), .str (X.env.qual ++ "<genexpr>") (s₄.toks + 1 + 1)] } }) X.xe s3 := by
    intro code more s3 I3 st3 htr3
    obtain ⟨W, ⟨m0, w0⟩, turn⟩ := k more htr3
    obtain ⟨bm, ob, b1, b2, b3, b4, b5, b6⟩ := hbm
    refine wpAny_builtinsFor (m := X.mg) (by rw [I3.ok.glob]; exact I3.mod.glob.keeps I3.bk) b1 b2 (I3.bk _ _ b3) b4 b5 b6 ?_
    intro h' hn' hs'
    generalize hgo : ({ cls := .type "generator", data := .fields #[.int s3.gens.size 0, .str "<genexpr>" (s3.toks + 1), .str (X.env.qual ++ "<genexpr>") (s3.toks + 1 + 1)] } : Obj) = go
    have hsz : h'.objs.size = s3.heap.objs.size + 1 := by rw [hs'.1, Heap.size_push]
    have keep' : ∀ b o, s3.heap.get? b = some o → (h'.push go).get? b = some o := fun b o e => Heap.get?_push_of_some _ (hs'.extBut b o (Nat.ne_of_lt (Heap.lt_size e)) (Heap.get?_push_of_some _ e))
    have hnf : go.isFreed = false := by rw [← hgo]; rfl
    have hga : (h'.push go).get? h'.objs.size = some go := Heap.get?_push_size _ hnf
    have fz : ∀ b ∈ fp, b < s3.heap.objs.size := fun b hb => by
      obtain ⟨o, e, _⟩ := T.obj _ _ st3 b hb
      exact Heap.lt_size e
    have f3 : ∀ b ∈ fp, FpOk X pins (upd H2 P (.tbl (ps ++ more))) b ∧ b < s3.heap.objs.size := fun b hb => ⟨⟨by rw [upd_ne (fpP b hb)]; exact (f2 b hb).1, (f2 b hb).2⟩, fz b hb⟩
    show wpAny _ _ (spliced []) _ _ _
    refine Calls.spliced_nil ?_
    generalize hs5 : ({ s3 with gens := s3.gens.push (.fresh (.compStart (.GeneratorExp elt [⟨tg, iter, [], 0⟩] scope pos) 0 (.ref it) .none (genEnv scope (cloFrom X.env.cells scope.names []) s3.heap.objs.size code builtinsNs X.env))), toks := s3.toks + 1 + 1 + 1, heap := h'.push go } : Shared) = s5
    have hheap : s5.heap = h'.push go := by rw [← hs5]
    have hos : s5.os = s3.os := by rw [← hs5]
    have hgens : s5.gens = s3.gens.push (.fresh (.compStart (.GeneratorExp elt [⟨tg, iter, [], 0⟩] scope pos) 0 (.ref it) .none (genEnv scope (cloFrom X.env.cells scope.names []) s3.heap.objs.size code builtinsNs X.env))) := by rw [← hs5]
    have bare5 : AllBare s5.gens := fun y hy => by
      rw [hgens] at hy
      rcases Array.mem_push.mp hy with q | q
      · exact I3.bare y q
      · rw [q]; rfl
    generalize hce : genEnv scope (cloFrom X.env.cells scope.names []) s3.heap.objs.size code builtinsNs X.env = ce at hgens
    have hfr : (X.A.in1.in1.over (gC elt tg iter scope pos it ce) []).frames = some (ce :: X.stack) := by
      have e1 : X.A.in1.in1.frames = some X.stack := I3.ok.frames
      unfold Around.over
      simp only [e1, I3.ok.frames]
      rfl
    have I5 : Inv (X.gen (X.A.in1.in1.over (gC elt tg iter scope pos it ce) []) s3 (upd H2 P (.tbl (ps ++ more))) ce fp [(h'.objs.size, go)]) [] (wipe σ (own.map (·.2))) (upd H2 P (.tbl (ps ++ more))) s5 := by
      subst hce
      refine gen_start (m := fun y => if y = ".0" then some (.ref it) else none) I3 ok hN hcell f3 hfr (fun _ => hh) hos bare5 (by rw [hheap]; exact hn'.push _) (by rw [hheap]; exact keep') (by rw [hheap]; exact hga) (by rw [hsz]; exact Nat.lt_succ_self _) (fun v => by rw [← hgo]; exact fun z => nomatch z)
    have pg := hg it s3.heap.objs.size (cloFrom X.env.cells scope.names []) code s3 (upd H2 P (.tbl (ps ++ more))) fp [(h'.objs.size, go)]
    have pe := he it s3.heap.objs.size (cloFrom X.env.cells scope.names []) code s3 (upd H2 P (.tbl (ps ++ more))) fp [(h'.objs.size, go)]
    have hcs : ce.scope.isCoroutine = false := by rw [← hce]; exact hco
    rw [hce] at pg pe
    generalize hH3 : upd H2 P (.tbl (ps ++ more)) = H3 at I3 I5 pg pe w0 f3
    have hpn : ∀ b ∈ fp, ∀ p ∈ [(h'.objs.size, go)], p.1 ≠ b := fun b hb p hp z => by
      have e : p = (h'.objs.size, go) := by simpa using hp
      subst e
      have q : h'.objs.size = b := z
      have h2 := fz b hb
      rw [← q, hsz] at h2
      exact Nat.not_lt.mpr (Nat.le_succ _) h2
    have st5 : tn 0 s5.heap := T.keep _ _ _ st3 fun b _ o e => by rw [hheap]; exact keep' b o e
    have hG : ∀ {H' : Hp} {z : Shared}, Inv (X.gen (X.A.in1.in1.over (gC elt tg iter scope pos it ce) []) s3 H3 ce fp [(h'.objs.size, go)]) [] (wipe σ (own.map (·.2))) H' z → z.heap.IsGen h'.objs.size s3.gens.size := fun {H' z} I' => by
      have q := (I'.pin (h'.objs.size, go) (by simp)).1
      exact ⟨go, _, _, q, by rw [← hgo], by rw [← hgo], by rw [← hgo]⟩
    refine call_function_tree F.kind_all F.plain_all F.entry_all (F.args_all1 _) ?_
    unfold Builtin.«all»
    refine wpAny_bind (m := oneArg "all" _) (wpAny_pure ?_)
    refine wpAny_bind (wpAny_pyIter_gen (hG I5) ?_)
    refine wpAny_pure ⟨plainId_quiet F.plain_all_loop _, ?_⟩
    refine all_loop (X := X) (Qb := fun b H => Q (.bl b) H) (gn := s3.gens.size) (XG := X.gen (X.A.in1.in1.over (gC elt tg iter scope pos it ce) []) s3 H3 ce fp [(h'.objs.size, go)]) rfl rfl hh hroom hG (fun b H' y z I' q z1 z2 z3 => ?_) m0 H3 s5 (.fresh (.compStart (.GeneratorExp elt [⟨tg, iter, [], 0⟩] scope pos) 0 (.ref it) .none ce)) I5 (by rw [hgens]; exact Array.getElem?_push_size) ⟨rfl, ?_⟩
    · -- back in the def's context
      have un : Un (frs X.stack) fp H3 H' s3.heap y.heap := I'.base
      refine ⟨.bl b, H', ?_, rfl, q⟩
      refine I3.call' (ch := fp) (z1.trans I'.os) (un.trans (Un.kept z2)) (I'.hok.kept z2) z3 fun b hb => ⟨(f3 b hb).1.2.2.2.1, (f3 b hb).1.2.1, (f3 b hb).1.2.2.2.2.1, (f3 b hb).1.2.2.2.2.2⟩
    · refine gen_first (X := X) T (show tn 0 (s5.setGen s3.gens.size .running).heap from st5) ?_
      refine gen_loop (A2 := X.A.in1.in1) (W := W) hc hh hcs T pg pe turn hpn m0 0 _ _ H3 w0 (I5.re rfl rfl (fun y hy => ?_)) st5 (fun b hb => (f3 b hb).1.1) ?_
      · have hy : y ∈ s5.gens.setIfInBounds s3.gens.size .running := hy
        rcases Array.mem_or_eq_of_mem_setIfInBounds hy with q | q
        · exact bare5 y q
        · rw [q]; rfl
      · show s3.gens.size + 1 ≤ (s5.gens.setIfInBounds s3.gens.size .running).size
        rw [Array.size_setIfInBounds, hgens, Array.size_push]
        exact Nat.le_refl _
  refine ⟨I2.nolimit, ?_⟩
  cases hf : codeAmong pos ps.toList with
  | some cv =>
    refine wpAny_genexprCode_hit hcode hcd hf ?_
    refine rest cv #[] s2 ?_ st2 (by simpa using htr)
    have e : ps ++ #[] = ps := by simp
    rw [e, upd_id hP]
    exact I2
  | none =>
    refine wpAny_genexprCodeX hcode hcd htab hf fun c' h3 tk hx _ _ hc3 _ ht3 _ => ?_
    refine rest (.ref c') _ _ (I2.tabbed hP hx ht3.2) (T.keep _ _ _ st2 fun b hb o e => hx b o (fpP b hb) e) ?_
    obtain ⟨_, _, _, _, _, _, _, _, _, _, _, _, _, _, _, _, _, _, _, htr3, _⟩ := hc3
    exact htr3
end
end L2
set_option Elab.async false
set_option linter.all false
set_option maxRecDepth 100000
set_option maxHeartbeats 4000000
namespace Z
open PySem PySem.Spec PyProof.Rows L2

theorem HS.tabbed {g : Gx} {ρ : List Addr} {h : AH} {H : Hp} {q : Addr × Addr} {ps more : Array Value} (S : HS g ρ h H) (hq : q ∈ g.G.tb) (hP : H q.2 = some (.tbl ps)) (ht : TriplesOk (ps ++ more).toList) :
    HS g ρ h (upd H q.2 (.tbl (ps ++ more))) ∧ Ext g ρ H ρ (upd H q.2 (.tbl (ps ++ more))) := by
  have x : Ext g ρ H ρ (upd H q.2 (.tbl (ps ++ more))) := ⟨fun _ _ z => z, fun b vs z => sqT_upd (fun xs e => by rw [hP] at e; cases e) (fun ob xs e => by rw [hP] at e; cases e) z⟩
  refine ⟨⟨S.len, S.nd, fun n a o e1 e2 => ?_, fun r hr => ?_⟩, x⟩
  · have r := S.obj n a o e1 e2
    by_cases ha : a = q.2
    · subst ha
      cases r with
      | lst y _ => rw [hP] at y; cases y
      | fro y z =>
        rcases y with ⟨_, y⟩ | y
        · rw [hP] at y; cases y
        · exact .fro (.inr y) (z.ext x)
      | ins _ y _ => rw [hP] at y; cases y
    · exact r.ext x (upd_ne ha)
  · by_cases hr2 : r.2 = q.2
    · exact ⟨_, by rw [hr2]; exact upd_same, ht⟩
    · obtain ⟨ps', e1, e2⟩ := S.tb r hr
      exact ⟨ps', by rw [upd_ne hr2]; exact e1, e2⟩

section
variable {X : Cx} {G : GT} {a b c : Expr} {fa fb fc : XE} {pos p2 : Pos} {st : Stmt} {rest body : List Stmt} {f g : XS} {tg iter : Expr}
/-- all(e for g in ..), e a bool each time -/
def loopG (stay : AH → Bool) (g : TGt) (e : XE) (σ : SW) : List W → AH → Res W
  | [], h => if stay h = true then .ok (.bl true) h else .bad
  | x :: xs, h => if stay h = true then match g.run x σ with
      | some σ1 => (e σ1 h).noexc.bind fun y h2 => match y with
          | .bl true => loopG stay g e σ xs h2
          | .bl false => .ok (.bl false) h2
          | _ => .bad
      | none => .bad
    else .bad
def xAllG (it : XI) (g : TGt) (e : XE) (vs : List Nat) : XE := fun σ h => (it σ h).bind fun src h1 => loopG src.stay g e (wpW σ vs) src.items h1
theorem tAllG_of {it : XI} {g : TGt} {e : XE} {vs : List Nat} {q : Addr × Addr} (hq : q ∈ G.tb) (hsl : ∀ i ∈ g.slots, i ∈ vs) {τ : L2.St} {H : Hp} {Q : VK} (qq : tE X G (xAllG it g e vs) τ H Q) :
    tAllG q.2 (tI X G it) (gOf X G g) (tE X G fun σ h => (e σ h).noexc) vs τ H Q := by
  obtain ⟨ρ, σ, h, S, L, qq⟩ := qq
  refine seq_I S L qq fun src h1 ρ1 H1 J S1 L1 x1 hJ q1 => ?_
  obtain ⟨ps, hP, htr⟩ := S1.tb q hq
  refine ⟨ps, hP, htr, fun more htr2 => ?_⟩
  obtain ⟨S2, xt⟩ := S1.tabbed (more := more) hq hP htr2
  refine ⟨fun i m H' => m = src.items.length - i ∧ i ≤ src.items.length ∧ ∃ ρ' h', Ext ⟨X.K, G⟩ ρ1 (upd H1 q.2 (.tbl (ps ++ more))) ρ' H' ∧ HS ⟨X.K, G⟩ ρ' h' H' ∧ Gd X G ρ' H' (loopG src.stay g e (wpW σ vs) (src.items.drop i) h') fun w h'' ρ'' H'' => ∀ v, RelW ⟨X.K, G⟩ ρ'' H'' w v → Q v H'',
    ⟨src.items.length, by simp, Nat.zero_le _, ρ1, h1, .refl, S2, by simpa using q1.ext xt⟩, ?_⟩
  rintro i m H' ⟨rfl, hi, ρ', h', x', S', q'⟩
  have x1' : Ext ⟨X.K, G⟩ ρ1 H1 ρ' H' := xt.trans x'
  by_cases hlt : i < src.items.length
  · right
    have hd : src.items.drop i = src.items[i] :: src.items.drop (i + 1) := List.drop_eq_getElem_cons hlt
    have hw : src.items[i]? = some src.items[i] := by simp [hlt]
    rw [hd] at q'
    unfold loopG at q'
    split at q'
    · rename_i hst
      refine ⟨hJ.go i ρ' h' H' _ x1' S' hst hw, src.items.length - (i + 1), by omega, fun x H2 hy => ?_⟩
      obtain ⟨xy, S3, rw'⟩ := hJ.yld i ρ' h' H' _ x H2 x1' S' hst hw hy
      split at q'
      · rename_i σ1 hr
        refine ⟨ρ', wpW σ vs, h', _, σ1, S3, ((L1.ext x1').ext xy).wipe vs, rw', hr, fun τ3 L3 b3 => ⟨?_, ?_⟩⟩
        · rw [b3.wipe hsl, wipe_wipe]
        · refine seq_E S3 L3 (q'.ext xy) fun y h4 ρ4 H4 v S4 L4 x4 r4 q4 => ?_
          have x4' : Ext ⟨X.K, G⟩ ρ1 (upd H1 q.2 (.tbl (ps ++ more))) ρ4 H4 := (x'.trans xy).trans x4
          cases r4 with
          | bl b =>
            cases b with
            | true => exact ⟨true, rfl, fun _ => ⟨rfl, hlt, ρ4, h4, x4', S4, q4⟩, fun z => nomatch z⟩
            | false => exact ⟨false, rfl, (fun z => nomatch z), fun _ => q4 ρ4 H4 .refl S4 _ (.bl false)⟩
          | _ => exact q4.elim
      · exact q'.elim
    · exact q'.elim
  · left
    have e : i = src.items.length := by omega
    subst e
    rw [List.drop_length] at q'
    unfold loopG at q'
    split at q'
    · rename_i hst
      exact ⟨hJ.stop _ ρ' h' H' x1' S' hst (Nat.le_refl _), q' ρ' H' .refl S' _ (.bl true)⟩
    · exact q'.elim

theorem Gd.gen {α : Type} {r : Res α} {ρ : List Addr} {H : Hp} {P : α → AH → List Addr → Hp → Prop} {A : Around} {s : Shared} {H0 : Hp} {ce : Env} {fp : List Addr} {pn : List (Addr × Obj)} (q : Gd X G ρ H r.noexc P) : Gd (X.gen A s H0 ce fp pn) G ρ H r P := by
  cases r with
  | ok a h => exact q
  | exc c h => exact q.elim
  | bad => exact q
theorem Room.gen {k : Nat} {A : Around} {elt : Expr} {scope : Scope} {it : Addr} {ce : Env} (r : Room (k + 1) A) : Room k (A.in1.in1.over (gC elt tg iter scope pos it ce) []) := by
  refine ⟨r.hd, ?_, ?_⟩
  · have h := r.dp
    have e : (A.in1.in1.over (gC elt tg iter scope pos it ce) []).depth = A.depth + 0 + 1 := rfl
    rw [e]; omega
  · have h := r.un
    have e : (A.in1.in1.over (gC elt tg iter scope pos it ce) []).units = A.units + 1 + 1 + 0 + 3 := rfl
    rw [e]; omega
/-- where a def's generator expressions keep their code -/
structure CdFact (K : PySem.W.Frag) (fd : FuncData) (q : Addr × Addr) : Prop where
  code : fd.code = .ref q.1
  hd : ∀ h, K.In h → PySem.W.CodeHd h q.1 q.2
theorem se_allG {elt : Expr} {scope : Scope} {own : List (Str × Nat)} {it : XI} {gt : TGt} {e : XE} {cpos p : Pos} {q : Addr × Addr} {k : Nat} {fd : FuncData} (hc : X.calm = true) (hN : X.N.Nodup) (hr : Room (k + 1) X.A) (hcd : CdFact X.K fd q) (hcode : fd.code = X.env.code) (hq : q ∈ G.tb)
    (hbm : BMain X.mg X.base) (hm : X.mg "all" = none) (hi : SI X G tg iter it) (ok : BlkOk X.N X.env.scope scope own)
    (hg : ∀ (it C : Addr) (cl : List (Str × Addr)) (code : Value) (s : Shared) (H : Hp) (fp : List Addr) (pn : List (Addr × Obj)), SG (X.gen (X.A.in1.in1.over (gC elt tg iter scope pos it (genEnv scope cl C code builtinsNs X.env)) []) s H (genEnv scope cl C code builtinsNs X.env) fp pn) G tg gt)
    (he : ∀ (it C : Addr) (cl : List (Str × Addr)) (code : Value) (s : Shared) (H : Hp) (fp : List Addr) (pn : List (Addr × Obj)), Room k (X.A.in1.in1.over (gC elt tg iter scope pos it (genEnv scope cl C code builtinsNs X.env)) []) →
      SE (X.gen (X.A.in1.in1.over (gC elt tg iter scope pos it (genEnv scope cl C code builtinsNs X.env)) []) s H (genEnv scope cl C code builtinsNs X.env) fp pn) G elt e)
    (hsl : ∀ i ∈ gt.slots, i ∈ own.map (·.2) := by decide) (hcell : ∀ y ∈ scope.names, y.2 ≠ .cell := by decide) (hco : scope.isCoroutine = false := by rfl) (h0 : scope.names.lookup (".0" : Str) = some .local := by rfl) (hgl : Gl X "all" := by rfl)
    (hs : ∀ x, genFold iter X.env x = pure x := by intro _; rfl) :
    SE X G (.Call (.Name "all" p) [.GeneratorExp elt [⟨tg, iter, [], 0⟩] scope pos] [] cpos) (xAllG it gt e (own.map (·.2))) :=
  .mk <| PE.mono (pe_allG (te := tE X G fun σ h => (e σ h).noexc) (g := gOf X G gt) (c := q.1) (P := q.2) hc hN hr.depth hi.p ok hcell hco h0 (hcode.symm.trans hcd.code) hcd.hd hbm hgl hm (fun it C cl code s H fp pn => (hg it C cl code s H fp pn).p)
    (fun it C cl code s H fp pn => PE.mono (he it C cl code s H fp pn (Room.gen hr)).p fun τ H Q qq => by obtain ⟨ρ, σ', h, S, L, qq⟩ := qq; exact ⟨ρ, σ', h, S, L, Gd.gen qq⟩) hs) fun τ H Q qq => tAllG_of hq hsl qq
/-- a def by its body, which may ask where its code stands -/
theorem fn_SC {P : Program} {w : World} {K : PySem.W.Frag} {mg : Str → Option Value} {base : Heap} {x qual : Str} {st : Stmt} {fn : Addr} {fd : FuncData} {N ps : List Str} {k : Nat} {body : XS} (F : Fun K x qual st fn fd) (Sc : FnScope N ps (defScope st))
    (hbody : ∀ (cdv : Value) (A : Around) (outer : List Env) (s : Shared) (H : Hp) (E : XK), fd.code = cdv → Room k (A.deeper (envOfC qual (defScope st) s.heap.objs.size fn cdv)) →
      SB (cxOf CX0 P w K mg base N qual (defScope st) fn cdv A outer s H E).nox G (defBody st) body) : FnOk P w K mg base CX0 (k + 1) fn fd ps (spF K G ps.length (runB N.length body)) := by
  obtain ⟨oc, od, kV, doc, pm, an, cdv, ct, osl, rfl, lk, hcd⟩ := F.ex
  refine fn_of lk hcd Sc (fun vs H Q E h => ?_) fun A outer s H vs Q E hr h => ?_
  · obtain ⟨ρ, ws, h, S, r, hn, _⟩ := h
    rw [← r.length, hn]
  · refine ⟨_, (hbody cdv A outer s H E rfl hr).p.nox, ?_⟩
    obtain ⟨ρ, ws, h, S, r, hn, q⟩ := h
    refine ⟨ρ, startW N.length ws, h, S, start_rel r, ?_⟩
    unfold runB at q
    cases e : body (startW N.length ws) h with
    | ok fl h1 =>
      rw [e, Res.bind_ok] at q
      intro ρ' H' x s
      cases fl with
      | nx σ' => exact fun τ' L' => q ρ' H' _ x s .non
      | rt w' => exact fun v r' => q ρ' H' v x s r'
      | bk _ => exact q.elim
      | ct _ => exact q.elim
    | exc c h1 => rw [e] at q; exact q
    | bad => rw [e] at q; exact q
end
end Z
set_option Elab.async false
set_option linter.all false
set_option maxRecDepth 100000
set_option maxHeartbeats 4000000
namespace L2
open PySem PySem.Spec PyProof.Rows
/-- the unlike ones of a list, in the order in which they are first met -/
def nD (ns : List Int) : List Int := ns.foldl step_dedup []
theorem nD_first {ns : List Int} {n : Nat} (h : n = ns.length) : firstMet (fun i => ns.getD i 0) n = nD ns := by
  unfold firstMet nD
  subst h
  congr 1
  refine List.ext_getElem? fun i => ?_
  rw [List.getElem?_map]
  by_cases hi : i < ns.length
  · simp [hi]
  · simp [hi]
section
variable {X : Cx}
def rSet (K : PySem.W.Frag) : List V → Hp → VK → Prop := fun xs H Q => ∃ a ns, xs = [V.ref a] ∧ SqL K H a (ns.map V.int) ∧ ns.length + 1 < scanBound ∧ ∀ p, H p = none → Q (.ref p) (upd H p (.set (fun k => (nD ns).any (· == k)) (nD ns).length))
theorem cr_set (hc : X.calm = true) : CallR X (.type "set") (rSet X.K) := by
  intro pins s σ H vs us Q I r h
  obtain ⟨a, ns, rfl, hs, hb, q⟩ := h
  obtain ⟨its, rv, hl, _⟩ := I.list hs
  rw [Vals.ref1 r]
  have hi := rv.ints
  have hz : its.toArray.size = ns.length := by rw [List.size_toArray, ← rv.length, List.length_map]
  refine PySem.call_set_list (items := its.toArray) (ns := ns) (I.ok.hd hc) hl.isList (by simpa using hi) (by rw [hz]; exact hb) fun h' tk hS hk => ?_
  rw [nD_first hz] at hS
  refine ⟨.ref s.heap.objs.size, _, I.laid (t' := tk) (fun b o e => hk b o (Heap.lt_size e) e) (Nat.le_refl _) (o := .set (fun k => (nD ns).any (· == k)) (nD ns).length) hS, rfl, q _ (I.hok.fresh (Nat.le_refl _))⟩
def rLenS : List V → Hp → VK → Prop := fun xs H Q => ∃ a S n, xs = [V.ref a] ∧ H a = some (.set S n) ∧ Q (.int n) H
theorem cr_lenS : CallR X (.builtin "len") rLenS := by
  intro pins s σ H vs us Q I r h
  obtain ⟨a, S, n, rfl, ha, q⟩ := h
  rw [Vals.ref1 r]
  obtain ⟨o, es, ep, t, ho, hex, hd, _, _, hb, hf, hn⟩ := (show s.heap.SetOf (intKind X.prog X.w) a S n from I.hok a _ ha)
  have hfit : ((es.size : Nat) : Int) < 2 ^ 63 := by
    have h4 : es.size < 4096 := by unfold scanBound at hb; omega
    omega
  refine call_len_set ho hex hd hf hfit ?_
  rw [hn]
  exact ⟨.int n, H, I.tok _, ⟨_, rfl⟩, q⟩
end
end L2
namespace Z
open PySem PySem.Spec PyProof.Rows L2
section
variable {X : Cx} {G : GT} {a b c : Expr} {fa fb fc : XE} {pos p2 : Pos}
def xLenSet (f : XE) : XE := fun σ h => (f σ h).bind fun w h1 => match w with
  | .ref n => match listAt h1 n with
    | some ws => match optAll asInt ws with
      | some ns => if ns.length + 1 < scanBound then .ok (.int (nD ns).length) h1 else .bad
      | none => .bad
    | none => .bad
  | _ => .bad
theorem se_lenSet {p3 p4 : Pos} (hc : X.calm = true) (hl : X.mg "len" = none) (hs : X.mg "set" = none) (ha : SE X G a fa) (hg1 : Gl X "len" := by rfl) (hg2 : Gl X "set" := by rfl) (he1 : starEach [Expr.Call (.Name "set" p2) [a] [] p3] X.env = (false, eval (.Call (.Name "set" p2) [a] [] p3) X.env) :: starEach [] X.env := by rfl) (he2 : starEach [a] X.env = (false, eval a X.env) :: starEach [] X.env := by rfl) :
    SE X G (.Call (.Name "len" p4) [.Call (.Name "set" p2) [a] [] p3] [] pos) (xLenSet fa) :=
  .mk <| PE.mono (pe_callB cr_lenS hg1 hl (by decide +kernel) (pa_cons (pe_callTy (cr_set hc) hg2 hs (by decide +kernel) (pa_cons ha.p pa_nil he2) (he := he2)) pa_nil he1) (he := he1)) fun τ H Q q => by
    obtain ⟨ρ, σ, h, S, L, q⟩ := q
    refine seq_E S L q fun w h1 ρ1 H1 v S1 L1 x1 r1 q1 => ?_
    cases w with
    | ref n =>
      cases hw : listAt h1 n with
      | none => simp only [hw] at q1; exact q1.elim
      | some ws =>
        simp only [hw] at q1
        cases hns : optAll asInt ws with
        | none => simp only [hns] at q1; exact q1.elim
        | some ns =>
          simp only [hns] at q1
          by_cases hlt : ns.length + 1 < scanBound
          · rw [if_pos hlt] at q1
            obtain ⟨a, vs, rfl, sq, rs⟩ := S1.list hw r1
            have e := rel_ints hns rs
            subst e
            refine ⟨a, ns, rfl, sq, hlt, fun p hp => ⟨p, _, _, rfl, upd_same, ?_⟩⟩
            exact q1 ρ1 _ (ext_new hp) (S1.laid hp) _ (.int _)
          · rw [if_neg hlt] at q1; exact q1.elim
    | _ => exact q1.elim
end
end Z
set_option Elab.async false
set_option linter.all false
set_option maxRecDepth 100000
set_option maxHeartbeats 4000000
/-! equations of all(..), len(set(..)), enumerate -/
namespace Z
open PySem L2
def allK (g : TGt) (e : XE) (vs : List Nat) (σ : SW) (s : Res Src) : Res W := s.bind fun src h1 => loopG src.stay g e (wpW σ vs) src.items h1
def enK (x : Res (List W)) : Res Src := x.bind fun ws h1 => match ws with
  | [.ref n] => match listAt h1 n with
    | some xs => .ok (.enum n xs) h1
    | none => .bad
  | _ => .bad
theorem zG : (∀ (σ : SW) (h : AH) (I : XI) (g : TGt) (e : XE) (vs : List Nat), xAllG I g e vs σ h = allK g e vs σ (I σ h)) ∧
    (∀ (σ : SW) (h : AH) (g : TGt) (e : XE) (vs : List Nat) (src : Src), allK g e vs σ (.ok src h) = loopG src.stay g e (wpW σ vs) src.items h) ∧
    (∀ (σ : SW) (h : AH) (A : XA), iEn A σ h = enK (A σ h)) ∧
    (∀ (σ : SW), wpW σ [] = σ) ∧ (∀ (σ : SW) (v : Nat) (vs : List Nat), wpW σ (v :: vs) = (wpW σ vs).set v none) := by
  refine ⟨fun _ _ _ _ _ _ => rfl, fun _ _ _ _ _ _ => rfl, fun _ _ _ => rfl, fun _ => rfl, fun _ _ _ => rfl⟩
theorem enK_ref {h : AH} {n : Nat} {xs : List W} (e : listAt h n = some xs) : enK (.ok [.ref n] h) = .ok (.enum n xs) h := by
  unfold enK; simp only [Res.bind_ok, e]
theorem lenSet_ref {f : XE} {σ : SW} {h h1 : AH} {n : Nat} {ns : List Int} (hf : f σ h = .ok (.ref n) h1) (e : listAt h1 n = some (ns.map W.int)) (hl : ns.length ≤ 1000) : xLenSet f σ h = .ok (.int (nD ns).length) h1 := by
  have o : optAll asInt (ns.map W.int) = some ns := by
    clear hl e
    induction ns with
    | nil => rfl
    | cons a l ih =>
      rw [List.map_cons]
      unfold optAll
      rw [ih]
      rfl
  have b : ns.length + 1 < scanBound := by unfold scanBound; omega
  unfold xLenSet
  simp only [hf, Res.bind_ok, e, o, b, if_true]
theorem loopG_all {stay : AH → Bool} {g : TGt} {e : XE} {σ : SW} {h : AH} {p : W → Bool} (hst : stay h = true) : ∀ {xs : List W}, (∀ x ∈ xs, ∃ σ1, g.run x σ = some σ1 ∧ e σ1 h = .ok (.bl (p x)) h) → loopG stay g e σ xs h = .ok (.bl (xs.all p)) h
  | [], _ => by unfold loopG; rw [if_pos hst]; rfl
  | x :: xs, k => by
    obtain ⟨σ1, h1, h2⟩ := k x List.mem_cons_self
    unfold loopG
    rw [if_pos hst, h1]
    simp only [h2, Res.noexc_ok, Res.bind_ok]
    cases hp : p x with
    | true => rw [List.all_cons, hp, Bool.true_and]; exact loopG_all hst fun y hy => k y (List.mem_cons_of_mem _ hy)
    | false => rw [List.all_cons, hp]; rfl
theorem nD_nodup {ns : List Int} (h : ns.Nodup) : nD ns = ns := by
  have key : ∀ (l acc : List Int), (acc ++ l).Nodup → l.foldl PyProof.Rows.step_dedup acc = acc ++ l := by
    intro l
    induction l with
    | nil => intro acc _; simp
    | cons a l ih =>
      intro acc hn
      have ha : acc.any (· == a) = false := by
        rw [List.any_eq_false]
        intro x hx hxa
        have e : x = a := by simpa using hxa
        subst e
        have := (List.nodup_append.mp hn).2.2 x hx x List.mem_cons_self
        exact this rfl
      rw [List.foldl_cons]
      unfold PyProof.Rows.step_dedup
      rw [if_neg (by rw [ha]; exact Bool.false_ne_true)]
      have := ih (acc ++ [a]) (by rw [List.append_assoc]; exact hn)
      unfold PyProof.Rows.step_dedup at this
      rw [this, List.append_assoc]
      rfl
  unfold nD
  simpa using key ns [] (by simpa using h)
theorem numW_at {xs : List W} {i : Nat} {x : W} (e : (numW xs)[i]? = some x) : ∃ w, xs[i]? = some w ∧ x = .tup [.int (i : Int), w] := by
  unfold numW at e
  rw [List.getElem?_map, List.getElem?_zipIdx] at e
  cases hx : xs[i]? with
  | none => rw [hx] at e; simp at e
  | some w => rw [hx] at e; simp at e; exact ⟨w, rfl, e.symm⟩
end Z
set_option Elab.async false
set_option linter.all false
set_option maxRecDepth 100000
set_option maxHeartbeats 4000000
/-! zip of three lists -/
namespace Z3
open PySem PySem.Spec PyProof.Rows
section
variable {prog : Program} {w : World} {A : Around} {E : Value → Shared → Prop} {s : Shared}
variable {z TI TO i1 i2 i3 l1 l2 l3 : Addr} {k : Nat} {xs ys zs : Array Value} {x y v a b c : Value}
abbrev liO (l : Addr) : Obj := { cls := .type "list_iterator", data := .fields #[.ref l, .int 0 0] }
abbrev y1 (h : Heap) (l1 : Addr) : Heap := h.push (liO l1)
abbrev y2 (h : Heap) (l1 l2 : Addr) : Heap := (y1 h l1).push (liO l2)
abbrev y3 (h : Heap) (l1 l2 l3 : Addr) : Heap := (y2 h l1 l2).push (liO l3)
abbrev y4 (h : Heap) (l1 l2 l3 : Addr) : Heap := (y3 h l1 l2 l3).push { cls := .type "tuple", data := .seq #[.ref h.objs.size, .ref (y1 h l1).objs.size, .ref (y2 h l1 l2).objs.size] }
abbrev y5 (h : Heap) (l1 l2 l3 : Addr) : Heap := (y4 h l1 l2 l3).push { cls := .type "tuple", data := .seq #[.none, .none, .none] }
end
end Z3
set_option Elab.async false
set_option linter.all false
set_option maxRecDepth 100000
set_option maxHeartbeats 4000000
namespace L2
open PySem PySem.Spec PyProof.Rows Z3
end L2
namespace Z
open PySem PySem.Spec PyProof.Rows L2
section
variable {X : Cx} {G : GT} {a b c : Expr} {pos : Pos}
end
end Z
set_option Elab.async false
set_option linter.all false
set_option maxRecDepth 100000
set_option maxHeartbeats 4000000
/-! comprehensions whose element makes nothing -/
namespace Z
open PySem L2
theorem lc_filter {stay : AH → Bool} {g : TGt} {t : XT} {e : XE} {σ : SW} {xs : List W} {h : AH} (p : W → Bool) (f : W → W) (hl : xs.length ≤ 100000) (hst : ∀ acc, stay (h ++ [.lst acc]) = true)
    (step : ∀ x ∈ xs, ∃ σ1, g.run x σ = some σ1 ∧ ∀ acc, t σ1 (h ++ [.lst acc]) = .ok (p x) (h ++ [.lst acc]) ∧ (p x = true → e σ1 (h ++ [.lst acc]) = .ok (f x) (h ++ [.lst acc]))) :
    loopC stay g t e h.length σ xs (h ++ [.lst []]) = .ok (.ref h.length) (h ++ [.lst ((xs.filter p).map f)]) := by
  have key : ∀ (ys acc : List W), (∀ y ∈ ys, y ∈ xs) → acc.length + ys.length ≤ 100000 → loopC stay g t e h.length σ ys (h ++ [.lst acc]) = .ok (.ref h.length) (h ++ [.lst (acc ++ (ys.filter p).map f)]) := by
    intro ys
    induction ys with
    | nil => intro acc _ _; unfold loopC; rw [if_pos (hst acc)]; simp
    | cons y ys ih =>
      intro acc hm hl
      obtain ⟨σ1, e1, k⟩ := step y (hm y List.mem_cons_self)
      obtain ⟨k1, k2⟩ := k acc
      have hl' : acc.length + (ys.length + 1) ≤ 100000 := by simpa using hl
      unfold loopC
      rw [if_pos (hst acc), e1]
      simp only [k1, Res.noexc_ok, Res.bind_ok]
      cases hp : p y with
      | true =>
        simp only [if_true, k2 hp, Res.noexc_ok, Res.bind_ok, get_new]
        rw [if_pos (by rw [sizeLine_eq]; omega), set_last, ih (acc ++ [f y]) (fun z hz => hm z (List.mem_cons_of_mem _ hz)) (by simp; omega)]
        simp [hp]
      | false =>
        simp only [Bool.false_eq_true, if_false]
        rw [ih acc (fun z hz => hm z (List.mem_cons_of_mem _ hz)) (by omega)]
        simp [hp]
  simpa using key xs [] (fun y hy => hy) (by simpa using hl)
theorem lc_map {stay : AH → Bool} {g : TGt} {e : XE} {σ : SW} {xs : List W} {h : AH} (f : W → W) (hl : xs.length ≤ 100000) (hst : ∀ acc, stay (h ++ [.lst acc]) = true)
    (step : ∀ x ∈ xs, ∃ σ1, g.run x σ = some σ1 ∧ ∀ acc, e σ1 (h ++ [.lst acc]) = .ok (f x) (h ++ [.lst acc])) :
    loopC stay g yYes e h.length σ xs (h ++ [.lst []]) = .ok (.ref h.length) (h ++ [.lst (xs.map f)]) := by
  have := lc_filter (stay := stay) (g := g) (t := yYes) (e := e) (σ := σ) (xs := xs) (h := h) (fun _ => true) f hl hst fun x hx => by
    obtain ⟨σ1, e1, k⟩ := step x hx
    exact ⟨σ1, e1, fun acc => ⟨rfl, fun _ => k acc⟩⟩
  rwa [show xs.filter (fun _ => true) = xs from List.filter_eq_self.mpr fun _ _ => rfl] at this
end Z
set_option Elab.async false
set_option linter.all false
set_option maxRecDepth 100000
set_option maxHeartbeats 4000000
namespace L2
open PySem PySem.Spec PyProof.Rows
section
variable {X : Cx} {e : Expr} {te : TE} {st : Expr} {ts : TE} {pos p2 : Pos}
end
end L2
namespace Z
open PySem PySem.Spec PyProof.Rows L2
section
variable {X : Cx} {G : GT} {a b c : Expr} {fa fb fc : XE} {pos p2 : Pos}
/-! ### is, of bools -/
/-! ### xs[::-1] -/
/-! ### xs.index(y), flat -/
/-! ### name += int -/
end
end Z
set_option Elab.async false
set_option linter.all false
set_option maxRecDepth 100000
set_option maxHeartbeats 4000000
/-! equations of fields, methods, makers, xs[::-1], while -/
namespace Z
open PySem L2
end Z
set_option Elab.async false
set_option linter.all false
set_option maxRecDepth 100000
set_option maxHeartbeats 4000000
namespace L2
open PySem PySem.Spec PyProof.Rows
section
variable {X : Cx} {C : Addr} {x : Str} {p pos : Pos}
end
end L2
namespace Z
open PySem PySem.Spec PyProof.Rows L2
section
variable {X : Cx} {G : GT} {a b c : Expr} {fa fb fc : XE} {pos p2 : Pos}
/-! ### (a, b) < (c, d), ints -/
/-! ### C() -/
/-! ### isinstance(x, C), C an own class -/
end
/-! equations -/
end Z
set_option Elab.async false
set_option linter.all false
set_option maxRecDepth 100000
set_option maxHeartbeats 4000000
namespace Z
open PySem PySem.Spec PyProof.Rows L2 PySem.W
end Z
set_option Elab.async false
set_option linter.all false
set_option maxRecDepth 100000
set_option maxHeartbeats 4000000
namespace Z
open PySem PySem.W PyProof.Rows
/-! ### the sort of fewer than 64 things, by a total order -/
structure Ord (lt : Nat → Nat → Bool) : Prop where
  asymm : ∀ i j, lt i j = true → lt j i = false
  trans : ∀ i j k, lt j i = false → lt k j = false → lt k i = false
def SrtT (lt : Nat → Nat → Bool) (n : Nat) {α : Type} : KasT α → (α → Prop) → Prop
  | .ret a, Q => Q a
  | .ask i j k, Q => i < n ∧ j < n ∧ SrtT lt n (k (lt i j)) Q
def gD (p : Array Nat) (i : Nat) : Nat := p.getD i 0
theorem gD_eq (p : Array Nat) (i : Nat) : gD p i = (p[i]?).getD 0 := by unfold gD; rw [Array.getD_eq_getD_getElem?]
def SUp (lt : Nat → Nat → Bool) (p : Array Nat) (m : Nat) : Prop := ∀ i, i + 1 < m → lt (gD p (i + 1)) (gD p i) = false
def SDn (lt : Nat → Nat → Bool) (p : Array Nat) (m : Nat) : Prop := ∀ i, i + 1 < m → lt (gD p i) (gD p (i + 1)) = false
def SEq (lt : Nat → Nat → Bool) (a b : Nat) : Prop := lt a b = false ∧ lt b a = false
def SIn (n : Nat) (p : Array Nat) : Prop := p.Perm (Array.range n)
section
variable {lt : Nat → Nat → Bool} {n : Nat} {α β : Type} {p : Array Nat}
theorem SrtT.bind {f : α → KasT β} {Q : β → Prop} : ∀ {t : KasT α}, SrtT lt n t (fun a => SrtT lt n (f a) Q) → SrtT lt n (t.bind f) Q
  | .ret a, h => h
  | .ask i j k, h => ⟨h.1, h.2.1, SrtT.bind h.2.2⟩
theorem SrtT.mono {Q Q' : α → Prop} (hq : ∀ a, Q a → Q' a) : ∀ {t : KasT α}, SrtT lt n t Q → SrtT lt n t Q'
  | .ret a, h => hq a h
  | .ask i j k, h => ⟨h.1, h.2.1, SrtT.mono hq h.2.2⟩
theorem SrtT.wp {cmp : Nat → Nat → (Bool → Shared → Prop) → Shared → Prop} {s : Shared} (hc : ∀ i j C, i < n → j < n → C (lt i j) s → cmp i j C s) {G : α → Shared → Prop} {Q : α → Prop} (hq : ∀ a, Q a → G a s) : ∀ {t : KasT α}, SrtT lt n t Q → KasT.kasWp cmp t G s
  | .ret a, h => hq a h
  | .ask i j k, h => hc i j _ h.1 h.2.1 (SrtT.wp hc hq h.2.2)
theorem SIn.size (h : SIn n p) : p.size = n := by have := h.size_eq; simpa using this
theorem SIn.lo (h : SIn n p) {i : Nat} (hi : i < n) : gD p i < n := by
  have hs := h.size
  rw [gD_eq, Array.getElem?_eq_getElem (by omega)]
  have : p[i]'(by omega) ∈ p := Array.getElem_mem _
  have := (h.mem_iff).mp this
  simpa using this
theorem SIn.of {q : Array Nat} (h : SIn n p) (hq : q.Perm p) : SIn n q := hq.trans h
theorem up_le (o : Ord lt) {m : Nat} (h : SUp lt p m) {i : Nat} : ∀ {j : Nat}, i ≤ j → j < m → lt (gD p j) (gD p i) = false := by
  intro j hij hj
  induction j with
  | zero =>
    have : i = 0 := by omega
    subst this
    cases e : lt (gD p 0) (gD p 0) with
    | false => rfl
    | true => rw [o.asymm _ _ e] at e; cases e
  | succ j ih =>
    by_cases hi : i = j + 1
    · subst hi
      cases e : lt (gD p (j + 1)) (gD p (j + 1)) with
      | false => rfl
      | true => rw [o.asymm _ _ e] at e; cases e
    · exact o.trans _ _ _ (ih (by omega) (by omega)) (h j (by omega))
theorem lt_le (o : Ord lt) {a b c : Nat} (h : lt a b = true) (h2 : lt c b = false) : lt a c = true := by
  cases e : lt a c with
  | true => rfl
  | false => rw [o.trans _ _ _ h2 e] at h; cases h
/-- rises -/
theorem asc_ok (I : SIn n p) : ∀ (f x : Nat), 1 ≤ x → x + f ≤ n → SUp lt p x → SrtT lt n (kas_asc p f x) (fun m => x ≤ m ∧ m ≤ x + f ∧ SUp lt p m ∧ (m = x + f ∨ lt (gD p m) (gD p (m - 1)) = true))
  | 0, x, h1, h2, h3 => ⟨Nat.le_refl _, Nat.le_refl _, h3, .inl rfl⟩
  | f + 1, x, h1, h2, h3 => by
    rw [kas_asc.eq_2]
    refine ⟨I.lo (by omega), I.lo (by omega), ?_⟩
    cases e : lt (p.getD x 0) (p.getD (x - 1) 0) with
    | true => exact ⟨Nat.le_refl _, by omega, h3, .inr e⟩
    | false =>
      refine (asc_ok I f (x + 1) (by omega) (by omega) fun i hi => ?_).mono fun m hm => ⟨by omega, by omega, hm.2.2.1, ?_⟩
      · by_cases hx : i + 1 = x
        · have : x - 1 = i := by omega
          rw [this, ← hx] at e
          exact e
        · exact h3 i (by omega)
      · rcases hm.2.2.2 with h | h
        · left; omega
        · exact .inr h
/-- a part turned -/
theorem rev_get {i j : Nat} (hj : j ≤ p.size) (k : Nat) : gD (kas_rev p i j) k = if i ≤ k ∧ k < j then gD p (i + j - 1 - k) else gD p k := by
  rw [gD_eq, gD_eq, gD_eq]
  unfold kas_rev
  rw [getElem?_mirror_all hj]
  split <;> rfl
theorem rev_perm (i j : Nat) : (kas_rev p i j).Perm p := mirror_perm _ _ _ _
theorem SEq.symm {a b : Nat} (h : SEq lt a b) : SEq lt b a := ⟨h.2, h.1⟩
theorem SEq.trans (o : Ord lt) {a b c : Nat} (h : SEq lt a b) (k : SEq lt b c) : SEq lt a c := ⟨o.trans _ _ _ k.1 h.1, o.trans _ _ _ h.2 k.2⟩
theorem SEq.refl (o : Ord lt) (a : Nat) : SEq lt a a := by
  have : lt a a = false := by
    cases e : lt a a with
    | false => rfl
    | true => rw [o.asymm _ _ e] at e; cases e
  exact ⟨this, this⟩
theorem dn_eqv (o : Ord lt) {q : Array Nat} {m : Nat} (h : SDn lt p m) (e : ∀ k, k < m → SEq lt (gD q k) (gD p k)) : SDn lt q m := fun i hi => by
  have a := e i (by omega)
  have b := e (i + 1) (by omega)
  exact o.trans _ _ _ b.2 (o.trans _ _ _ (h i hi) a.1)
theorem rev_eqv (o : Ord lt) {i j : Nat} (hj : j ≤ p.size) (e : ∀ k, i ≤ k → k < j → SEq lt (gD p k) (gD p (j - 1))) (k : Nat) : SEq lt (gD (kas_rev p i j) k) (gD p k) := by
  rw [rev_get hj]
  split
  · rename_i h
    exact (e _ (by omega) (by omega)).trans o (e k h.1 h.2).symm
  · exact SEq.refl o _
def DescQ (lt : Nat → Nat → Bool) (p : Array Nat) (x f : Nat) (r : Array Nat × Nat × Nat) : Prop :=
  r.1.Perm p ∧ x ≤ r.2.1 ∧ r.2.1 ≤ x + f ∧ SDn lt r.1 r.2.1 ∧ r.2.2 + 1 ≤ r.2.1 ∧ ∀ i, r.2.1 - (r.2.2 + 1) ≤ i → i < r.2.1 → SEq lt (gD r.1 i) (gD r.1 (r.2.1 - 1))
theorem desc_ok (o : Ord lt) : ∀ (f : Nat) (p : Array Nat) (x q : Nat), SIn n p → 1 ≤ x → x + f ≤ n → SDn lt p x → q + 1 ≤ x → (∀ i, x - (q + 1) ≤ i → i < x → SEq lt (gD p i) (gD p (x - 1))) → SrtT lt n (kas_desc f p x q) (DescQ lt p x f)
  | 0, p, x, q, I, h1, h2, h3, h4, h5 => ⟨.rfl, Nat.le_refl _, Nat.le_refl _, h3, h4, h5⟩
  | f + 1, p, x, q, I, h1, h2, h3, h4, h5 => by
    have hs := I.size
    rw [kas_desc.eq_2]
    refine ⟨I.lo (by omega), I.lo (by omega), ?_⟩
    cases e : lt (p.getD x 0) (p.getD (x - 1) 0) with
    | true =>
      have e' : lt (gD p x) (gD p (x - 1)) = true := e
      have dn : SDn lt p (x + 1) := fun i hi => by
        by_cases hx : i + 1 = x
        · have : x - 1 = i := by omega
          rw [this] at e'
          rw [hx]
          exact o.asymm _ _ e'
        · exact h3 i (by omega)
      have one : ∀ (p' : Array Nat) i, x + 1 - (0 + 1) ≤ i → i < x + 1 → SEq lt (gD p' i) (gD p' (x + 1 - 1)) := fun p' i h6 h7 => by
        have : i = x + 1 - 1 := by omega
        rw [this]; exact SEq.refl o _
      dsimp only
      rw [if_pos rfl]
      by_cases hq : q > 0
      · rw [if_pos hq]
        have ev := rev_eqv o (p := p) (i := x - (q + 1)) (j := x) (by omega) h5
        refine (desc_ok o f _ (x + 1) 0 (I.of (rev_perm _ _)) (by omega) (by omega) (dn_eqv o dn fun k _ => ev k) (by omega) (one _)).mono fun r hr => ⟨hr.1.trans (rev_perm _ _), by have := hr.2.1; omega, by have := hr.2.2.1; omega, hr.2.2.2⟩
      · rw [if_neg hq]
        exact (desc_ok o f _ (x + 1) 0 I (by omega) (by omega) dn (by omega) (one _)).mono fun r hr => ⟨hr.1, by have := hr.2.1; omega, by have := hr.2.2.1; omega, hr.2.2.2⟩
    | false =>
      have e' : lt (gD p x) (gD p (x - 1)) = false := e
      dsimp only
      rw [if_neg (by simp)]
      refine ⟨I.lo (by omega), I.lo (by omega), ?_⟩
      cases d : lt (p.getD (x - 1) 0) (p.getD x 0) with
      | true => dsimp only; rw [if_pos rfl]; exact ⟨.rfl, Nat.le_refl _, (by show x ≤ x + (f + 1); omega), h3, h4, h5⟩
      | false =>
        have d' : lt (gD p (x - 1)) (gD p x) = false := d
        dsimp only
        rw [if_neg (by simp)]
        refine (desc_ok o f p (x + 1) (q + 1) I (by omega) (by omega) (fun i hi => ?_) (by omega) fun i h6 h7 => ?_).mono fun r hr => ⟨hr.1, by have := hr.2.1; omega, by have := hr.2.2.1; omega, hr.2.2.2⟩
        · by_cases hx : i + 1 = x
          · have : x - 1 = i := by omega
            rw [this] at d'
            rw [hx]; exact d'
          · exact h3 i (by omega)
        · rw [Nat.add_sub_cancel]
          by_cases hx : i = x
          · rw [hx]; exact SEq.refl o _
          · exact (h5 i (by omega) (by omega)).trans o ⟨d', e'⟩
def CntQ (lt : Nat → Nat → Bool) (p : Array Nat) (N : Nat) (r : Nat × Array Nat) : Prop := r.2.Perm p ∧ 1 ≤ r.1 ∧ r.1 ≤ N ∧ SUp lt r.2 r.1
theorem tail3_ok (I : SIn n p) {x N : Nat} (h1 : 1 ≤ x) (h2 : x ≤ N) (h3 : N ≤ n) (dn : SDn lt p x) : SrtT lt n (kas_tail3 x N p) (CntQ lt p N) := by
  have hs := I.size
  unfold kas_tail3
  have I2 := I.of (rev_perm (p := p) 0 x)
  refine .bind ((asc_ok I2 (N - x) x h1 (by omega) fun i hi => ?_).mono fun m hm => ⟨rev_perm _ _, by have := hm.1; show 1 ≤ m; omega, by have := hm.2.1; show m ≤ N; omega, hm.2.2.1⟩)
  rw [rev_get (by omega), rev_get (by omega), if_pos (by omega), if_pos (by omega)]
  have := dn (0 + x - 1 - (i + 1)) (by omega)
  rwa [show 0 + x - 1 - (i + 1) + 1 = 0 + x - 1 - i by omega] at this
theorem descPart_ok (o : Ord lt) (I : SIn n p) {x N : Nat} (h1 : 1 ≤ x) (h2 : x + 1 ≤ N) (h3 : N ≤ n) (dn : SDn lt p (x + 1)) : SrtT lt n (kas_descPart x N p) (CntQ lt p N) := by
  unfold kas_descPart
  refine .bind ((desc_ok o (N - (x + 1)) p (x + 1) 0 I (by omega) (by omega) dn (by omega) fun i h6 h7 => ?_).mono fun r hr => ?_)
  · have : i = x + 1 - 1 := by omega
    rw [this]; exact SEq.refl o _
  · obtain ⟨r1, r2, r3⟩ := r
    obtain ⟨q1, q2, q3, q4, q5, q6⟩ := hr
    simp only at q1 q2 q3 q4 q5 q6
    have I2 := I.of q1
    have hs := I2.size
    show SrtT lt n (if r3 > 0 then _ else _) _
    split
    · have ev := rev_eqv o (p := r1) (i := r2 - (r3 + 1)) (j := r2) (by omega) q6
      exact (tail3_ok (I2.of (rev_perm _ _)) (by omega) (by omega) h3 (dn_eqv o q4 fun k _ => ev k)).mono fun r hr => ⟨hr.1.trans ((rev_perm _ _).trans q1), hr.2⟩
    · exact (tail3_ok I2 (by omega) (by omega) h3 q4).mono fun r hr => ⟨hr.1.trans q1, hr.2⟩
theorem count_ok (o : Ord lt) (I : SIn n p) (hn : 1 ≤ n) : SrtT lt n (kas_count n p) (CntQ lt p n) := by
  have hs := I.size
  unfold kas_count
  refine .bind ((asc_ok I (n - 1) 1 (Nat.le_refl _) (by omega) fun i hi => by omega).mono fun x hx => ?_)
  obtain ⟨x1, x2, x3, x4⟩ := hx
  split
  · rename_i h
    have : x = n := by simpa using h
    exact ⟨.rfl, x1, by omega, x3⟩
  · rename_i h
    have hne : x ≠ n := by simpa using h
    have hlt : lt (gD p x) (gD p (x - 1)) = true := by
      rcases x4 with z | z
      · omega
      · exact z
    split
    · rename_i h1
      refine ⟨I.lo (by omega), I.lo (by omega), ?_⟩
      cases e : lt (p.getD 0 0) (p.getD (x - 1) 0) with
      | true => exact ⟨.rfl, x1, by show x ≤ n; omega, x3⟩
      | false =>
        have e' : lt (gD p 0) (gD p (x - 1)) = false := e
        have all : ∀ k, 0 ≤ k → k < x → SEq lt (gD p k) (gD p (x - 1)) := fun k _ hk => by
          have a := up_le o x3 (i := 0) (j := k) (by omega) hk
          have b := up_le o x3 (i := k) (j := x - 1) (by omega) (by omega)
          exact ⟨o.trans _ _ _ e' a, b⟩
        have ev := rev_eqv o (p := p) (i := 0) (j := x) (by omega) all
        refine (descPart_ok o (I.of (rev_perm _ _)) (by omega) (by omega) (Nat.le_refl _) fun i hi => ?_).mono fun r hr => ⟨hr.1.trans (rev_perm _ _), hr.2⟩
        have c1 := ev i
        have c2 := ev (i + 1)
        by_cases hx : i + 1 = x
        · have hi : x - 1 = i := by omega
          rw [hi] at hlt
          rw [hx] at c2 ⊢
          exact o.trans _ _ _ c2.2 (o.trans _ _ _ (o.asymm _ _ hlt) c1.1)
        · have d := (all i (by omega) (by omega)).trans o (all (i + 1) (by omega) (by omega)).symm
          exact ((c1.trans o d).trans o c2.symm).1
    · refine descPart_ok o I (by omega) (by omega) (Nat.le_refl _) fun i hi => ?_
      have : x = 1 := by omega
      subst this
      have : i = 0 := by omega
      subst this
      exact o.asymm _ _ hlt
theorem place_ok (o : Ord lt) (I : SIn n p) {k : Nat} (hk : k < n) (up : SUp lt p k) : ∀ (f l r : Nat), l ≤ r → r ≤ k → r - l ≤ f → (∀ i < l, lt (gD p k) (gD p i) = false) → (∀ i, r ≤ i → i < k → lt (gD p k) (gD p i) = true) →
    SrtT lt n (kas_place p k f l r) (fun l' => l' ≤ k ∧ (∀ i < l', lt (gD p k) (gD p i) = false) ∧ ∀ i, l' ≤ i → i < k → lt (gD p k) (gD p i) = true)
  | 0, l, r, h1, h2, h3, h4, h5 => by
    rw [kas_place.eq_def]
    exact ⟨by omega, h4, fun i a b => h5 i (by omega) b⟩
  | f + 1, l, r, h1, h2, h3, h4, h5 => by
    rw [kas_place.eq_def]
    simp only
    split
    · exact ⟨by omega, h4, fun i a b => h5 i (by omega) b⟩
    · rename_i hlr
      refine ⟨I.lo hk, I.lo (by omega), ?_⟩
      cases e : lt (p.getD k 0) (p.getD ((l + r) / 2) 0) with
      | true =>
        have e' : lt (gD p k) (gD p ((l + r) / 2)) = true := e
        dsimp only
        rw [if_pos rfl]
        refine place_ok o I hk up f l ((l + r) / 2) (by omega) (by omega) (by omega) h4 fun i a b => ?_
        exact lt_le o e' (up_le o up a b)
      | false =>
        have e' : lt (gD p k) (gD p ((l + r) / 2)) = false := e
        dsimp only
        rw [if_neg (by simp)]
        refine place_ok o I hk up f ((l + r) / 2 + 1) r (by omega) (by omega) (by omega) (fun i a => ?_) h5
        exact o.trans _ _ _ (up_le o up (i := i) (j := (l + r) / 2) (by omega) (by omega)) e'
theorem bin_ok (o : Ord lt) : ∀ (f : Nat) (p : Array Nat) (k : Nat), SIn n p → 1 ≤ k → k + f = n → SUp lt p k → SrtT lt n (kas_bin f p k) (fun p' => p'.Perm p ∧ SUp lt p' n)
  | 0, p, k, I, h1, h2, h3 => by
    have : k = n := by omega
    subst this
    exact ⟨.rfl, h3⟩
  | f + 1, p, k, I, h1, h2, h3 => by
    have hs := I.size
    rw [kas_bin.eq_2]
    refine .bind ((place_ok o I (by omega) h3 k 0 k (Nat.zero_le _) (Nat.le_refl _) (by omega) (fun i hi => by omega) (fun i a b => by omega)).mono fun l hl => ?_)
    obtain ⟨l1, l2, l3⟩ := hl
    have I2 := I.of (bubble_perm p k (k - l))
    refine (bin_ok o f _ (k + 1) I2 (by omega) (by omega) fun i hi => ?_).mono fun p' hp => ⟨hp.1.trans (bubble_perm _ _ _), hp.2⟩
    have bg : ∀ j, gD (bubble p k (k - l)) j = if j = l then gD p k else if l < j ∧ j ≤ k then gD p (j - 1) else gD p j := fun j => by
      rw [gD_eq, getElem?_bubble (by omega) _ (by omega), show k - (k - l) = l by omega]
      split
      · rw [gD_eq]
      · split <;> rw [gD_eq]
    rw [bg, bg]
    by_cases a1 : i + 1 < l
    · rw [if_neg (by omega), if_neg (by omega), if_neg (by omega), if_neg (by omega)]
      exact h3 i (by omega)
    · by_cases a2 : i + 1 = l
      · rw [if_pos a2, if_neg (by omega), if_neg (by omega)]
        exact l2 i (by omega)
      · by_cases a3 : i = l
        · rw [if_neg (by omega), if_pos (by omega), if_pos a3, Nat.add_sub_cancel]
          rw [a3]
          exact o.asymm _ _ (l3 l (Nat.le_refl _) (by omega))
        · rw [if_neg (by omega), if_pos (by omega), if_neg a3, if_pos (by omega), Nat.add_sub_cancel]
          have := h3 (i - 1) (by omega)
          rwa [show i - 1 + 1 = i by omega] at this
theorem sort_ok (o : Ord lt) (hn : 1 ≤ n) : SrtT lt n (kas_sort n) (fun p => p.Perm (Array.range n) ∧ SUp lt p n) := by
  have I : SIn n (List.range n).toArray := by
    show (List.range n).toArray.Perm (Array.range n)
    rw [← Array.toList_range]
  unfold kas_sort
  refine .bind ((count_ok o I hn).mono fun r hr => ?_)
  obtain ⟨m, p⟩ := r
  obtain ⟨q1, q2, q3, q4⟩ := hr
  simp only at q1 q2 q3 q4
  have I2 := I.of q1
  show SrtT lt n (if m < n then _ else _) _
  split
  · rename_i h
    show SrtT lt n (kas_bin (n - max m 1) p (max m 1)) _
    rw [show max m 1 = m by omega]
    exact (bin_ok o (n - m) p m I2 q2 (by omega) q4).mono fun p' hp => ⟨hp.1.trans I2, hp.2⟩
  · rename_i h
    have : m = n := by omega
    subst this
    exact ⟨I2, q4⟩
end
end Z
set_option Elab.async false
set_option linter.all false
set_option maxRecDepth 100000
set_option maxHeartbeats 4000000
namespace Z
open PySem PySem.Spec PySem.W PyProof.Rows
section
variable {prog : Program} {w : World} {A : Around} {E : Value → Shared → Prop} {s : Shared} {Q : Bool → Shared → Prop}
theorem one_lt (b : Bool) (x y : Int) (t u : Tok) (q : Q (decide (x < y)) s) : wpAny (model prog w) A (oneLt' b (.int x t) (.int y u)) Q E s := by
  cases b with
  | true => exact (show wpAny (model prog w) A (keyLt' oneType' (.int x t) (.int y u)) Q E s from kat_lt_int q)
  | false => exact kat_one _ _ (PySem.wpAny_lt_int q)
theorem lex_ok {b fin : Bool} : ∀ {xs ys : List Value} {ns ms : List Int} (i : Nat), IntsAre xs ns → IntsAre ys ms → fin = decide (xs.length < ys.length) → Q (HT.lexLt ns ms) s → KatLex prog w A b fin Q (xs.zip ys) i s := by
  intro xs
  induction xs with
  | nil =>
    intro ys ns ms i h1 h2 e q
    cases h1
    subst e
    cases h2 with
    | nil => exact kat_nil q
    | cons => exact kat_nil (by simpa [HT.lexLt] using q)
  | cons x xs ih =>
    intro ys ns ms i h1 h2 e q
    cases h2 with
    | nil =>
      cases h1
      subst e
      exact kat_nil (by simpa [HT.lexLt] using q)
    | cons =>
      rename_i m u ys ms h2
      cases h1 with
      | cons =>
        rename_i n t ns h1
        rw [HT.lexLt_cons] at q
        refine kat_cons (wpAny_eqBool_int ?_)
        by_cases hnm : n = m
        · rw [if_pos hnm] at q
          rw [show (n == m) = true by simp [hnm]]
          exact kat_yes (ih (i + 1) h1 h2 (by rw [e]; simp) q)
        · rw [if_neg hnm] at q
          rw [show (n == m) = false by simp [hnm]]
          exact kat_no (one_lt _ _ _ _ _ q)
/-- a tuple of ints, not empty -/
def TupI (h : Heap) (v : Value) (ns : List Int) : Prop := ∃ b its, v = .ref b ∧ IsTup h b its ∧ IntsAre its.toList ns ∧ ns ≠ []
theorem TupI.keep {h h' : Heap} {v : Value} {ns : List Int} (t : TupI h v ns) {a : Addr} (hv : v ≠ .ref a) (k : ∀ b o, b ≠ a → h.get? b = some o → h'.get? b = some o) : TupI h' v ns := by
  obtain ⟨b, its, rfl, ⟨o, e1, e2, n, e3⟩, i, z⟩ := t
  exact ⟨b, its, rfl, ⟨o, k b o (fun e => hv (by rw [e])) e1, e2, n, e3⟩, i, z⟩
theorem tup_lt {x y : Value} {ns ms : List Int} (h1 : TupI s.heap x ns) (h2 : TupI s.heap y ms) (q : Q (HT.lexLt ns ms) s) : wpAny (model prog w) A (keyLt' (tuples' true) x y) Q E s := by
  obtain ⟨b, its, rfl, ⟨o, e1, e2, n, e3⟩, i, z⟩ := h1
  obtain ⟨b', its', rfl, ⟨o', e1', e2', n', e3'⟩, i', z'⟩ := h2
  exact kat_lt e1 e3 e1' e3' (lex_ok 0 i i' (by simp) q)
/-- lists of tuples of ints -/
inductive TupsI (h : Heap) : List Value → List (List Int) → Prop where
  | nil : TupsI h [] []
  | cons {v : Value} {ns : List Int} {vs : List Value} {ks : List (List Int)} : TupI h v ns → TupsI h vs ks → TupsI h (v :: vs) (ns :: ks)
theorem TupsI.length {h : Heap} {vs : List Value} {ks : List (List Int)} (t : TupsI h vs ks) : vs.length = ks.length := by
  induction t with
  | nil => rfl
  | cons _ _ ih => simp [ih]
theorem TupsI.at {h : Heap} {vs : List Value} {ks : List (List Int)} (t : TupsI h vs ks) : ∀ {i : Nat}, i < vs.length → TupI h (vs.getD i .none) (ks.getD i []) := by
  induction t with
  | nil => intro i hi; simp at hi
  | cons a _ ih =>
    intro i hi
    cases i with
    | zero => exact a
    | succ i => exact ih (by simpa using hi)
theorem TupsI.kat {h : Heap} {vs : List Value} {ks : List (List Int)} (t : TupsI h vs ks) : ∃ fs, KatTups h vs fs ∧ fs.length = vs.length ∧ ∀ v ∈ fs, ∃ i u, v = .int i u := by
  induction t with
  | nil => exact ⟨[], trivial, rfl, by simp⟩
  | cons a _ ih =>
    obtain ⟨fs, k, l, q⟩ := ih
    obtain ⟨b, its, rfl, ⟨o, e1, e2, n, e3⟩, i, z⟩ := a
    obtain ⟨its⟩ := its
    cases i with
    | nil => exact absurd rfl z
    | cons i =>
      rename_i m ms ys u
      exact ⟨.int _ _ :: fs, ⟨⟨b, o, _, n, rfl, e1, e2, e3, rfl⟩, k⟩, by simp [l], fun v hv => by
        rcases List.mem_cons.mp hv with rfl | hv
        · exact ⟨_, _, rfl⟩
        · exact q v hv⟩
theorem TupsI.keep {h h' : Heap} {vs : List Value} {ks : List (List Int)} (t : TupsI h vs ks) {a : Addr} (hv : ∀ v ∈ vs, v ≠ .ref a) (k : ∀ b o, b ≠ a → h.get? b = some o → h'.get? b = some o) : TupsI h' vs ks := by
  induction t with
  | nil => exact .nil
  | cons b _ ih => exact .cons (b.keep (hv _ List.mem_cons_self) k) (ih fun v hv' => hv v (List.mem_cons_of_mem _ hv'))
def ltOf (ks : List (List Int)) (i j : Nat) : Bool := HT.lexLt (ks.getD i []) (ks.getD j [])
theorem lex_asymm : ∀ {a b : List Int}, HT.lexLt a b = true → HT.lexLt b a = false := by
  intro a
  induction a with
  | nil => intro b; cases b <;> simp [HT.lexLt]
  | cons x a ih =>
    intro b
    cases b with
    | nil => simp [HT.lexLt]
    | cons y b =>
      rw [HT.lexLt_cons, HT.lexLt_cons]
      by_cases h : x = y
      · rw [if_pos h, if_pos h.symm]; exact ih
      · rw [if_neg h, if_neg (Ne.symm h)]
        intro k
        have : x < y := by simpa using k
        simp; omega
theorem lex_trans : ∀ {a b c : List Int}, HT.lexLt b a = false → HT.lexLt c b = false → HT.lexLt c a = false := by
  intro a
  induction a with
  | nil => intro b c; cases c <;> simp [HT.lexLt]
  | cons x a ih =>
    intro b c
    cases b with
    | nil => simp [HT.lexLt]
    | cons y b =>
      cases c with
      | nil => simp [HT.lexLt]
      | cons z c =>
        rw [HT.lexLt_cons, HT.lexLt_cons, HT.lexLt_cons]
        intro h1 h2
        by_cases h : y = x
        · by_cases h' : z = y
          · rw [if_pos h] at h1; rw [if_pos h'] at h2; rw [if_pos (by omega)]; exact ih h1 h2
          · rw [if_neg h'] at h2; rw [if_neg (by omega)]
            have : ¬ z < y := by simpa using h2
            simp; omega
        · rw [if_neg h] at h1
          have a1 : ¬ y < x := by simpa using h1
          by_cases h' : z = y
          · rw [if_neg (by omega)]; simp; omega
          · rw [if_neg h'] at h2
            have a2 : ¬ z < y := by simpa using h2
            rw [if_neg (by omega)]; simp; omega
theorem lex_anti : ∀ {a b : List Int}, HT.lexLt a b = false → HT.lexLt b a = false → a = b := by
  intro a
  induction a with
  | nil => intro b; cases b <;> simp [HT.lexLt]
  | cons x a ih =>
    intro b
    cases b with
    | nil => simp [HT.lexLt]
    | cons y b =>
      rw [HT.lexLt_cons, HT.lexLt_cons]
      intro h1 h2
      by_cases h : x = y
      · rw [if_pos h] at h1; rw [if_pos h.symm] at h2; rw [h, ih h1 h2]
      · rw [if_neg h] at h1; rw [if_neg (Ne.symm h)] at h2
        have a1 : ¬ x < y := by simpa using h1
        have a2 : ¬ y < x := by simpa using h2
        omega
theorem ltOf_ord (ks : List (List Int)) : Ord (ltOf ks) := ⟨fun _ _ => lex_asymm, fun _ _ _ => lex_trans⟩
def outOf (vs : List Value) (p : Array Nat) : Array Value := p.map fun i => vs.getD i .none
theorem sort_tups {a : Addr} {n : Nat} {vs : List Value} {ks : List (List Int)} {P : PySem.Fin → Shared → Prop} (ha : s.heap.get? a = some (seqObj "list" vs.toArray n)) (t : TupsI s.heap vs ks) (hv : ∀ v ∈ vs, v ≠ .ref a) (hl : vs.length < 64)
    (hq : ∀ p : Array Nat, p.Perm (Array.range vs.length) → SUp (ltOf ks) p vs.length → P (.done (.ret .none)) { s with heap := sortedHeap s.heap a vs (outOf vs p) }) :
    wpAny (model prog w) A (Builtin.«list.sort» { pos := [.ref a] }) P E s := by
  rw [list_sort_plain]
  refine wpAny_bind (listItems_at ha rfl ?_)
  refine wpAny_bind (listUpdate_at ha rfl ?_ (by simp [sizeLine_eq]; omega) (by simp [sizeLine_eq]))
  obtain ⟨h1, hE1⟩ : ∃ h1, s.heap.update a (Obj.mapSeq fun x => #[]) = h1 := ⟨_, rfl⟩
  obtain ⟨e1, g1⟩ : ∃ e1, h1.get? a = some (seqObj "list" #[] e1) := ⟨_, by rw [← hE1]; exact get?_update_seq ha _⟩
  have k1 : ∀ b o, b ≠ a → s.heap.get? b = some o → h1.get? b = some o := fun b o hb e => by rw [← hE1, Heap.get?_update_ne _ _ _ _ hb]; exact e
  rw [hE1]
  refine wpAny_bind (seqEpoch_at g1 rfl ?_)
  refine wpAny_bind (wpAny_newTuple ?_ (by simp [sizeLine_eq]; omega))
  refine wpAny_bind (wpAny_newList ?_ (by simp [sizeLine_eq]))
  obtain ⟨h3, hE3⟩ : ∃ h3, (h1.push { cls := .type "tuple", data := .seq vs.toArray.toList.toArray }).push { cls := .type "list", data := .seq ([] : List Value).toArray } = h3 := ⟨_, rfl⟩
  have k3 : ∀ b o, h1.get? b = some o → h3.get? b = some o := fun b o e => by rw [← hE3]; exact Heap.get?_push_of_some _ (Heap.get?_push_of_some _ e)
  have g3 := k3 _ _ g1
  have t3 : TupsI h3 vs ks := t.keep hv fun b o hb e => k3 b o (k1 b o hb e)
  refine wpAny_holding ?_
  show wpAny (model prog w) A _ P E { s with heap := (h1.push { cls := .type "tuple", data := .seq vs.toArray.toList.toArray }).push { cls := .type "list", data := .seq ([] : List Value).toArray } }
  rw [hE3]
  have fin : ∀ (p : Array Nat), p.Perm (Array.range vs.length) → SUp (ltOf ks) p vs.length → P (.done (.ret .none)) { s with heap := h3.update a (Obj.mapSeq fun x => outOf vs p) } := fun p q1 q2 => by
    have := hq p q1 q2
    unfold sortedHeap at this
    rw [hE1] at this
    rw [← hE3]
    simpa using this
  have os : ∀ p : Array Nat, p.size = vs.length → (outOf vs p).size ≤ sizeLine + 1 := fun p hp => by unfold outOf; rw [Array.size_map, hp, sizeLine_eq]; omega
  by_cases h2 : vs.length < 2
  · have hz : vs.toArray.size < 2 := by simpa using h2
    rw [if_pos hz, if_pos hz]
    simp only [pure_bind]
    have ou : (Array.map (fun x : Value × Value => x.2) (vs.toArray.zip vs.toArray)) = outOf vs (Array.range vs.length) := by
      apply Array.ext
      · simp [outOf]
      · intro i h4 h5
        have : i < vs.length := by simpa [outOf] using h5
        simp [outOf, this]
    refine wpAny_bind (wpAny_pure ?_)
    show wpAny (model prog w) A (seqEpoch a >>= _) P E _
    refine wpAny_bind (seqEpoch_at g3 rfl ?_)
    have ou' : (Array.map (fun x : Keyed => x.snd) (arrOf (SortSt.mk' general' (vs.toArray.zip vs.toArray) #[] 7 none))) = outOf vs (Array.range vs.length) := ou
    rw [ou']
    refine wpAny_bind (listUpdate_at g3 rfl ?_ (by simp [sizeLine_eq]) (os _ (by simp)))
    simp only [bne_self_eq_false, Bool.false_eq_true, if_false]
    exact wpAny_pure (fin _ .rfl fun i hi => by omega)
  · have hz : ¬ vs.toArray.size < 2 := by simpa using h2
    rw [if_neg hz, if_neg hz]
    obtain ⟨fs, f1, f2, f3⟩ := t3.kat
    refine wpAny_bind (kat_kind (T := .type "int") f1 (by omega) (fun v hv => ?_) (by decide +kernel) ?_)
    · obtain ⟨i, u, rfl⟩ := f3 v hv
      exact fun A Q E s _ q => wpAny_pure q
    have b1 : ((Value.type "int") != (Value.type "tuple")) = true := by decide +kernel
    rw [b1]
    refine wpAny_bind (wpAny_mono (kat_run (vs := vs) (ks := vs) (E := fun _ _ => False) (Q := fun st' s' => s' = { s with heap := h3 } ∧ failedOf st' = none ∧ ∃ p : Array Nat, p.size = vs.length ∧ Array.map (fun x : Keyed => x.snd) (arrOf st') = outOf vs p ∧ p.Perm (Array.range vs.length) ∧ SUp (ltOf ks) p vs.length)
      (G := fun p s' => s' = { s with heap := h3 } ∧ p.Perm (Array.range vs.length) ∧ SUp (ltOf ks) p vs.length) rfl (by omega) hl (fun p st' s' z1 z2 z3 z4 => ?_) ?_) (fun r s' hr => ?_) (fun _ _ q => q.elim))
    · obtain ⟨z5, q1, q2⟩ := z4
      refine ⟨z5, z3, p, z1, ?_, q1, q2⟩
      rw [z2, Array.map_map]
      unfold outOf
      congr 1
      funext i
      show (kas_item _ i).2 = _
      rw [kat_item rfl]
    · refine SrtT.wp (lt := ltOf ks) (n := vs.length) (fun i j C hi hj c => ?_) (fun p hp => ⟨rfl, hp.1, hp.2⟩) (sort_ok (ltOf_ord ks) (by omega))
      exact tup_lt (t3.at hi) (t3.at hj) c
    · obtain ⟨u, st⟩ := r
      obtain ⟨rfl, z3, p, z1, ou, q1, q2⟩ := hr
      dsimp only at z3 ou ⊢
      rw [ou]
      refine wpAny_bind (seqEpoch_at g3 rfl ?_)
      refine wpAny_bind (listUpdate_at g3 rfl ?_ (by simp [sizeLine_eq]) (os p z1))
      rw [z3]
      simp only [bne_self_eq_false, Bool.false_eq_true, if_false]
      exact wpAny_pure (fin p q1 q2)
end
end Z
set_option Elab.async false
set_option linter.all false
set_option maxRecDepth 100000
set_option maxHeartbeats 4000000
namespace Z
open PySem PySem.Spec PySem.W PyProof.Rows
section
variable {prog : Program} {w : World} {A : Around} {E : Value → Shared → Prop} {s : Shared}
def SortS (a : Addr) : PySem.Spec := fun A R s => ∃ (n : Nat) (vs : List Value) (ks : List (List Int)), s.heap.get? a = some (seqObj "list" vs.toArray n) ∧ TupsI s.heap vs ks ∧ (∀ v ∈ vs, v ≠ .ref a) ∧ vs.length < 64 ∧
  ∀ p : Array Nat, p.Perm (Array.range vs.length) → SUp (ltOf ks) p vs.length → R (.ok (.ret .none)) { s with heap := sortedHeap s.heap a vs (outOf vs p) }
theorem sort_meets (a : Addr) : MeetsIn prog w (Builtin.«list.sort» { pos := [.ref a] }) (SortS a) := by
  intro A R s h
  obtain ⟨n, vs, ks, h1, h2, h3, h4, h5⟩ := h
  exact sort_tups h1 h2 h3 h4 fun p q1 q2 => h5 p q1 q2
theorem TupsI.lt {h : Heap} {vs : List Value} {ks : List (List Int)} (t : TupsI h vs ks) : ∀ v ∈ vs, ∃ b, v = .ref b ∧ b < h.objs.size := by
  induction t with
  | nil => intro v hv; cases hv
  | cons a _ ih =>
    intro v hv
    rcases List.mem_cons.mp hv with rfl | hv
    · obtain ⟨b, its, rfl, ⟨o, e1, _⟩, _⟩ := a
      exact ⟨b, rfl, Heap.lt_size e1⟩
    · exact ih v hv
/-- sorted(x), x collected to tuples of ints -/
theorem sorted_of {x : Value} {Q : Value → Shared → Prop} {R : List Value → Shared → Prop} (hc : wpAny (model prog w) A.in1 (collect x) R E s)
    (hr : ∀ vs s1, R vs s1 → ∃ ks, TupsI s1.heap vs ks ∧ vs.length < 64 ∧ ∀ (h' : Heap) (p : Array Nat) (e : Nat), p.Perm (Array.range vs.length) → SUp (ltOf ks) p vs.length → (∀ b o, s1.heap.get? b = some o → h'.get? b = some o) → h'.get? s1.heap.objs.size = some (seqObj "list" (outOf vs p) e) → Q (.ref s1.heap.objs.size) { s1 with heap := h' }) :
    wpAny (model prog w) A (call (.builtin "sorted") [x]) Q E s := by
  refine call_function_tree kind_sorted plain_sorted entry_sorted (args_sorted1 _) ?_
  unfold Builtin.sorted
  have ck : checkCount "sorted" 1 1 1 = pure () := rfl
  show wpAny _ _ (checkCount "sorted" 1 1 1 >>= _) _ _ s
  rw [ck]
  refine wpAny_bind (wpAny_pure ?_)
  refine wpAny_bind (wpAny_mono hc (fun vs s1 r => ?_) fun e s q => q)
  obtain ⟨ks, t, hl, q⟩ := hr vs s1 r
  refine wpAny_bind (wpAny_newList ?_ (by rw [sizeLine_eq]; omega))
  have g : (s1.heap.push (seqObj "list" vs.toArray 0)).get? s1.heap.objs.size = some (seqObj "list" vs.toArray 0) := Heap.get?_push_size _ rfl
  have kp : ∀ b o, s1.heap.get? b = some o → (s1.heap.push (seqObj "list" vs.toArray 0)).get? b = some o := fun b o e => Heap.get?_push_of_some _ e
  refine wpAny_bind (wpAny_holding (call_meetsIn slot_list_sort ⟨_, g, rfl⟩ entry_list_sort (args_list_sort _) (sort_meets s1.heap.objs.size) ⟨0, vs, ks, g, ?_, ?_, hl, fun p q1 q2 => ?_⟩))
  · exact t.keep (a := s1.heap.objs.size) (fun v hv e => by obtain ⟨b, rfl, hb⟩ := t.lt v hv; cases e; exact Nat.lt_irrefl _ hb) fun b o _ e => kp b o e
  · exact fun v hv e => by obtain ⟨b, rfl, hb⟩ := t.lt v hv; cases e; exact Nat.lt_irrefl _ hb
  · refine wpAny_pure ?_
    obtain ⟨e, he⟩ := sortedHeap_at (out := outOf vs p) g
    refine q _ p e q1 q2 (fun b o z => ?_) he
    have hb : b < s1.heap.objs.size := Heap.lt_size z
    have hb2 : b < (s1.heap.push (seqObj "list" vs.toArray 0)).objs.size := by rw [Heap.size_push]; exact Nat.lt_succ_of_lt hb
    rw [sortedHeap_old (Nat.ne_of_lt hb) hb2]
    exact kp b o z
end
end Z
set_option Elab.async false
set_option linter.all false
set_option maxRecDepth 100000
set_option maxHeartbeats 4000000
namespace Z
open PySem PySem.Spec PySem.W PyProof.Rows L2
/-! ### the one list in order -/
def leI (a b : List Int) : Bool := !HT.lexLt b a
def srtI (ks : List (List Int)) : List (List Int) := ks.mergeSort leI
theorem srtI_eq {ks l : List (List Int)} (hp : l.Perm ks) (hs : l.Pairwise fun a b => HT.lexLt b a = false) : l = srtI ks := by
  have h1 : (srtI ks).Pairwise fun a b => HT.lexLt b a = false := by
    have := List.pairwise_mergeSort (le := leI) (fun a b c h1 h2 => by
      unfold leI at *
      simp only [Bool.not_eq_true'] at *
      exact lex_trans h1 h2) (fun a b => by
      unfold leI
      cases e : HT.lexLt b a with
      | false => rfl
      | true => rw [lex_asymm e]; rfl) ks
    refine this.imp fun h => ?_
    unfold leI at h
    simpa using h
  exact List.Perm.eq_of_pairwise (le := fun a b => HT.lexLt b a = false) (fun a b _ _ x y => lex_anti y x) hs h1 (hp.trans (List.mergeSort_perm ks leI).symm)
theorem outs_eq {ks : List (List Int)} {p : Array Nat} (h1 : p.Perm (Array.range ks.length)) (h2 : SUp (ltOf ks) p ks.length) : p.toList.map (fun i => ks.getD i []) = srtI ks := by
  refine srtI_eq ?_ ?_
  · have h3 : p.toList.Perm (List.range ks.length) := by
      have := h1.toList
      simpa using this
    have h4 := h3.map fun i => ks.getD i []
    have h5 : (List.range ks.length).map (fun i => ks.getD i []) = ks := by
      refine List.ext_getElem? fun i => ?_
      by_cases hi : i < ks.length
      · simp [hi]
      · simp [hi]
    rwa [h5] at h4
  · have hs : p.size = ks.length := by have := h1.size_eq; simpa using this
    rw [List.pairwise_iff_getElem]
    intro i j hi hj hij
    have hj' : j < ks.length := by simpa [hs] using hj
    have := up_le (ltOf_ord ks) h2 (Nat.le_of_lt hij) hj'
    unfold ltOf gD at this
    have a1 : p.getD i 0 = p[i]'(by omega) := by simp [Array.getD, show i < p.size by omega]
    have a2 : p.getD j 0 = p[j]'(by omega) := by simp [Array.getD, show j < p.size by omega]
    rw [a1, a2] at this
    simpa using this
end Z
namespace L2
open PySem PySem.Spec PyProof.Rows Z
section
variable {X : Cx}
/-- tuples of ints -/
inductive TupV (K : PySem.W.Frag) (H : Hp) : List V → List (List Int) → Prop where
  | nil : TupV K H [] []
  | cons {a : Addr} {ns : List Int} {vs : List V} {ks : List (List Int)} : SqT K H a (ns.map V.int) → ns ≠ [] → TupV K H vs ks → TupV K H (.ref a :: vs) (ns :: ks)
theorem TupV.length {K : PySem.W.Frag} {H : Hp} {vs : List V} {ks : List (List Int)} (t : TupV K H vs ks) : vs.length = ks.length := by
  induction t with
  | nil => rfl
  | cons _ _ _ ih => simp [ih]
theorem TupV.its {pins : List (Addr × Obj)} {σ : St} {H : Hp} {s : Shared} (I : Inv X pins σ H s) {vs : List V} {ks : List (List Int)} (t : TupV X.K H vs ks) : ∀ {us : List Value}, Vals vs us → TupsI s.heap us ks := by
  induction t with
  | nil => intro us r; cases r; exact .nil
  | cons sq z _ ih =>
    intro us r
    cases r with
    | cons r1 r2 =>
      cases r1
      obtain ⟨its, q1, q2, _⟩ := I.tuple sq
      exact .cons ⟨_, its.toArray, rfl, q2, by simpa using intsAre_of q1, z⟩ (ih r2)
theorem vals_out {vs : List V} {us : List Value} (r : Vals vs us) : ∀ {p : List Nat}, (∀ i ∈ p, i < vs.length) → Vals (p.map fun i => vs.getD i .non) (p.map fun i => us.getD i .none)
  | [], _ => .nil
  | i :: p, h => by
    refine .cons ?_ (vals_out r fun j hj => h j (List.mem_cons_of_mem _ hj))
    have hi := h i List.mem_cons_self
    obtain ⟨u, e1, e2⟩ := r.get (i := i) (x := vs[i]) (by simp [hi])
    dsimp only
    rw [List.getD_eq_getElem?_getD, List.getD_eq_getElem?_getD, e1]
    simpa [hi] using e2
end
end L2
namespace Z
open PySem PySem.Spec PyProof.Rows L2
section
variable {X : Cx} {G : GT}
def tupI : W → Option (List Int)
  | .tup xs => match optAll asInt xs with
    | some (n :: ns) => some (n :: ns)
    | _ => none
  | _ => none
def tupW (k : List Int) : W := .tup (k.map .int)
theorem rel_tups {g : Gx} {ρ : List Addr} {H : Hp} : ∀ {ws : List W} {ks : List (List Int)} {vs : List V}, optAll tupI ws = some ks → RelWs g ρ H ws vs → TupV g.K H vs ks ∧ ws = ks.map tupW
  | [], ks, _, e, .nil => by cases e; exact ⟨.nil, rfl⟩
  | w :: ws, ks, _, e, .cons r t => by
    unfold optAll at e
    split at e
    · rename_i y ys e1 e2
      cases e
      obtain ⟨h1, h2⟩ := rel_tups e2 t
      unfold tupI at e1
      split at e1
      · rename_i xs
        split at e1
        · rename_i n ns hn
          cases e1
          cases r with
          | tup sq rs =>
            have e3 := rel_ints hn rs
            subst e3
            refine ⟨.cons sq (by simp) h1, ?_⟩
            rw [h2, List.map_cons]
            congr 1
            unfold tupW
            congr 1
            clear sq rs h1 h2 e2 t
            have : ∀ {xs : List W} {ns : List Int}, optAll asInt xs = some ns → xs = ns.map .int := by
              intro xs
              induction xs with
              | nil => intro ns e; cases e; rfl
              | cons x xs ih =>
                intro ns e
                unfold optAll at e
                split at e
                · rename_i y ys e1 e2
                  cases e
                  cases x <;> cases e1
                  rw [ih e2]; rfl
                · cases e
            exact this hn
        · cases e1
      · cases e1
    · cases e
theorem rels_pick {g : Gx} {ρ : List Addr} {H : Hp} {ws : List W} {vs : List V} (r : RelWs g ρ H ws vs) : ∀ {p : List Nat}, (∀ i ∈ p, i < vs.length) → RelWs g ρ H (p.map fun i => ws.getD i .non) (p.map fun i => vs.getD i .non)
  | [], _ => .nil
  | i :: p, h => by
    refine .cons ?_ (rels_pick r fun j hj => h j (List.mem_cons_of_mem _ hj))
    have : ∀ {ws : List W} {vs : List V} {i : Nat}, RelWs g ρ H ws vs → i < vs.length → RelW g ρ H (ws.getD i .non) (vs.getD i .non) := by
      intro ws
      induction ws with
      | nil => intro vs i r hi; cases r; simp at hi
      | cons w ws ih =>
        intro vs i r hi
        cases r with
        | cons r1 r2 =>
          cases i with
          | zero => exact r1
          | succ i => exact ih r2 (by simpa using hi)
    exact this r (h i List.mem_cons_self)
end
end Z
set_option Elab.async false
set_option linter.all false
set_option maxRecDepth 100000
set_option maxHeartbeats 4000000
namespace Z
open PySem PySem.Spec PySem.W PyProof.Rows
section
variable {prog : Program} {w : World} {A : Around} {E : Value → Shared → Prop} {s : Shared}
theorem gen_len : typeLookup (.type "generator") "__len__" = pure none := by rfl
theorem gen_hint : typeLookup (.type "generator") "__length_hint__" = pure none := by rfl
theorem hint_gen {a : Addr} {Q : Bool → Shared → Prop} (t : s.TypeIs (.ref a) "generator") (q : Q true s) : wpAny (model prog w) A (Builtin.List.listLengthHint (.ref a)) Q E s := by
  unfold Builtin.List.listLengthHint specialOf
  refine wpAny_bind (wpAny_bind (wpAny_typeOf t ?_))
  rw [gen_len]
  refine wpAny_pure ?_
  show wpAny (model prog w) A ((typeOf (.ref a) >>= fun t => typeLookup t "__length_hint__") >>= _) Q E s
  refine wpAny_bind (wpAny_bind (wpAny_typeOf t ?_))
  rw [gen_hint]
  exact wpAny_pure (wpAny_pure q)
abbrev LO (us : List Value) (e : Nat) : Obj := seqObj "list" us.toArray e
theorem collect_gen {a : Addr} {g : Nat} {Q : List Value → Shared → Prop} (hg : s.heap.IsGen a g) (ht : s.TypeIs (.ref a) "generator")
    (hloop : ∀ (h1 : Heap) (e : Nat), (∀ b o, s.heap.get? b = some o → h1.get? b = some o) → h1.get? s.heap.objs.size = some (LO [] e) →
      codeAny (model prog w) A (.builtin "list.extend.loop" ⟨[.ref s.heap.objs.size, .ref a, .ref s.heap.objs.size], []⟩) (fun r s' => ∃ us e', r = .ok (.ret (.ref s.heap.objs.size)) ∧ s'.heap.get? s.heap.objs.size = some (LO us e') ∧ Q us s') { s with heap := h1 }) :
    wpAny (model prog w) A (collect (.ref a)) Q E s := by
  unfold collect
  obtain ⟨S, hS⟩ : ∃ S, s.heap.objs.size = S := ⟨_, rfl⟩
  rw [hS] at hloop
  have aS : a < S := by
    rw [← hS]
    obtain ⟨o, _, _, e, _⟩ := hg
    exact Heap.lt_size e
  refine wpAny_bind (wpAny_runValue (codeAny_builtin F.entry_proto_collect ?_))
  rw [Around.under_plainId F.plain_proto_collect _]
  show wpAny _ _ (newList [] >>= _) _ _ s
  refine wpAny_bind (wpAny_newList ?_ (by simp))
  rw [hS]
  refine wpAny_pure ⟨plainId_quiet F.plain_list_iadd _, ?_⟩
  refine codeAny_builtin entry_list_iadd' ?_
  rw [Around.under_plainId F.plain_list_iadd _]
  show wpAny _ _ (pure (Value.ref S, [Value.ref a]) >>= _) _ _ _
  refine wpAny_bind (wpAny_pure ?_)
  show wpAny _ _ (Builtin.List.listExtendWith (.ref S) (.ref a) (.ref S)) _ _ _
  obtain ⟨h0, hE⟩ : ∃ h0, s.heap.push { cls := .type "list", data := .seq ([] : List Value).toArray } = h0 := ⟨_, rfl⟩
  have k0 : ∀ b o, s.heap.get? b = some o → h0.get? b = some o := fun b o e => by rw [← hE]; exact Heap.get?_push_of_some _ e
  have g0 : h0.get? S = some (LO [] 0) := by rw [← hE, ← hS]; exact Heap.get?_push_size _ rfl
  rw [hE]
  have ht0 : ({ s with heap := h0 } : Shared).TypeIs (.ref a) "generator" := by
    obtain ⟨o, e1, e2⟩ := ht
    exact ⟨o, k0 _ _ e1, e2⟩
  have hg0 : h0.IsGen a g := by
    obtain ⟨o, x, y, e, r⟩ := hg
    exact ⟨o, x, y, k0 _ _ e, r⟩
  unfold Builtin.List.listExtendWith
  refine wpAny_bind (wpAny_typeOf ht0 ?_)
  have c1 : (Builtin.List.listSameRef (.ref S) (.ref a) || (Value.type "generator") == (Value.type "list") || (Value.type "generator") == (Value.type "tuple")) = false := by
    have : Builtin.List.listSameRef (.ref S) (.ref a) = false := by
      simp [Builtin.List.listSameRef, Nat.ne_of_gt aS]
    rw [this]; decide +kernel
  rw [if_neg (by rw [c1]; simp)]
  refine wpAny_bind (wpAny_pyIter_gen hg0 ?_)
  refine wpAny_bind (wpAny_holding (hint_gen ht0 ?_))
  simp only [Bool.true_or, if_true]
  refine wpAny_bind (wpAny_rule ?_)
  unfold Builtin.List.listTouch
  refine wpAny_bind (wpAny_bind (listUpdate_at g0 rfl ?_ (by simp) (by simp)))
  obtain ⟨h2, hE2⟩ : ∃ h2, h0.update S (Obj.mapSeq fun x => x.push .none) = h2 := ⟨_, rfl⟩
  have k2 : ∀ b o, b ≠ S → h0.get? b = some o → h2.get? b = some o := fun b o hb e => by rw [← hE2, Heap.get?_update_ne _ _ _ _ hb]; exact e
  have g2 := get?_update_seq g0 fun x => x.push .none
  rw [hE2] at g2
  rw [hE2]
  refine listUpdate_at g2 rfl ?_ (by simp [sizeLine_eq]) (by simp)
  obtain ⟨h3, hE3⟩ : ∃ h3, h2.update S (Obj.mapSeq fun x => x.pop) = h3 := ⟨_, rfl⟩
  have k3 : ∀ b o, b ≠ S → h2.get? b = some o → h3.get? b = some o := fun b o hb e => by rw [← hE3, Heap.get?_update_ne _ _ _ _ hb]; exact e
  have g3 := get?_update_seq g2 fun x => x.pop
  rw [hE3] at g3
  rw [hE3]
  refine wpAny_pure ⟨plainId_quiet F.plain_extend_loop _, ?_⟩
  refine codeAny_mono (hloop h3 _ (fun b o e => ?_) (by simpa using g3)) fun r s' hr => ?_
  · have hb : b ≠ S := by rw [← hS]; exact Nat.ne_of_lt (Heap.lt_size e)
    exact k3 b o hb (k2 b o hb (k0 b o e))
  · obtain ⟨us, e', rfl, g4, q⟩ := hr
    refine wpAny_bind (wpAny_load g4 ?_)
    exact wpAny_pure (by simpa using q)
end
end Z
set_option Elab.async false
set_option linter.all false
set_option maxRecDepth 100000
set_option maxHeartbeats 4000000
namespace L2
open PySem PySem.Spec PyProof.Rows Z
/-- the code of the loop, of its start, with tests -/
abbrev gCf (elt tg iter : Expr) (ifs : List Expr) (scope : Scope) (pos : Pos) (it : Addr) (cenv : Env) : Code := .compLoop (.GeneratorExp elt [⟨tg, iter, ifs, 0⟩] scope pos) 0 (.ref it) .none cenv
abbrev gSf (elt tg iter : Expr) (ifs : List Expr) (scope : Scope) (pos : Pos) (it : Addr) (cenv : Env) : Code := .compStart (.GeneratorExp elt [⟨tg, iter, ifs, 0⟩] scope pos) 0 (.ref it) .none cenv
/-- it is exhausted; it yields: S the list where the yields go -/
def GEc (XG : Cx) (σw : St) (S : Addr) (R : List V → Hp → Prop) (s : Shared) : Prop := ∃ us e acc H, Vals acc us ∧ Inv XG [(S, LO us e)] σw H s ∧ R acc H
def GYc (XG : Cx) (σw : St) (S : Addr) (gn : Nat) : Protocol := fun _ _ v s kap => gn + 1 ≤ s.gens.size ∧ ∃ us e H, us.length ≤ 1000 ∧ Inv XG [(S, LO us e)] σw H s ∧
  ∀ (z : Shared) (e' : Nat), z.os = s.os → AllBare z.gens → gn + 1 ≤ z.gens.size → (∀ b o, b ≠ S → s.heap.get? b = some o → z.heap.get? b = some o) → z.heap.get? S = some (LO (us ++ [v]) e') → kap (.send .none) z
/-- the list where the yields go, written -/
theorem Inv.repin {X : Cx} {σ : St} {H : Hp} {s z : Shared} {S : Addr} {us us' : List Value} {e e' : Nat} (I : Inv X [(S, LO us e)] σ H s) (k : ∀ b o, b ≠ S → s.heap.get? b = some o → z.heap.get? b = some o) (hS : z.heap.get? S = some (LO us' e')) (h1 : X.s_0.heap.objs.size ≤ S) (hpn : ∀ p ∈ X.pn, p.1 ≠ S) (ho : z.os = s.os) (hb : AllBare z.gens) :
    Inv X [(S, LO us' e')] σ H z := by
  have p := I.pin (S, LO us e) (by simp)
  have hn : H S = none := p.2.1
  have I0 : Inv X [] σ H s := I.pins_of fun q hq => nomatch hq
  have nc : ∀ x c, X.env.cells.lookup x = some c → c ≠ S := fun x c hx hc => by
    obtain ⟨v, o, e1, e2⟩ := I.cell x c hx
    rw [hc, p.1] at e1
    cases e1
    cases e2
  obtain ⟨h', g', d', t', o'⟩ := z
  have : o' = s.os := ho
  subst this
  have J : Inv X [] σ H { s with heap := h', gens := g', drawn := d', toks := t' } := by
    refine I0.step (ch := [S]) (fun b hb => ?_) (fun b o _ _ hb e _ => k b o (by simpa using hb) e) (fun b o _ _ hb e _ => ⟨o.slots, k b o (by simpa using hb) e⟩) (fun b o _ _ q => q) (fun b o hb e => ⟨o, k b o (by simpa using hb) e⟩) (fun b xs q => q) (fun b o u q => q) (fun b ps q => ⟨#[], by rw [q]; simp⟩) (fun m hm => ?_) ?_ hb
    · have : b = S := by simpa using hb
      subst this
      exact ⟨.inr h1, p.2.2.1, nc, fun q hq => by simp at hq; exact hpn q hq⟩
    · obtain ⟨o, es, ep, ho, r⟩ := hm
      exact ⟨o, es, ep, k _ o (Ne.symm p.2.2.1) ho, r⟩
    · intro b u e
      refine (I.hok b u e).stay (fun c v hc q => k c v ?_ q) (fun c q => q) fun c xs q => q
      rcases hc with z | z
      · rw [z]; intro hbS; rw [hbS, hn] at e; cases e
      · intro hcS; rw [hcS, hn] at z; cases z
  exact J.pins_of fun q hq => by
    have : q = (S, LO us' e') := by simpa using hq
    subst this
    exact ⟨hS, hn, p.2.2.1, p.2.2.2.1, fun v z => nomatch z⟩

section
variable {X : Cx} {σ : St} {elt tg iter : Expr} {ifs : List Expr} {scope : Scope} {pos : Pos} {it S : Addr} {fp : List Addr} {tn : Nat → Heap → Prop} {J : It} {g : TG} {tt : TT} {te : TE} {cenv : Env} {A2 : Around} {s4 : Shared} {H4 : Hp} {pn : List (Addr × Obj)}
  {R : List V → Hp → Prop} {vs : List Nat} {gn : Nat} {W : Nat → Nat → Nat → List V → Hp → Prop}
theorem gen_loopC (hc : X.calm = true) (hh : A2.handled = none) (hco : cenv.scope.isCoroutine = false) (T : Turn X.prog X.w X.K tg J fp it tn)
    (pg : PG (X.gen (A2.over (gCf elt tg iter ifs scope pos it cenv) []) s4 H4 cenv fp pn) tg g) (pt : PTs (X.gen (A2.over (gCf elt tg iter ifs scope pos it cenv) []) s4 H4 cenv fp pn) ifs tt) (pe : PE (X.gen (A2.over (gCf elt tg iter ifs scope pos it cenv) []) s4 H4 cenv fp pn) elt te)
    (turn : ∀ i t m acc H, W i t m acc H → (J.stop i H ∧ R acc H) ∨ (J.go i H ∧ ∃ t', t = t' + 1 ∧ ∀ x H', J.yld i H x H' → g x (wipe σ vs) H' fun σ2 H2 => wipe σ2 vs = wipe σ vs ∧ tt σ2 H2 fun b H3 => (b = false → W (i + 1) t' m acc H3) ∧ (b = true → te σ2 H3 fun y H5 => ∃ m', m = m' + 1 ∧ W (i + 1) t' m' (acc ++ [y]) H5)))
    (hpn : ∀ b ∈ fp, ∀ p ∈ pn, p.1 ≠ b) (hSf : S ∉ fp) (hSp : ∀ p ∈ pn, p.1 ≠ S) (hS0 : s4.heap.objs.size ≤ S) :
    ∀ (t m i : Nat) (s0 s : Shared) (H : Hp) (acc : List V) (us : List Value) (e : Nat), W i t m acc H → acc.length + m ≤ 1000 → Vals acc us → Inv (X.gen (A2.over (gCf elt tg iter ifs scope pos it cenv) []) s4 H4 cenv fp pn) [(S, LO us e)] (wipe σ vs) H s → tn i s.heap → (∀ b ∈ fp, H b = none) → gn + 1 ≤ s.gens.size →
      Seg (model X.prog X.w) A2 (fun _ _ r z => r = .ok .next ∧ GEc (X.gen (A2.over (gCf elt tg iter ifs scope pos it cenv) []) s4 H4 cenv fp pn) (wipe σ vs) S R z)
        (GYc (X.gen (A2.over (gCf elt tg iter ifs scope pos it cenv) []) s4 H4 cenv fp pn) (wipe σ vs) S gn) m s0 (gCf elt tg iter ifs scope pos it cenv) ((model X.prog X.w).den (gCf elt tg iter ifs scope pos it cenv)) [] s := by
  have stat : ∀ {us : List Value} {e : Nat} {σ' : St} {H' : Hp} {s' : Shared}, Inv (X.gen (A2.over (gCf elt tg iter ifs scope pos it cenv) []) s4 H4 cenv fp pn) [(S, LO us e)] σ' H' s' → (∀ b ∈ fp, H' b = none) → ∀ b ∈ fp, FpOk (X.gen (A2.over (gCf elt tg iter ifs scope pos it cenv) []) s4 H4 cenv fp pn) [(S, LO us e)] H' b := fun {us e σ' H' s'} I' hn b hb =>
    ⟨hn b hb, (I'.ok.exf b hb).1, I'.ok.exfs b hb, .inl hb, fun x c e => (I'.ok.exf b hb).2 x c e, fun p hp => by
      rcases List.mem_append.mp (show p ∈ pn ++ [(S, LO us e)] from hp) with q | q
      · exact hpn b hb p q
      · have : p = (S, LO us e) := by simpa using q
        subst this
        intro z
        exact hSf (by rw [show S = b from z]; exact hb)⟩
  intro t
  induction t with
  | zero =>
    intro m i s0 s H acc us e w hm rv I st hn hg
    show Seg _ A2 _ _ _ s0 _ ((compTurn (.GeneratorExp elt [⟨tg, iter, ifs, 0⟩] scope pos) 0 (.ref it) .none cenv).onRaise (leaving cenv)) [] s
    rcases turn i 0 m acc H w with ⟨stop, q⟩ | ⟨_, m', e, _⟩
    · rw [compTurn_gen, Sem.onRaise_eq_wrap]
      refine seg_bind_wrap (wpAny_standAt (seg_bind_wrap ?_))
      refine thnF (T.done (X.gen (A2.over (gCf elt tg iter ifs scope pos it cenv) []) s4 H4 cenv fp pn) rfl rfl rfl hc i [(S, LO us e)] s _ H (fun _ _ => False) I (stat I hn) st stop) fun r s1 ⟨hr, I1⟩ => ?_
      subst hr
      exact seg_end (.ok .next) ⟨rfl, us, e, acc, H, rv, I1, q⟩
    · cases e
  | succ t ih =>
    intro m i s0 s H acc us e w hm rv I st hn hg
    show Seg _ A2 _ _ _ s0 _ ((compTurn (.GeneratorExp elt [⟨tg, iter, ifs, 0⟩] scope pos) 0 (.ref it) .none cenv).onRaise (leaving cenv)) [] s
    rw [compTurn_gen, Sem.onRaise_eq_wrap]
    refine seg_bind_wrap (wpAny_standAt (seg_bind_wrap ?_))
    rcases turn i (t + 1) m acc H w with ⟨stop, q⟩ | ⟨go, t', et, step⟩
    · refine thnF (T.done (X.gen (A2.over (gCf elt tg iter ifs scope pos it cenv) []) s4 H4 cenv fp pn) rfl rfl rfl hc i [(S, LO us e)] s _ H (fun _ _ => False) I (stat I hn) st stop) fun r s1 ⟨hr, I1⟩ => ?_
      subst hr
      exact seg_end (.ok .next) ⟨rfl, us, e, acc, H, rv, I1, q⟩
    · obtain rfl : t = t' := Nat.succ.inj et
      refine thnG hg (T.item (X.gen (A2.over (gCf elt tg iter ifs scope pos it cenv) []) s4 H4 cenv fp pn) rfl rfl rfl hc i [(S, LO us e)] s _ H (fun _ _ => False) I (stat I hn) st go) fun r s1 g1 ⟨u, hr, h1⟩ => ?_
      subst hr
      refine seg_bind_wrap (thnG g1 h1 fun _ s2 g2 ⟨x, H2, I2, r2, y2, st2, n2⟩ => ?_)
      have I2' := I2.pinned (stat I2 n2) (T.obj _ _ st2)
      refine seg_bind_wrap (thnG g2 (pg _ s2 _ H2 x u _ I2' r2 (step x H2 y2)) fun _ s3 g3 ⟨σ3, H3, I3, hw3, q3⟩ => ?_)
      refine seg_bind_wrap (thnG g3 (pt _ s3 σ3 H3 _ I3 q3) fun b s4' g4 ⟨H4', I4', qf, qt⟩ => ?_)
      have hl : (wipe σ vs).length = σ3.length := by rw [← hw3, wipe_length]
      have back : ∀ {H5 : Hp} {s5 : Shared}, Inv (X.gen (A2.over (gCf elt tg iter ifs scope pos it cenv) []) s4 H4 cenv fp pn) ([(S, LO us e)] ++ pinsAt fp s2.heap) σ3 H5 s5 → Inv (X.gen (A2.over (gCf elt tg iter ifs scope pos it cenv) []) s4 H4 cenv fp pn) [(S, LO us e)] (wipe σ vs) H5 s5 ∧ (∀ b ∈ fp, ∀ o, s2.heap.get? b = some o → s5.heap.get? b = some o ∧ H5 b = none) := fun {H5 s5} I5 =>
        ⟨(I5.unpinned (pins := [(S, LO us e)])).weak hl (fun j v e => by
          rw [← hw3] at e
          exact (wipe_some e).1), fun b hb o e =>
          let z := I5.pin (b, o) (List.mem_append_right _ (List.mem_append_right _ (mem_pinsAt hb e)))
          ⟨z.1, z.2.1⟩⟩
      cases b with
      | false =>
        simp only [Bool.false_eq_true, if_false]
        obtain ⟨I6, pin'⟩ := back I4'
        refine seg_again rfl (ih m (i + 1) s0 s4' H4' acc us e (qf rfl) hm rv I6 ?_ (fun b hb => ?_) g4)
        · exact T.keep _ _ _ st2 fun b hb o e => (pin' b hb o e).1
        · obtain ⟨o, e, _⟩ := T.obj _ _ st2 b hb
          exact (pin' b hb o e).2
      | true =>
        have hy : ∀ v, yieldOut cenv v = yieldValue v := fun v => by simp only [yieldOut, hco, Bool.false_eq_true, if_false]
        simp only [if_true, hy]
        rw [Sem.bind_eq_wrap', Sem.bind_eq_wrap', Sem.wrap_wrap, Sem.wrap_wrap]
        refine seg_wrap (thnG g4 (pe _ s4' σ3 H4' _ I4' (qt rfl)) fun v s5 g5 ⟨y, H5, I5, r5, m', em, w5⟩ => ?_)
        subst em
        obtain ⟨I6, pin'⟩ := back I5
        have rl := rv.length
        refine seg_at (seg_yield rfl rfl rfl ⟨g5, us, e, H5, by omega, I6, fun z e' z1 z2 z3 z4 z5 => ?_⟩)
        have I7 := I6.repin z4 z5 hS0 hSp z1 z2
        have neS : ∀ b ∈ fp, b ≠ S := fun b hb hbS => hSf (by rw [← hbS]; exact hb)
        refine seg_again rfl (ih m' (i + 1) z z H5 (acc ++ [y]) (us ++ [v]) e' w5 (by simp; omega) (rv.append (.cons r5 .nil)) I7 ?_ (fun b hb => ?_) z3)
        · exact T.keep _ _ _ st2 fun b hb o e => z4 b o (neS b hb) (pin' b hb o e).1
        · obtain ⟨o, e, _⟩ := T.obj _ _ st2 b hb
          exact (pin' b hb o e).2
theorem gen_firstC {RR : GenEnd} {Y : Protocol} {m : Nat} {s0 s : Shared} (T : Turn X.prog X.w X.K tg J fp it tn) (st : tn 0 s.heap) (loop : Seg (model X.prog X.w) A2 RR Y m s0 (gCf elt tg iter ifs scope pos it cenv) ((model X.prog X.w).den (gCf elt tg iter ifs scope pos it cenv)) [] s) :
    Seg (model X.prog X.w) A2 RR Y m s0 (gSf elt tg iter ifs scope pos it cenv) ((model X.prog X.w).den (gSf elt tg iter ifs scope pos it cenv)) [] s := by
  show Seg _ A2 _ _ _ s0 _ ((compStart (.GeneratorExp elt [⟨tg, iter, ifs, 0⟩] scope pos) 0 (.ref it) .none cenv).onRaise (leaving cenv)) [] s
  unfold compStart
  rw [Sem.onRaise_eq_wrap]
  show Seg _ A2 _ _ _ s0 _ ((ask >>= _).wrap _ _ _ _) [] s
  refine seg_bind_wrap (wpAny_askSetting ?_)
  split
  · exact seg_again rfl loop
  · refine seg_bind_wrap (wpAny_rule ?_)
    show Seg _ A2 _ _ _ s0 _ ((standAt iter.pos >>= _).wrap _ _ _ _) [] s
    exact seg_bind_wrap (wpAny_standAt (seg_bind_wrap (T.self _ 0 s _ _ st (seg_again rfl loop))))
/-- the yields, collected -/
theorem ext_loop {XG : Cx} {A : Around} {σw : St} {a : Addr} {RR : Result → Shared → Prop} (hP : XG.prog = X.prog) (hw : XG.w = X.w) (hh : A.handled = none) (hroom : A.depth < recursionLimit) (hS0 : XG.s_0.heap.objs.size ≤ S) (hSp : ∀ p ∈ XG.pn, p.1 ≠ S) (hG : ∀ {pins : List (Addr × Obj)} {H : Hp} {z : Shared}, Inv XG pins σw H z → z.heap.IsGen a gn)
    (fin : ∀ (y z : Shared), GEc XG σw S R y → z.os = y.os → (∀ b o, y.heap.get? b = some o → z.heap.get? b = some o) → AllBare z.gens → RR (.ok (.ret (.ref S))) z) :
    ∀ (m : Nat) (H : Hp) (s : Shared) (gs : GenState) (us : List Value) (e : Nat), Inv XG [(S, LO us e)] σw H s → s.gens[gn]? = some gs → gs.Goes (model X.prog X.w) A.in1.in1 (fun _ _ r z => r = .ok .next ∧ GEc XG σw S R z) (GYc XG σw S gn) m (.send .none) (s.setGen gn .running) →
      codeAny (model X.prog X.w) A (.builtin "list.extend.loop" ⟨[.ref S, .ref a, .ref S], []⟩) RR s := by
  have bs : ∀ (z : Shared) (x : GenState), AllBare z.gens → x.bare = true → AllBare (z.setGen gn x).gens := fun z x hz hx y hy => by
    have hy : y ∈ z.gens.setIfInBounds gn x := hy
    rcases Array.mem_or_eq_of_mem_setIfInBounds hy with q | q
    · exact hz y q
    · rw [q]; exact hx
  intro m
  induction m with
  | zero =>
    intro H s gs us e I hgs hgo
    refine codeAny_builtin F.entry_extend_loop ?_
    rw [Around.under_plainId F.plain_extend_loop _]
    show wpAny _ A.in1 (pyNext (.ref a) >>= _) _ _ s
    refine wpAny_bind (wpAny_pyNext_genexpQ (P := fun _ _ z => GEc XG σw S R z) hh I.nolimit hroom (hG I) hgs hgo (fun v s1 gs' hb hv => ?_) fun s1 hp h' hk => ?_)
    · obtain ⟨hg1, us1, e1, H1, hl, I1, kap⟩ := hv
      have sz : ((s1.setGen gn gs').setGen gn .running).gens.size = s1.gens.size := by simp [Shared.setGen]
      have gS := (I1.pin (S, LO us1 e1) (by simp)).1
      have g0 := get?_update_seq gS fun x => x.push v
      obtain ⟨h2, hE⟩ : ∃ h2, s1.heap.update S (Obj.mapSeq fun x => x.push v) = h2 := ⟨_, rfl⟩
      have k2 : ∀ b o, b ≠ S → s1.heap.get? b = some o → h2.get? b = some o := fun b o hb e => by rw [← hE, Heap.get?_update_ne _ _ _ _ hb]; exact e
      rw [hE] at g0
      obtain ⟨e', g2⟩ : ∃ e', h2.get? S = some (LO (us1 ++ [v]) e') := ⟨_, by simpa using g0⟩
      exact (kap ({ (s1.setGen gn gs').setGen gn .running with heap := h2 }) e' rfl (bs _ _ (bs _ _ I1.bare hb) rfl) (by rw [show ({ (s1.setGen gn gs').setGen gn .running with heap := h2 } : Shared).gens.size = s1.gens.size from sz]; exact hg1) k2 g2).elim
    · refine wpAny_pure ?_
      refine fin s1 _ hp rfl hk ?_
      obtain ⟨_, _, _, _, _, I1, _⟩ := hp
      exact bs _ _ I1.bare rfl
  | succ m ih =>
    intro H s gs us e I hgs hgo
    refine codeAny_builtin F.entry_extend_loop ?_
    rw [Around.under_plainId F.plain_extend_loop _]
    show wpAny _ A.in1 (pyNext (.ref a) >>= _) _ _ s
    refine wpAny_bind (wpAny_pyNext_genexpQ (P := fun _ _ z => GEc XG σw S R z) hh I.nolimit hroom (hG I) hgs hgo (fun v s1 gs' hb hv => ?_) fun s1 hp h' hk => ?_)
    · obtain ⟨hg1, us1, e1, H1, hl, I1, kap⟩ := hv
      have gS := (I1.pin (S, LO us1 e1) (by simp)).1
      show wpAny _ _ (Builtin.List.listUpdate (.ref S) (fun x_1 => x_1.push v) >>= _) _ _ (s1.setGen gn gs')
      refine wpAny_bind (listUpdate_at (s := s1.setGen gn gs') gS rfl ?_ (by rw [sizeLine_eq]; simp; omega) (by rw [sizeLine_eq]; simp; omega))
      have g2 := get?_update_seq gS fun x => x.push v
      obtain ⟨h2, hE⟩ : ∃ h2, s1.heap.update S (Obj.mapSeq fun x => x.push v) = h2 := ⟨_, rfl⟩
      have k2 : ∀ b o, b ≠ S → s1.heap.get? b = some o → h2.get? b = some o := fun b o hb e => by rw [← hE, Heap.get?_update_ne _ _ _ _ hb]; exact e
      rw [hE] at g2
      obtain ⟨e', g3⟩ : ∃ e', h2.get? S = some (LO (us1 ++ [v]) e') := ⟨_, by simpa using g2⟩
      show wpAny _ _ _ _ _ ({ (s1.setGen gn gs') with heap := s1.heap.update S (Obj.mapSeq fun x => x.push v) } : Shared)
      rw [hE]
      have I2 : Inv XG [(S, LO (us1 ++ [v]) e')] σw H1 { (s1.setGen gn gs') with heap := h2 } := I1.repin k2 g3 hS0 hSp rfl (bs _ _ I1.bare hb)
      refine wpAny_pure ⟨plainId_quiet F.plain_extend_loop _, ih H1 { (s1.setGen gn gs') with heap := h2 } gs' (us1 ++ [v]) e' I2 ?_ ?_⟩
      · exact setGen_self (gs := s1.gens[gn]'hg1) (Array.getElem?_eq_getElem hg1)
      · refine kap (({ (s1.setGen gn gs') with heap := h2 } : Shared).setGen gn .running) e' rfl (bs _ _ (bs _ _ I1.bare hb) rfl) ?_ k2 g3
        have sz : (({ (s1.setGen gn gs') with heap := h2 } : Shared).setGen gn .running).gens.size = s1.gens.size := by simp [Shared.setGen]
        rw [sz]; exact hg1
    · refine wpAny_pure ?_
      refine fin s1 _ hp rfl hk ?_
      obtain ⟨_, _, _, _, _, I1, _⟩ := hp
      exact bs _ _ I1.bare rfl
end
end L2
set_option Elab.async false
set_option linter.all false
set_option maxRecDepth 100000
set_option maxHeartbeats 4000000
namespace L2
open PySem PySem.Spec PyProof.Rows Z
/-- what is wanted of the collected ones: tuples of ints, which are put in order -/
def RS (K : PySem.W.Frag) (Q : VK) (acc : List V) (H : Hp) : Prop := ∃ ks, TupV K H acc ks ∧ ks.length < 64 ∧ ∀ p : List Nat, (∀ i ∈ p, i < acc.length) → p.length = acc.length → p.map (fun i => ks.getD i []) = srtI ks → ∀ D, H D = none → Q (.ref D) (upd H D (.lst (p.map fun i => acc.getD i .non)))
/-- sorted(elt for tg in iter if ..): the code's table at P may grow first -/
def tSortG (K : PySem.W.Frag) (P : Addr) (wi : TI) (g : TG) (tt : TT) (te : TE) (vs : List Nat) : TE := fun σ H Q => wi σ H fun J H1 => ∃ ps, H1 P = some (.tbl ps) ∧ TriplesOk ps.toList ∧ ∀ more, TriplesOk (ps ++ more).toList → ∃ W : Nat → Nat → Nat → List V → Hp → Prop, (∃ t m, m ≤ 1000 ∧ W 0 t m [] (upd H1 P (.tbl (ps ++ more)))) ∧
  ∀ i t m acc H, W i t m acc H → (J.stop i H ∧ RS K Q acc H) ∨ (J.go i H ∧ ∃ t', t = t' + 1 ∧ ∀ x H', J.yld i H x H' → g x (wipe σ vs) H' fun σ2 H2 => wipe σ2 vs = wipe σ vs ∧ tt σ2 H2 fun b H3 => (b = false → W (i + 1) t' m acc H3) ∧ (b = true → te σ2 H3 fun y H5 => ∃ m', m = m' + 1 ∧ W (i + 1) t' m' (acc ++ [y]) H5))
section
variable {X : Cx}
theorem pe_sortG {elt tg iter : Expr} {ifs : List Expr} {scope : Scope} {own : List (Str × Nat)} {pos cpos p : Pos} {wi : TI} {g : TG} {tt : TT} {te : TE} {c P : Addr} (hc : X.calm = true) (hN : X.N.Nodup) (hroom : X.A.depth < recursionLimit) (hi : PI X tg iter wi) (ok : BlkOk X.N X.env.scope scope own)
    (hcell : ∀ y ∈ scope.names, y.2 ≠ .cell) (hco : scope.isCoroutine = false) (h0 : scope.names.lookup (".0" : Str) = some .local) (hcode : X.env.code = .ref c) (hT : ∀ h, X.K.In h → PySem.W.CodeHd h c P) (hbm : Z.BMain X.mg X.base)
    (hgl : Gl X "sorted") (hm : X.mg "sorted" = none)
    (hg : ∀ (it C : Addr) (cl : List (Str × Addr)) (code : Value) (s : Shared) (H : Hp) (fp : List Addr) (pn : List (Addr × Obj)), PG (X.gen (X.A.in1.in1.in1.over (gCf elt tg iter ifs scope pos it (genEnv scope cl C code builtinsNs X.env)) []) s H (genEnv scope cl C code builtinsNs X.env) fp pn) tg g)
    (ht : ∀ (it C : Addr) (cl : List (Str × Addr)) (code : Value) (s : Shared) (H : Hp) (fp : List Addr) (pn : List (Addr × Obj)), PTs (X.gen (X.A.in1.in1.in1.over (gCf elt tg iter ifs scope pos it (genEnv scope cl C code builtinsNs X.env)) []) s H (genEnv scope cl C code builtinsNs X.env) fp pn) ifs tt)
    (he : ∀ (it C : Addr) (cl : List (Str × Addr)) (code : Value) (s : Shared) (H : Hp) (fp : List Addr) (pn : List (Addr × Obj)), PE (X.gen (X.A.in1.in1.in1.over (gCf elt tg iter ifs scope pos it (genEnv scope cl C code builtinsNs X.env)) []) s H (genEnv scope cl C code builtinsNs X.env) fp pn) elt te)
    (hs : ∀ x, genFold iter X.env x = pure x := by intro _; rfl) :
    PE X (.Call (.Name "sorted" p) [.GeneratorExp elt [⟨tg, iter, ifs, 0⟩] scope pos] [] cpos) (tSortG X.K P wi g tt te (own.map (·.2))) := by
  intro pins s σ H Q I h
  refine wpAny_Call_Name_kw (ld_blt I hgl hm (show bootBuiltins "sorted" = some (.builtin "sorted") by decide +kernel) ?_)
  refine PyProof.Rows.callWith_builtin1 ?_ rfl rfl
  show wpAny _ _ (spliced ((false, eval (.GeneratorExp elt [⟨tg, iter, ifs, 0⟩] scope pos) X.env) :: backTo cpos (starEach [] X.env))) _ _ s
  refine Calls.spliced_cons ?_
  have hfree : ∀ y ∈ scope.names, y.2 = .free → ∃ c, X.env.cells.lookup y.1 = some c := fun y hy e => by
    rcases ok.free y hy e with k | k
    · exact I.ok.has _ (.inl k)
    · exact I.ok.has _ (.inr k)
  have hh := I.ok.hd hc
  refine wpAny_GeneratorExp_make hco (closure_ok hfree) hcell h0 ok.kind hroom (thn (hi pins s σ H _ I h) fun xv s1 hx => thn hx fun itv s2 h2 => ?_) hs
  obtain ⟨it, fp, tn, J, H2, e, I2, T, st2, f2, ps, hP, htr, k⟩ := h2
  subst e
  have hget : s2.heap.get? P = some (PySem.W.tabObj ps) := I2.hok P _ hP
  have hhd := hT _ I2.kIn
  have hcd := hhd.code hget htr
  have htab := hhd.tab hget
  have fpP : ∀ b ∈ fp, b ≠ P := fun b hb z => by
    have q := (f2 b hb).1
    rw [z, hP] at q; cases q
  -- the rest, once the table stands
  have rest : ∀ (code : Value) (more : Array Value) (s3 : Shared), Inv X pins σ (upd H2 P (.tbl (ps ++ more))) s3 → tn 0 s3.heap → TriplesOk (ps ++ more).toList →
      wpAny (model X.prog X.w) X.A (builtinsFor X.env.globals X.env.builtins) (fun bi s₄ => ∀ h', h'.Ns s₄.heap.objs.size (fun y => if y = ".0" then some (.ref it) else none) → Heap.SameBut s₄.heap.objs.size (s₄.heap.push { cls := .type "frame", data := .dict #[] }) h' →
        (fun v s₁ => wpAny (model X.prog X.w) X.A (spliced (backTo cpos (starEach [] X.env))) (fun vs s₂ => wpAny (model X.prog X.w) X.A (call (.builtin "sorted") (v :: vs)) (EP X pins σ Q) X.xe s₂) X.xe s₁) (.ref h'.objs.size) { s₄ with
          gens := s₄.gens.push (.fresh (.compStart (.GeneratorExp elt [⟨tg, iter, ifs, 0⟩] scope pos) 0 (.ref it) .none (genEnv scope (cloFrom X.env.cells scope.names []) s₄.heap.objs.size code bi X.env))),
          toks := s₄.toks + 1 + 1 + 1,
          heap := h'.push { cls := .type "generator", data := .fields #[.int s₄.gens.size 0, .str "<genexpr>" (s₄.toks + 1), .str (X.env.qual ++ "<genexpr>") (s₄.toks + 1 + 1)] } }) X.xe s3 := by
    intro code more s3 I3 st3 htr3
    obtain ⟨W, ⟨t0, m0, hm0, w0⟩, turn⟩ := k more htr3
    obtain ⟨bm, ob, b1, b2, b3, b4, b5, b6⟩ := hbm
    refine wpAny_builtinsFor (m := X.mg) (by rw [I3.ok.glob]; exact I3.mod.glob.keeps I3.bk) b1 b2 (I3.bk _ _ b3) b4 b5 b6 ?_
    intro h' hn' hs'
    generalize hgo : ({ cls := .type "generator", data := .fields #[.int s3.gens.size 0, .str "<genexpr>" (s3.toks + 1), .str (X.env.qual ++ "<genexpr>") (s3.toks + 1 + 1)] } : Obj) = go
    have hsz : h'.objs.size = s3.heap.objs.size + 1 := by rw [hs'.1, Heap.size_push]
    have keep' : ∀ b o, s3.heap.get? b = some o → (h'.push go).get? b = some o := fun b o e => Heap.get?_push_of_some _ (hs'.extBut b o (Nat.ne_of_lt (Heap.lt_size e)) (Heap.get?_push_of_some _ e))
    have hnf : go.isFreed = false := by rw [← hgo]; rfl
    have hga : (h'.push go).get? h'.objs.size = some go := Heap.get?_push_size _ hnf
    have fz : ∀ b ∈ fp, b < s3.heap.objs.size := fun b hb => by
      obtain ⟨o, e, _⟩ := T.obj _ _ st3 b hb
      exact Heap.lt_size e
    have f3 : ∀ b ∈ fp, FpOk X pins (upd H2 P (.tbl (ps ++ more))) b ∧ b < s3.heap.objs.size := fun b hb => ⟨⟨by rw [upd_ne (fpP b hb)]; exact (f2 b hb).1, (f2 b hb).2⟩, fz b hb⟩
    show wpAny _ _ (spliced []) _ _ _
    refine Calls.spliced_nil ?_
    generalize hs5 : ({ s3 with gens := s3.gens.push (.fresh (.compStart (.GeneratorExp elt [⟨tg, iter, ifs, 0⟩] scope pos) 0 (.ref it) .none (genEnv scope (cloFrom X.env.cells scope.names []) s3.heap.objs.size code builtinsNs X.env))), toks := s3.toks + 1 + 1 + 1, heap := h'.push go } : Shared) = s5
    have hheap : s5.heap = h'.push go := by rw [← hs5]
    have hos : s5.os = s3.os := by rw [← hs5]
    have hgens : s5.gens = s3.gens.push (.fresh (.compStart (.GeneratorExp elt [⟨tg, iter, ifs, 0⟩] scope pos) 0 (.ref it) .none (genEnv scope (cloFrom X.env.cells scope.names []) s3.heap.objs.size code builtinsNs X.env))) := by rw [← hs5]
    have bare5 : AllBare s5.gens := fun y hy => by
      rw [hgens] at hy
      rcases Array.mem_push.mp hy with q | q
      · exact I3.bare y q
      · rw [q]; rfl
    generalize hce : genEnv scope (cloFrom X.env.cells scope.names []) s3.heap.objs.size code builtinsNs X.env = ce at hgens
    have hfr : (X.A.in1.in1.in1.over (gCf elt tg iter ifs scope pos it ce) []).frames = some (ce :: X.stack) := by
      have e1 : X.A.in1.in1.in1.frames = some X.stack := I3.ok.frames
      unfold Around.over
      simp only [e1, I3.ok.frames]
      rfl
    have I5 : Inv (X.gen (X.A.in1.in1.in1.over (gCf elt tg iter ifs scope pos it ce) []) s3 (upd H2 P (.tbl (ps ++ more))) ce fp [(h'.objs.size, go)]) [] (wipe σ (own.map (·.2))) (upd H2 P (.tbl (ps ++ more))) s5 := by
      subst hce
      refine gen_start (m := fun y => if y = ".0" then some (.ref it) else none) I3 ok hN hcell f3 hfr (fun _ => hh) hos bare5 (by rw [hheap]; exact hn'.push _) (by rw [hheap]; exact keep') (by rw [hheap]; exact hga) (by rw [hsz]; exact Nat.lt_succ_self _) (fun v => by rw [← hgo]; exact fun z => nomatch z)
    have pg := hg it s3.heap.objs.size (cloFrom X.env.cells scope.names []) code s3 (upd H2 P (.tbl (ps ++ more))) fp [(h'.objs.size, go)]
    have pt := ht it s3.heap.objs.size (cloFrom X.env.cells scope.names []) code s3 (upd H2 P (.tbl (ps ++ more))) fp [(h'.objs.size, go)]
    have pe := he it s3.heap.objs.size (cloFrom X.env.cells scope.names []) code s3 (upd H2 P (.tbl (ps ++ more))) fp [(h'.objs.size, go)]
    have hcs : ce.scope.isCoroutine = false := by rw [← hce]; exact hco
    rw [hce] at pg pt pe
    generalize hH3 : upd H2 P (.tbl (ps ++ more)) = H3 at I3 I5 pg pt pe w0 f3
    have hpn : ∀ b ∈ fp, ∀ p ∈ [(h'.objs.size, go)], p.1 ≠ b := fun b hb p hp z => by
      have e : p = (h'.objs.size, go) := by simpa using hp
      subst e
      have q : h'.objs.size = b := z
      have h2 := fz b hb
      rw [← q, hsz] at h2
      exact Nat.not_lt.mpr (Nat.le_succ _) h2
    have st5 : tn 0 s5.heap := T.keep _ _ _ st3 fun b _ o e => by rw [hheap]; exact keep' b o e
    have hG : ∀ {pins : List (Addr × Obj)} {H' : Hp} {z : Shared}, Inv (X.gen (X.A.in1.in1.in1.over (gCf elt tg iter ifs scope pos it ce) []) s3 H3 ce fp [(h'.objs.size, go)]) pins (wipe σ (own.map (·.2))) H' z → z.heap.IsGen h'.objs.size s3.gens.size := fun {pins H' z} I' => by
      have q := (I'.pin (h'.objs.size, go) (by simp)).1
      exact ⟨go, _, _, q, by rw [← hgo], by rw [← hgo], by rw [← hgo]⟩
    have hT5 : s5.TypeIs (.ref h'.objs.size) "generator" := ⟨go, by rw [hheap]; exact hga, by rw [← hgo]⟩
    have sz5 : s5.heap.objs.size = h'.objs.size + 1 := by rw [hheap, Heap.size_push]
    refine sorted_of (R := fun us s1 => ∃ acc H', Vals acc us ∧ Inv X pins σ H' s1 ∧ RS X.K Q acc H') (collect_gen (hG I5) hT5 fun h1 e k1 g1 => ?_) fun us s1 hr => ?_
    · obtain ⟨S, hS⟩ : ∃ S, s5.heap.objs.size = S := ⟨_, rfl⟩
      rw [hS] at g1 ⊢
      have hS3 : s3.heap.objs.size ≤ S := by rw [← hS, sz5, hsz]; exact Nat.le_trans (Nat.le_succ _) (Nat.le_succ _)
      have hSp : ∀ p ∈ [(h'.objs.size, go)], p.1 ≠ S := fun p hp => by
        have e : p = (h'.objs.size, go) := by simpa using hp
        subst e
        rw [← hS, sz5]; exact Nat.ne_of_lt (Nat.lt_succ_self _)
      have hSf : S ∉ fp := fun hb => by
        have := fz S hb
        exact Nat.lt_irrefl _ (Nat.lt_of_lt_of_le this hS3)
      have I6 : Inv (X.gen (X.A.in1.in1.in1.over (gCf elt tg iter ifs scope pos it ce) []) s3 H3 ce fp [(h'.objs.size, go)]) [(S, LO [] e)] (wipe σ (own.map (·.2))) H3 { s5 with heap := h1 } := by
        refine (I5.kept (t' := s5.toks) k1).pins_of fun p hp => ?_
        have e : p = (S, LO [] e) := by simpa using hp
        subst e
        refine ⟨g1, I3.hok.fresh hS3, ?_, ?_, fun v z => nomatch z⟩
        · exact Nat.ne_of_gt (by rw [← hS]; exact I5.lt)
        · exact I5.nofs (by rw [← hS]; exact Nat.le_refl _)
      have st6 : tn 0 h1 := T.keep _ _ _ st5 fun b _ o e => k1 b o e
      refine ext_loop (X := X) (A := X.A.in1) (R := RS X.K Q) (S := S) (gn := s3.gens.size) (XG := X.gen (X.A.in1.in1.in1.over (gCf elt tg iter ifs scope pos it ce) []) s3 H3 ce fp [(h'.objs.size, go)]) rfl rfl hh hroom hS3 hSp hG (fun y z hy z1 z2 z3 => ?_) m0 H3 { s5 with heap := h1 } (.fresh (.compStart (.GeneratorExp elt [⟨tg, iter, ifs, 0⟩] scope pos) 0 (.ref it) .none ce)) [] e I6 (by rw [hgens]; exact Array.getElem?_push_size) ⟨rfl, ?_⟩
      · -- back in the def's context
        obtain ⟨us, e', acc, H', rv, I', q⟩ := hy
        have un : Un (frs X.stack) fp H3 H' s3.heap y.heap := I'.base
        have gS := (I'.pin (S, LO us e') (by simp)).1
        refine ⟨us, e', rfl, z2 _ _ gS, acc, H', rv, ?_, q⟩
        refine I3.call' (ch := fp) (z1.trans I'.os) (un.trans (Un.kept z2)) (I'.hok.kept z2) z3 fun b hb => ⟨(f3 b hb).1.2.2.2.1, (f3 b hb).1.2.1, (f3 b hb).1.2.2.2.2.1, (f3 b hb).1.2.2.2.2.2⟩
      · refine gen_firstC (X := X) T (show tn 0 (({ s5 with heap := h1 } : Shared).setGen s3.gens.size .running).heap from st6) ?_
        refine gen_loopC (A2 := X.A.in1.in1.in1) (W := W) hc hh hcs T pg pt pe turn hpn hSf hSp hS3 t0 m0 0 _ _ H3 [] [] e w0 (by simpa using hm0) .nil (I6.re rfl rfl (fun y hy => ?_)) st6 (fun b hb => (f3 b hb).1.1) ?_
        · have hy : y ∈ s5.gens.setIfInBounds s3.gens.size .running := hy
          rcases Array.mem_or_eq_of_mem_setIfInBounds hy with q | q
          · exact bare5 y q
          · rw [q]; rfl
        · show s3.gens.size + 1 ≤ (s5.gens.setIfInBounds s3.gens.size .running).size
          rw [Array.size_setIfInBounds, hgens, Array.size_push]
          exact Nat.le_refl _
    · obtain ⟨acc, H', rv, I', ks, ht', hl, q⟩ := hr
      have l1 : us.length = ks.length := by rw [← rv.length, ht'.length]
      refine ⟨ks, ht'.its I' rv, by omega, fun h2 p e p1 p2 k2 g2 => ?_⟩
      rw [l1] at p1 p2
      have pm : ∀ i ∈ p.toList, i < acc.length := fun i hi => by
        have := (p1.mem_iff (a := i)).mp (by simpa using hi)
        rw [ht'.length]; simpa using this
      have pl : p.toList.length = acc.length := by
        have := p1.size_eq
        rw [ht'.length]; simpa using this
      refine ⟨.ref s1.heap.objs.size, _, I'.laid (t' := s1.toks) (o := .lst (p.toList.map fun i => acc.getD i .non)) k2 (Nat.le_refl _) ?_, rfl, q p.toList pm pl (outs_eq p1 p2) _ (I'.hok.fresh (Nat.le_refl _))⟩
      refine ⟨by rw [List.length_map, pl, ht'.length, sizeLine_eq]; omega, _, e, vals_out rv pm, ?_⟩
      rw [g2]
      unfold outOf
      congr 2
      apply Array.ext'
      simp
  refine ⟨I2.nolimit, ?_⟩
  cases hf : codeAmong pos ps.toList with
  | some cv =>
    refine wpAny_genexprCode_hit hcode hcd hf ?_
    refine rest cv #[] s2 ?_ st2 (by simpa using htr)
    have e : ps ++ #[] = ps := by simp
    rw [e, upd_id hP]
    exact I2
  | none =>
    refine wpAny_genexprCodeX hcode hcd htab hf fun c' h3 tk hx _ _ hc3 _ ht3 _ => ?_
    refine rest (.ref c') _ _ (I2.tabbed hP hx ht3.2) (T.keep _ _ _ st2 fun b hb o e => hx b o (fpP b hb) e) ?_
    obtain ⟨_, _, _, _, _, _, _, _, _, _, _, _, _, _, _, _, _, _, _, htr3, _⟩ := hc3
    exact htr3
end
end L2
set_option Elab.async false
set_option linter.all false
set_option maxRecDepth 100000
set_option maxHeartbeats 4000000
namespace Z
open PySem PySem.Spec PyProof.Rows L2
section
variable {X : Cx} {G : GT} {a b c : Expr} {fa fb fc : XE} {pos p2 : Pos} {st : Stmt} {rest body : List Stmt} {f g : XS} {tg iter : Expr} {ifs : List Expr}
/-- sorted(e for g in .. if t), e a tuple of ints each time -/
def loopK (stay : AH → Bool) (g : TGt) (t : XT) (e : XE) (σ : SW) (k : List W → AH → Res W) : List W → List W → AH → Res W
  | [], acc, h => if stay h = true then k acc h else .bad
  | x :: xs, acc, h => if stay h = true then match g.run x σ with
      | some σ1 => (t σ1 h).noexc.bind fun b h2 => if b = true then (e σ1 h2).noexc.bind fun y h3 => loopK stay g t e σ k xs (acc ++ [y]) h3 else loopK stay g t e σ k xs acc h2
      | none => .bad
    else .bad
def loopN (g : TGt) (t : XT) (e : XE) (σ : SW) : List W → AH → Nat
  | [], _ => 0
  | x :: xs, h => match g.run x σ with
      | some σ1 => match (t σ1 h).noexc with
          | .ok true h2 => match (e σ1 h2).noexc with
              | .ok _ h3 => loopN g t e σ xs h3 + 1
              | _ => 0
          | .ok false h2 => loopN g t e σ xs h2
          | _ => 0
      | none => 0
theorem loopN_le (g : TGt) (t : XT) (e : XE) (σ : SW) : ∀ (xs : List W) (h : AH), loopN g t e σ xs h ≤ xs.length
  | [], _ => Nat.le_refl _
  | x :: xs, h => by
    unfold loopN
    split
    · split
      · split
        · exact Nat.succ_le_succ (loopN_le g t e σ xs _)
        · exact Nat.zero_le _
      · exact Nat.le_succ_of_le (loopN_le g t e σ xs _)
      · exact Nat.zero_le _
    · exact Nat.zero_le _
def srtK (ws : List W) (h : AH) : Res W := match optAll tupI ws with
  | some ks => if ks.length < 64 then .ok (.ref h.length) (h ++ [.lst ((srtI ks).map tupW)]) else .bad
  | none => .bad
def xSortG (it : XI) (g : TGt) (t : XT) (e : XE) (vs : List Nat) : XE := fun σ h => (it σ h).bind fun src h1 => if src.items.length ≤ 1000 then loopK src.stay g t e (wpW σ vs) srtK src.items [] h1 else .bad
theorem tSortG_of {it : XI} {g : TGt} {t : XT} {e : XE} {vs : List Nat} {q : Addr × Addr} (hq : q ∈ G.tb) (hsl : ∀ i ∈ g.slots, i ∈ vs) {τ : L2.St} {H : Hp} {Q : VK} (qq : tE X G (xSortG it g t e vs) τ H Q) :
    tSortG X.K q.2 (tI X G it) (gOf X G g) (tT X G fun σ h => (t σ h).noexc) (tE X G fun σ h => (e σ h).noexc) vs τ H Q := by
  obtain ⟨ρ, σ, h, S, L, qq⟩ := qq
  refine seq_I S L qq fun src h1 ρ1 H1 J S1 L1 x1 hJ q1 => ?_
  obtain ⟨ps, hP, htr⟩ := S1.tb q hq
  refine ⟨ps, hP, htr, fun more htr2 => ?_⟩
  obtain ⟨S2, xt⟩ := S1.tabbed (more := more) hq hP htr2
  have hlen : src.items.length ≤ 1000 := by
    by_cases hlen : src.items.length ≤ 1000
    · exact hlen
    · rw [if_neg hlen] at q1; exact q1.elim
  rw [if_pos hlen] at q1
  refine ⟨fun i tm m acc H' => tm = src.items.length - i ∧ i ≤ src.items.length ∧ ∃ ρ' h' ws, Ext ⟨X.K, G⟩ ρ1 (upd H1 q.2 (.tbl (ps ++ more))) ρ' H' ∧ HS ⟨X.K, G⟩ ρ' h' H' ∧ RelWs ⟨X.K, G⟩ ρ' H' ws acc ∧ m = loopN g t e (wpW σ vs) (src.items.drop i) h' ∧ Gd X G ρ' H' (loopK src.stay g t e (wpW σ vs) srtK (src.items.drop i) ws h') fun w h'' ρ'' H'' => ∀ v, RelW ⟨X.K, G⟩ ρ'' H'' w v → Q v H'',
    ⟨src.items.length, _, Nat.le_trans (loopN_le _ _ _ _ _ _) hlen, by simp, Nat.zero_le _, ρ1, h1, [], .refl, S2, .nil, rfl, by simpa using q1.ext xt⟩, ?_⟩
  rintro i tm m acc H' ⟨rfl, hi, ρ', h', ws, x', S', rw0, rfl, q'⟩
  have x1' : Ext ⟨X.K, G⟩ ρ1 H1 ρ' H' := xt.trans x'
  by_cases hlt : i < src.items.length
  · right
    have hd : src.items.drop i = src.items[i] :: src.items.drop (i + 1) := List.drop_eq_getElem_cons hlt
    have hw : src.items[i]? = some src.items[i] := by simp [hlt]
    rw [hd] at q'
    unfold loopK at q'
    split at q'
    · rename_i hst
      refine ⟨hJ.go i ρ' h' H' _ x1' S' hst hw, src.items.length - (i + 1), by omega, fun x H2 hy => ?_⟩
      obtain ⟨xy, S3, rw'⟩ := hJ.yld i ρ' h' H' _ x H2 x1' S' hst hw hy
      split at q'
      · rename_i σ1 hr
        refine ⟨ρ', wpW σ vs, h', _, σ1, S3, ((L1.ext x1').ext xy).wipe vs, rw', hr, fun τ3 L3 b3 => ⟨?_, ?_⟩⟩
        · rw [b3.wipe hsl, wipe_wipe]
        · cases hT : (t σ1 h').noexc with
          | bad => rw [hT] at q'; exact q'.elim
          | exc c2 h2 => cases ht : t σ1 h' <;> rw [ht] at hT <;> cases hT
          | ok bb h2 =>
            rw [hT, Res.bind_ok] at q'
            refine ⟨ρ', σ1, h', S3, L3, ?_⟩
            show Gd X G ρ' H2 ((t σ1 h').noexc) _
            rw [hT]
            intro ρ4 H4 x4 S4
            have x4' : Ext ⟨X.K, G⟩ ρ1 (upd H1 q.2 (.tbl (ps ++ more))) ρ4 H4 := (x'.trans xy).trans x4
            have q4 := q'.ext (xy.trans x4)
            have rw4 := rw0.ext (xy.trans x4)
            cases bb with
            | false =>
              rw [if_neg (by simp)] at q4
              exact ⟨fun _ => ⟨rfl, hlt, ρ4, h2, ws, x4', S4, rw4, by rw [hd]; simp [loopN, hr, hT], q4⟩, fun z => nomatch z⟩
            | true =>
              rw [if_pos rfl] at q4
              refine ⟨(fun z => nomatch z), fun _ => ?_⟩
              cases hE : (e σ1 h2).noexc with
              | bad => rw [hE] at q4; exact q4.elim
              | exc c2 h3 => cases he : e σ1 h2 <;> rw [he] at hE <;> cases hE
              | ok y h3 =>
                rw [hE, Res.bind_ok] at q4
                refine ⟨ρ4, σ1, h2, S4, L3.ext x4, ?_⟩
                show Gd X G ρ4 H4 ((e σ1 h2).noexc) _
                rw [hE]
                intro ρ5 H5 x5 S5 v r5
                exact ⟨loopN g t e (wpW σ vs) (src.items.drop (i + 1)) h3, by rw [hd]; simp [loopN, hr, hT, hE], rfl, hlt, ρ5, h3, ws ++ [y], x4'.trans x5, S5, (rw4.ext x5).append (.cons r5 .nil), rfl, q4.ext x5⟩
      · exact q'.elim
    · exact q'.elim
  · left
    have e : i = src.items.length := by omega
    subst e
    rw [List.drop_length] at q'
    unfold loopK at q'
    split at q'
    · rename_i hst
      refine ⟨hJ.stop _ ρ' h' H' x1' S' hst (Nat.le_refl _), ?_⟩
      unfold srtK at q'
      split at q'
      · rename_i ks hk
        split at q'
        · rename_i hl
          obtain ⟨t1, hw1⟩ := rel_tups hk rw0
          refine ⟨ks, t1, hl, fun p pm pl pe D hD => ?_⟩
          have rp := rels_pick rw0 pm
          have e : (p.map fun i => ws.getD i .non) = (srtI ks).map tupW := by
            rw [← pe, List.map_map]
            refine List.map_congr_left fun i hi => ?_
            have hi' := pm i hi
            rw [t1.length] at hi'
            rw [hw1]
            simp [hi']
          rw [e] at rp
          obtain ⟨y, s, r⟩ := new_lst S' rp hD
          exact q' _ _ y s _ r
        · exact q'.elim
      · exact q'.elim
    · exact q'.elim
theorem Room.genS {k : Nat} {A : Around} {elt : Expr} {scope : Scope} {it : Addr} {ce : Env} (r : Room (k + 1) A) : Room k (A.in1.in1.in1.over (gCf elt tg iter ifs scope pos it ce) []) := by
  refine ⟨r.hd, ?_, ?_⟩
  · have h := r.dp
    have e : (A.in1.in1.in1.over (gCf elt tg iter ifs scope pos it ce) []).depth = A.depth + 0 + 1 := rfl
    rw [e]; omega
  · have h := r.un
    have e : (A.in1.in1.in1.over (gCf elt tg iter ifs scope pos it ce) []).units = A.units + 1 + 1 + 1 + 0 + 3 := rfl
    rw [e]; omega
theorem se_sortG {elt : Expr} {scope : Scope} {own : List (Str × Nat)} {it : XI} {gt : TGt} {t : XT} {e : XE} {cpos p : Pos} {q : Addr × Addr} {k : Nat} {fd : FuncData} (hc : X.calm = true) (hN : X.N.Nodup) (hr : Room (k + 1) X.A) (hcd : CdFact X.K fd q) (hcode : fd.code = X.env.code) (hq : q ∈ G.tb)
    (hbm : BMain X.mg X.base) (hm : X.mg "sorted" = none) (hi : SI X G tg iter it) (ok : BlkOk X.N X.env.scope scope own)
    (hg : ∀ (it C : Addr) (cl : List (Str × Addr)) (code : Value) (s : Shared) (H : Hp) (fp : List Addr) (pn : List (Addr × Obj)), SG (X.gen (X.A.in1.in1.in1.over (gCf elt tg iter ifs scope pos it (genEnv scope cl C code builtinsNs X.env)) []) s H (genEnv scope cl C code builtinsNs X.env) fp pn) G tg gt)
    (ht : ∀ (it C : Addr) (cl : List (Str × Addr)) (code : Value) (s : Shared) (H : Hp) (fp : List Addr) (pn : List (Addr × Obj)), Room k (X.A.in1.in1.in1.over (gCf elt tg iter ifs scope pos it (genEnv scope cl C code builtinsNs X.env)) []) →
      STs (X.gen (X.A.in1.in1.in1.over (gCf elt tg iter ifs scope pos it (genEnv scope cl C code builtinsNs X.env)) []) s H (genEnv scope cl C code builtinsNs X.env) fp pn) G ifs t)
    (he : ∀ (it C : Addr) (cl : List (Str × Addr)) (code : Value) (s : Shared) (H : Hp) (fp : List Addr) (pn : List (Addr × Obj)), Room k (X.A.in1.in1.in1.over (gCf elt tg iter ifs scope pos it (genEnv scope cl C code builtinsNs X.env)) []) →
      SE (X.gen (X.A.in1.in1.in1.over (gCf elt tg iter ifs scope pos it (genEnv scope cl C code builtinsNs X.env)) []) s H (genEnv scope cl C code builtinsNs X.env) fp pn) G elt e)
    (hsl : ∀ i ∈ gt.slots, i ∈ own.map (·.2) := by decide) (hcell : ∀ y ∈ scope.names, y.2 ≠ .cell := by decide) (hco : scope.isCoroutine = false := by rfl) (h0 : scope.names.lookup (".0" : Str) = some .local := by rfl) (hgl : Gl X "sorted" := by rfl)
    (hs : ∀ x, genFold iter X.env x = pure x := by intro _; rfl) :
    SE X G (.Call (.Name "sorted" p) [.GeneratorExp elt [⟨tg, iter, ifs, 0⟩] scope pos] [] cpos) (xSortG it gt t e (own.map (·.2))) :=
  .mk <| PE.mono (pe_sortG (te := tE X G fun σ h => (e σ h).noexc) (tt := tT X G fun σ h => (t σ h).noexc) (g := gOf X G gt) (c := q.1) (P := q.2) hc hN hr.depth hi.p ok hcell hco h0 (hcode.symm.trans hcd.code) hcd.hd hbm hgl hm (fun it C cl code s H fp pn => (hg it C cl code s H fp pn).p)
    (fun it C cl code s H fp pn pins s' σ H' Q I q => (ht it C cl code s H fp pn (Room.genS hr)).p pins s' σ H' Q I (by obtain ⟨ρ, σ', h, S, L, q⟩ := q; exact ⟨ρ, σ', h, S, L, Gd.gen q⟩))
    (fun it C cl code s H fp pn => PE.mono (he it C cl code s H fp pn (Room.genS hr)).p fun τ H Q qq => by obtain ⟨ρ, σ', h, S, L, qq⟩ := qq; exact ⟨ρ, σ', h, S, L, Gd.gen qq⟩) hs) fun τ H Q qq => tSortG_of hq hsl qq
end
end Z
set_option Elab.async false
set_option linter.all false
set_option maxRecDepth 100000
set_option maxHeartbeats 4000000
namespace L2
open PySem PySem.Spec PyProof.Rows
section
variable {X : Cx} {a b c d : Expr} {ta tb tc td : TE} {pos : Pos}
end
end L2
namespace Z
open PySem PySem.Spec PyProof.Rows L2
section
variable {X : Cx} {G : GT} {a b c d : Expr} {fa fb fc fd : XE} {pos p2 : Pos}
end
end Z
set_option Elab.async false
set_option linter.all false
set_option maxRecDepth 100000
set_option maxHeartbeats 4000000
/-! o.f += int -/
namespace Z
open PySem L2
section
variable {X : Cx} {G : GT} {a b c o : Expr} {fa fb fc fo : XE} {pos p2 : Pos}
end
end Z
set_option Elab.async false
set_option linter.all false
set_option maxRecDepth 100000
set_option maxHeartbeats 4000000
/-! equations of xs[i] = e -/
namespace Z
open PySem L2
def subQ3 (σ : SW) (v x : W) (k : Res W) : Res Fl := k.bind fun k h3 => match x, k with
  | .ref n, .int z => subK2 σ v n z h3 h3[n]?
  | _, _ => .bad
def subQ2 (i : XE) (σ : SW) (v : W) (x : Res W) : Res Fl := x.bind fun x h2 => subQ3 σ v x (i σ h2)
def subQ1 (o i : XE) (σ : SW) (v : Res W) : Res Fl := v.bind fun v h1 => subQ2 i σ v (o σ h1)
theorem zSb : (∀ (σ : SW) (h : AH) (e o i : XE), sSub e o i σ h = subQ1 o i σ (e σ h)) ∧
    (∀ (σ : SW) (h : AH) (o i : XE) (v : W), subQ1 o i σ (.ok v h) = subQ2 i σ v (o σ h)) ∧
    (∀ (σ : SW) (h : AH) (i : XE) (v x : W), subQ2 i σ v (.ok x h) = subQ3 σ v x (i σ h)) ∧
    (∀ (σ : SW) (h : AH) (v : W) (n : Nat) (z : Int), subQ3 σ v (.ref n) (.ok (.int z) h) = subK2 σ v n z h h[n]?) := by
  refine ⟨fun σ h e o i => ?_, fun _ _ _ _ _ => rfl, fun _ _ _ _ _ => rfl, fun _ _ _ _ _ => rfl⟩
  unfold sSub subQ1 subQ2 subQ3 subK2
  rfl
theorem subK2_at {σ : SW} {v : W} {n j : Nat} {z : Int} {h : AH} {xs : List W} (e : h[n]? = some (.lst xs)) (hj : ixN xs.length z = some j) : subK2 σ v n z h h[n]? = .ok (.nx σ) (h.set n (.lst (xs.set j v))) := by
  unfold subK2; rw [e]; simp only [hj]
theorem ixN_nat {m i : Nat} (hi : i < m) : ixN m (i : Int) = some i := by unfold ixN; rw [if_pos (by omega), if_pos (by omega)]; simp
end Z
set_option Elab.async false
set_option linter.all false
set_option maxRecDepth 100000
set_option maxHeartbeats 4000000
/-! a set's table: its places rise -/
namespace Z
open PySem
def Ris (xs : Array Nat) : Prop := xs.toList.Pairwise (· < ·)
theorem Ris.lt {xs : Array Nat} (r : Ris xs) {i j a b : Nat} (hij : i < j) (ha : xs[i]? = some a) (hb : xs[j]? = some b) : a < b := by
  rw [← Array.getElem?_toList] at ha hb
  obtain ⟨h1, e1⟩ := List.getElem?_eq_some_iff.mp ha
  obtain ⟨h2, e2⟩ := List.getElem?_eq_some_iff.mp hb
  have := List.pairwise_iff_getElem.mp r i j h1 h2 hij
  rw [e1, e2] at this; exact this
theorem at_some {xs : Array Nat} {i : Nat} (h : i < xs.size) : ∃ a, xs[i]? = some a := ⟨xs[i], Array.getElem?_eq_getElem h⟩
theorem below_go {xs : Array Nat} (r : Ris xs) (j : Nat) : ∀ (f lo hi : Nat), lo ≤ hi → hi ≤ xs.size → hi - lo ≤ f → (∀ i a, i < lo → xs[i]? = some a → a < j) → (∀ i a, hi ≤ i → xs[i]? = some a → j ≤ a) →
    lo ≤ SetTable.below.go xs j f lo hi ∧ SetTable.below.go xs j f lo hi ≤ hi ∧ (∀ i a, i < SetTable.below.go xs j f lo hi → xs[i]? = some a → a < j) ∧ (∀ i a, SetTable.below.go xs j f lo hi ≤ i → xs[i]? = some a → j ≤ a)
  | 0, lo, hi, h1, h2, h3, l, u => by
    have : lo = hi := by omega
    subst this
    unfold SetTable.below.go
    exact ⟨Nat.le_refl _, Nat.le_refl _, l, u⟩
  | f + 1, lo, hi, h1, h2, h3, l, u => by
    unfold SetTable.below.go
    by_cases hlt : lo < hi
    · rw [if_pos hlt]
      obtain ⟨m, hm⟩ : ∃ m, (lo + hi) / 2 = m := ⟨_, rfl⟩
      simp only [hm]
      have m1 : lo ≤ m := by omega
      have m2 : m < hi := by omega
      obtain ⟨a, ha⟩ := at_some (xs := xs) (i := m) (by omega)
      have hg : xs.getD m j = a := by simp [Array.getD_eq_getD_getElem?, ha]
      rw [hg]
      by_cases hlj : a < j
      · rw [if_pos hlj]
        obtain ⟨q1, q2, q3, q4⟩ := below_go r j f (m + 1) hi (by omega) h2 (by omega) (fun i b hi hb => by
          rcases Nat.lt_or_ge i m with z | z
          · exact Nat.lt_trans (r.lt z hb ha) hlj
          · have : i = m := by omega
            subst this; rw [ha] at hb; cases hb; exact hlj) u
        exact ⟨by omega, q2, q3, q4⟩
      · rw [if_neg hlj]
        obtain ⟨q1, q2, q3, q4⟩ := below_go r j f lo m m1 (by omega) (by omega) l (fun i b hi hb => by
          rcases Nat.lt_or_ge m i with z | z
          · have := r.lt z ha hb; omega
          · have : i = m := by omega
            subst this; rw [ha] at hb; cases hb; omega)
        exact ⟨q1, by omega, q3, q4⟩
    · rw [if_neg hlt]
      have : lo = hi := by omega
      subst this
      exact ⟨Nat.le_refl _, Nat.le_refl _, l, u⟩
theorem below_spec {xs : Array Nat} (r : Ris xs) (j : Nat) : SetTable.below xs j ≤ xs.size ∧ (∀ i a, i < SetTable.below xs j → xs[i]? = some a → a < j) ∧ (∀ i a, SetTable.below xs j ≤ i → xs[i]? = some a → j ≤ a) := by
  obtain ⟨_, q2, q3, q4⟩ := below_go r j xs.size 0 xs.size (Nat.zero_le _) (Nat.le_refl _) (by omega) (fun i a h => absurd h (Nat.not_lt_zero _)) (fun i a h e => by
    rw [Array.getElem?_eq_none h] at e; cases e)
  exact ⟨q2, q3, q4⟩
/-- a slot that isn't live -/
def Free (t : SetTable) (j : Nat) : Prop := t.place[SetTable.below t.place j]? ≠ some j
theorem put_ris {t : SetTable} {j : Nat} (r : Ris t.place) (f : Free t j) : Ris (t.put j).1.place := by
  obtain ⟨b1, b2, b3⟩ := below_spec r j
  show Ris (SetTable.insertAt t.place (SetTable.below t.place j) j)
  unfold Ris
  rw [SetTable.toList_insertAt]
  generalize hp : SetTable.below t.place j = p at b1 b2 b3
  unfold Free at f
  rw [hp] at f
  refine List.pairwise_append.mpr ⟨List.Pairwise.sublist (List.take_sublist _ _) r, List.pairwise_cons.mpr ⟨fun a ha => ?_, List.Pairwise.sublist (List.drop_sublist _ _) r⟩, fun a ha b hb => ?_⟩
  · obtain ⟨i, hi⟩ := List.mem_iff_getElem?.mp ha
    rw [List.getElem?_drop, Array.getElem?_toList] at hi
    have h1 := b3 (p + i) a (by omega) hi
    rcases Nat.lt_or_ge j a with z | z
    · exact z
    · exfalso
      have e : a = j := by omega
      subst e
      rcases Nat.eq_zero_or_pos i with z0 | z0
      · subst z0; exact f (by simpa using hi)
      · obtain ⟨c, hc⟩ := at_some (xs := t.place) (i := p) (by
          rcases Nat.lt_or_ge p t.place.size with q | q
          · exact q
          · rw [Array.getElem?_eq_none (by omega)] at hi; cases hi)
        have h2 := b3 p c (Nat.le_refl _) hc
        have h3 := r.lt (show p < p + i by omega) hc hi
        omega
  · have hlt : a < j := by
      obtain ⟨i, hi⟩ := List.mem_iff_getElem?.mp ha
      have il : i < p := by have := (List.getElem?_eq_some_iff.mp hi).1; simp at this; omega
      rw [List.getElem?_take_of_lt il, Array.getElem?_toList] at hi
      exact b2 i a il hi
    rcases List.mem_cons.mp hb with rfl | hb
    · exact hlt
    · obtain ⟨i, hi⟩ := List.mem_iff_getElem?.mp hb
      rw [List.getElem?_drop, Array.getElem?_toList] at hi
      have := b3 (p + i) b (by omega) hi
      omega
theorem slot_free {t : SetTable} {j : Nat} (h : t.slot j = .empty ∨ t.slot j = .dummy) : Free t j := by
  intro e
  unfold SetTable.slot at h
  simp [e] at h
theorem probe_free {t : SetTable} {ha : Nat → Int} {h : Int} : ∀ (f : Nat) (p : SetTable.Probe), (∀ d, p.dummy = some d → Free t d) → ∀ j d, SetTable.probe.go t ha h f p = some (.empty j d) → Free t j ∧ ∀ d', d = some d' → Free t d'
  | 0, p, _, j, d, e => by unfold SetTable.probe.go at e; cases e
  | f + 1, p, hp, j, d, e => by
    unfold SetTable.probe.go at e
    split at e
    · rename_i hs
      cases e
      exact ⟨slot_free (.inl hs), hp⟩
    · rename_i hs
      refine probe_free f _ (fun d' hd => ?_) j d e
      have : (t.advance { p with dummy := some p.j }).dummy = some p.j := by unfold SetTable.advance; split <;> rfl
      rw [this] at hd; cases hd
      exact slot_free (.inr hs)
    · rename_i i hs
      split at e
      · cases e
      · refine probe_free f _ (fun d' hd => ?_) j d e
        have : (t.advance p).dummy = p.dummy := by unfold SetTable.advance; split <;> rfl
        rw [this] at hd
        exact hp d' hd
theorem freeSlot_free {t : SetTable} {h : Int} {j : Nat} {b : Bool} (e : t.freeSlot h = some (j, b)) : Free t j := by
  unfold SetTable.freeSlot at e
  split at e
  · rename_i j' d hp
    cases e
    have := probe_free _ _ (fun d hd => by cases hd) j' d hp
    cases d with
    | none => exact this.1
    | some d' => exact this.2 d' rfl
  · cases e
/-- the table's places rise; led as it was made -/
structure TabR (b : Bool) (t : SetTable) : Prop where
  ris : Ris t.place
  led : t.led = b
theorem ris_range (n : Nat) : Ris (Array.range n) := by
  unfold Ris
  rw [Array.toList_range]
  exact List.pairwise_lt_range
theorem TabR.standIn {b : Bool} {t : SetTable} (T : TabR b t) (n : Nat) : TabR b (t.standIn n) := ⟨ris_range n, T.led⟩
theorem TabR.layNew {b : Bool} {t : SetTable} (T : TabR b t) (es : Array (Int × Value)) (h : Int) (x : Value) : TabR b (PySem.layNew t es h x).2.1 := by
  unfold PySem.layNew
  split
  · rename_i slot wd e
    have T1 : TabR b (t.put slot).1 := ⟨put_ris T.ris (freeSlot_free e), T.led⟩
    show TabR b ((t.put slot).1.orStandIn _)
    unfold SetTable.orStandIn
    split
    · exact T1
    · exact T1.standIn _
  · exact T.standIn _
theorem TabR.relay {b : Bool} {t : SetTable} (T : TabR b t) (es : Array (Int × Value)) (n : Nat) : TabR b (relayAll t es n).2.1 := by
  unfold relayAll
  split
  · rename_i t' order e
    have T1 : TabR b t' := by
      unfold SetTable.relaid SetTable.laid at e
      simp only [bind, Option.bind] at e
      split at e
      · cases e
      · rename_i ow _
        cases e
        refine ⟨?_, T.led⟩
        unfold Ris
        show List.Pairwise (· < ·) (List.map (·.1) (List.filterMap (fun j => (ow.getD j none).map (j, ·)) (List.range _)))
        rw [List.pairwise_map]
        refine List.Pairwise.filterMap _ (R := (· < ·)) (fun a a' haa c hc c' hc' => ?_) List.pairwise_lt_range
        obtain ⟨u, _, rfl⟩ := Option.map_eq_some_iff.mp hc
        obtain ⟨u', _, rfl⟩ := Option.map_eq_some_iff.mp hc'
        exact haa
    dsimp only
    split
    · exact T1
    · exact T.standIn _
  · exact T.standIn _
theorem TabR.fresh (b : Bool) : TabR b (.fresh 0 0 b) := ⟨List.Pairwise.nil, rfl⟩
/-- the walk by places -/
theorem below_next {xs : Array Nat} (r : Ris xs) {i p : Nat} (e : xs[i]? = some p) : SetTable.below xs (p + 1) = i + 1 := by
  obtain ⟨b1, b2, b3⟩ := below_spec r (p + 1)
  rcases Nat.lt_or_ge i (SetTable.below xs (p + 1)) with z | z
  · rcases Nat.lt_or_ge (i + 1) (SetTable.below xs (p + 1)) with y | y
    · obtain ⟨c, hc⟩ := at_some (xs := xs) (i := i + 1) (by omega)
      have h1 := b2 (i + 1) c y hc
      have h2 := r.lt (Nat.lt_succ_self i) e hc
      omega
    · omega
  · have := b3 i p z e
    omega
theorem below_zero {xs : Array Nat} (r : Ris xs) : SetTable.below xs 0 = 0 := by
  obtain ⟨b1, b2, b3⟩ := below_spec r 0
  rcases Nat.eq_zero_or_pos (SetTable.below xs 0) with z | z
  · exact z
  · obtain ⟨c, hc⟩ := at_some (xs := xs) (i := 0) (by omega)
    have := b2 0 c z hc
    omega
end Z
set_option Elab.async false
set_option linter.all false
set_option maxRecDepth 100000
set_option maxHeartbeats 4000000
/-! a set of ints whose table is known -/
namespace Z
open PySem PyProof.Rows L2
def vI : Value → Int
  | .int n _ => n
  | _ => 0
structure ElR (prog : Program) (w : World) (es : List (Int × Value)) : Prop where
  is : ∀ e ∈ es, ∃ n t, e.2 = .int n t ∧ e.1 = (intKind prog w).hash n
def keys (es : List (Int × Value)) : List Int := es.map fun e => vI e.2
def SetR (prog : Program) (w : World) (b : Bool) (h : Heap) (a : Addr) (ks : List Int) : Prop :=
  ∃ o es ep t, h.get? a = some o ∧ o.ExactSet ∧ o.data = .set es ep t ∧ ElR prog w es.toList ∧ (keys es.toList).Perm ks ∧ es.size < scanBound ∧ t.fits es.size = true ∧ TabR b t
section
variable {prog : Program} {w : World}
theorem ElR.elems {es : List (Int × Value)} (E : ElR prog w es) : ElemsOf (intKind prog w) es := fun e he => by
  obtain ⟨n, t, e1, e2⟩ := E.is e he
  exact ⟨⟨n, by rw [e1]; exact intKind_is _ _ _ _, e2⟩, by rw [e1]; rfl⟩
theorem ElR.perm {es es' : List (Int × Value)} (E : ElR prog w es) (p : es'.Perm es) : ElR prog w es' := ⟨fun e he => E.is e (p.mem_iff.mp he)⟩
theorem ElR.has {es : List (Int × Value)} (E : ElR prog w es) (k : Int) : (∃ e ∈ es, (intKind prog w).is k e.2 = true) ↔ k ∈ keys es := by
  constructor
  · rintro ⟨e, he, hk⟩
    obtain ⟨n, t, e1, _⟩ := E.is e he
    have : k = n := (intKind prog w).inj e.2 k n hk (by rw [e1]; exact intKind_is _ _ _ _)
    subst this
    exact List.mem_map.mpr ⟨e, he, by rw [e1]; rfl⟩
  · intro h
    obtain ⟨e, he, hk⟩ := List.mem_map.mp h
    obtain ⟨n, t, e1, _⟩ := E.is e he
    rw [e1] at hk
    have : n = k := hk
    subst this
    exact ⟨e, he, by rw [e1]; exact intKind_is _ _ _ _⟩
theorem SetR.keep {b : Bool} {h h' : Heap} {a : Addr} {ks : List Int} (S : SetR prog w b h a ks) (k : ∀ o, h.get? a = some o → h'.get? a = some o) : SetR prog w b h' a ks := by
  obtain ⟨o, es, ep, t, e, r⟩ := S
  exact ⟨o, es, ep, t, k o e, r⟩
theorem SetR.store {b : Bool} {h : Heap} {a : Addr} {o : Obj} {es es' : Array (Int × Value)} {ep : Nat} {t t' : SetTable} {ks : List Int} (ho : h.get? a = some o) (hx : o.ExactSet) (hd : o.data = .set es ep t)
    (E : ElR prog w es'.toList) (p : (keys es'.toList).Perm ks) (hb : es'.size < scanBound) (hf : t'.fits es'.size = true) (T : TabR b t') :
    (h.update a (Obj.putSet es' t')).get? a = some { o with data := .set es' (ep + 1) t' } ∧ SetR prog w b (h.update a (Obj.putSet es' t')) a ks := by
  have e := Heap.get?_update_self (Obj.putSet es' t') ho (by rw [putSet_of es' t' hd]; rfl)
  rw [putSet_of es' t' hd] at e
  exact ⟨e, _, es', ep + 1, t', e, hx, rfl, E, p, hb, hf, T⟩
end
section
variable {prog : Program} {w : World} {A : Around} {E : Value → Shared → Prop} {s : Shared}
theorem tail_R {b : Bool} {g : Bool → Sem Unit} (hg : ∀ (c : Bool) (s₁ : Shared) (Q' : Unit → Shared → Prop), Q' () s₁ → wpAny (model prog w) A (g c) Q' E s₁)
    {a : Addr} {o : Obj} {es es1 : Array (Int × Value)} {ep : Nat} {t t2 : SetTable} {ks : List Int} (ho : s.heap.get? a = some o) (hx : o.ExactSet) (hd : o.data = .set es ep t)
    (E1 : ElR prog w es1.toList) (p1 : (keys es1.toList).Perm ks) (hb1 : es1.size < scanBound) (hf2 : t2.fits es1.size = true) (T2 : TabR b t2) {wd : Bool} {R : Option Bool → Shared → Prop}
    (h : ∀ h', Heap.SameBut a s.heap h' → SetR prog w b h' a ks → R (some true) { s with heap := h' }) :
    wpAny (model prog w) A (storeSet a es1 t2 >>= fun _ => if (!wd && t2.tooFull) = true then g (relayAll t2 es1 (SetTable.grown es1.size)).2.2 >>= fun _ => storeSet a (relayAll t2 es1 (SetTable.grown es1.size)).1 (relayAll t2 es1 (SetTable.grown es1.size)).2.1 >>= fun _ => pure (some true) else pure (some true)) R E s := by
  refine wpAny_bind (wpAny_storeSet_of ho hd ?_ (fits_of_scanBound hb1))
  obtain ⟨o1, S1⟩ := SetR.store ho hx hd E1 p1 hb1 hf2 T2
  have sb1 := Heap.SameBut.update s.heap a (Obj.putSet es1 t2)
  by_cases hc : (!wd && t2.tooFull) = true
  · rw [if_pos hc]
    have pp := relayAll_perm t2 es1 (SetTable.grown es1.size)
    have ff := relayAll_fits t2 es1 (SetTable.grown es1.size)
    have TT := T2.relay es1 (SetTable.grown es1.size)
    generalize relayAll t2 es1 (SetTable.grown es1.size) = q at pp ff TT
    obtain ⟨es2, t3, gv⟩ := q
    dsimp only at pp ff TT ⊢
    have z2 : es2.size = es1.size := by rw [← Array.length_toList, pp.length_eq, Array.length_toList]
    refine wpAny_bind (hg _ _ _ (wpAny_bind (wpAny_storeSet_of o1 rfl ?_ (fits_of_scanBound (by rw [z2]; exact hb1)))))
    obtain ⟨_, S2⟩ := SetR.store (b := b) (ks := ks) o1 hx rfl (E1.perm pp) ((pp.map _).trans p1) (by rw [z2]; exact hb1) ff TT
    exact wpAny_pure (h _ (sb1.trans (Heap.SameBut.update _ a _)) S2)
  · rw [if_neg hc]
    exact wpAny_pure (h _ sb1 S1)
theorem add_R {b : Bool} {a : Addr} {ks : List Int} {k : Int} {tk : Tok} {Q : Bool → Shared → Prop} (S : SetR prog w b s.heap a ks) (hroom : ks.length + 1 < scanBound)
    (h : ∀ (r : Bool) h', Heap.SameBut a s.heap h' → SetR prog w b h' a (step_dedup ks k) → Q r { s with heap := h' }) :
    wpAny (model prog w) A (setAddHashed a (.int k tk) ((intKind prog w).hash k)) Q E s := by
  obtain ⟨o, es, ep, t, ho, hx, hd, El, pk, hb, hf, T⟩ := S
  have hsz : es.size = ks.length := by rw [← pk.length_eq]; simp [keys]
  have hk : (intKind prog w).is k (.int k tk) = true := intKind_is _ _ _ _
  unfold setAddHashed setAddHashedIn
  refine wpAny_holding (wpAny_bind (wpAny_setState_of ho hd hf ?_))
  dsimp only
  rw [byScan_of (knd := intKind prog w) rfl hb El.elems, if_pos rfl]
  unfold setAddByScan
  refine wpAny_bind (wpAny_bind (wpAny_rule (wpAny_bind (wpAny_setScan_of hk ho hd hf El.elems ?_))))
  have hm := El.has k
  cases hr : List.findIdx? (fun e => (intKind prog w).is k e.2) es.toList with
  | some j =>
    dsimp only
    obtain ⟨hj, hpj, _⟩ := List.findIdx?_eq_some_iff_getElem.mp hr
    have mem : k ∈ ks := pk.mem_iff.mp (hm.mp ⟨es.toList[j], List.getElem_mem hj, hpj⟩)
    have sd : step_dedup ks k = ks := by
      unfold step_dedup
      rw [if_pos (List.any_eq_true.mpr ⟨k, mem, by simp⟩)]
    have q := h false s.heap (Heap.SameBut.refl a s.heap) (by rw [sd]; exact ⟨o, es, ep, t, ho, hx, hd, El, pk, hb, hf, T⟩)
    exact wpAny_pure (wpAny_pure q)
  | none =>
    dsimp only
    have nmem : k ∉ ks := fun z => by
      obtain ⟨e, he, hp⟩ := hm.mpr (pk.mem_iff.mpr z)
      have := List.findIdx?_eq_none_iff.mp hr e he
      rw [hp] at this; exact Bool.noConfusion this
    have sd : step_dedup ks k = ks ++ [k] := by
      unfold step_dedup
      rw [if_neg (by simp only [List.any_eq_true, not_exists]; rintro x ⟨h1, h2⟩; rw [eq_of_beq h2] at h1; exact nmem h1)]
    have hgw : ∀ (c : Bool) (s₁ : Shared) (Q' : Unit → Shared → Prop), Q' () s₁ → wpAny (model prog w) A (match c with | true => rule "set.scan.the-table-gave-way" | false => pure ()) Q' E s₁ := fun c s₁ Q' hq => by
      cases c
      · exact wpAny_pure hq
      · exact wpAny_rule hq
    have p1 := layNew_perm t es ((intKind prog w).hash k) (.int k tk)
    have f1 := layNew_fits t es ((intKind prog w).hash k) (.int k tk)
    have T1 := T.layNew es ((intKind prog w).hash k) (.int k tk)
    generalize layNew t es ((intKind prog w).hash k) (.int k tk) = L at p1 f1 T1 ⊢
    obtain ⟨es1, t1, wd, gave⟩ := L
    dsimp only at p1 f1 T1 ⊢
    rw [Array.toList_push] at p1
    have E0 : ElR prog w (es.toList ++ [((intKind prog w).hash k, Value.int k tk)]) := ⟨fun e he => by
      rcases List.mem_append.mp he with z | z
      · exact El.is e z
      · rw [List.mem_singleton.mp z]; exact ⟨k, tk, rfl, rfl⟩⟩
    have E1 := E0.perm p1
    have pk1 : (keys es1.toList).Perm (ks ++ [k]) := by
      refine (p1.map _).trans ?_
      rw [List.map_append]
      exact pk.append_right [k]
    have z1 : es1.size < scanBound := by
      have := pk1.length_eq
      simp [keys] at this
      omega
    refine wpAny_bind (hgw gave _ _ ?_)
    have fin : ∀ h', Heap.SameBut a s.heap h' → SetR prog w b h' a (ks ++ [k]) → Q true { s with heap := h' } := fun h' sb S' => h true h' sb (by rw [sd]; exact S')
    by_cases hpl : t1.plain = true
    · rw [if_pos hpl]
      refine wpAny_bind ?_
      rw [hashByValue_scannable 8 rfl]
      refine wpAny_pure ?_
      refine tail_R hgw ho hx hd E1 pk1 z1 (b := b) ?_ ?_ ?_
      · rw [if_pos (show plainKind (Value.int k tk) = true from rfl)]; exact f1
      · rw [if_pos (show plainKind (Value.int k tk) = true from rfl)]; exact T1
      · intro h' sb S'; exact wpAny_pure (fin h' sb S')
    · rw [if_neg hpl]
      refine wpAny_bind (wpAny_pure ?_)
      rw [if_pos rfl]
      refine tail_R hgw ho hx hd E1 pk1 z1 f1 T1 fun h' sb S' => wpAny_pure (fin h' sb S')
end
end Z
set_option Elab.async false
set_option linter.all false
set_option maxRecDepth 100000
set_option maxHeartbeats 4000000
/-! set(xs) of ints -/
namespace Z
open PySem PyProof.Rows L2
section
variable {prog : Program} {w : World} {A : Around} {R : Result → Shared → Prop} {I : Addr} {fp wr : List Addr} {G : Array GenState → Array GenState → Prop} {n : Nat} {P : Nat → Value → Prop} {St : Nat → Shared → Prop}
theorem upd_R {b : Bool} (W : WalksS prog w A.in1 I fp wr G n P St) (S : Addr) (hSf : S ∉ fp) (val : Nat → Int) (hval : ∀ i v, P i v → ∃ t, v = .int (val i) t) (hb : n + 1 < scanBound) :
    ∀ (k i : Nat) (s : Shared), n - i = k → i ≤ n → St i s → SetR prog w b s.heap S (firstMet val i) →
      (∀ s', Moved (S :: wr) G s s' → SetR prog w b s'.heap S (firstMet val n) → R (.ok (.ret .none)) s') →
      codeAny (model prog w) A (.builtin "set.update.loop" ⟨[.ref S, .ref I], []⟩) R s := by
  have hSw : S ∉ wr := fun z => hSf (W.sub _ z)
  have hsub : ∀ c ∈ wr, c ∈ S :: wr := fun c hc => List.mem_cons_of_mem _ hc
  intro k
  induction k with
  | zero =>
    intro i s hk hi hst hS hR
    have hin : i = n := by omega
    subst hin
    refine codeAny_builtin PyProof.Rows.F.entry_set_update_loop ?_
    rw [Around.under_plainId PyProof.Rows.F.plain_set_update_loop _]
    show wpAny _ A.in1 (pyNext (.ref I) >>= _) _ _ s
    refine wpAny_bind (W.done s _ _ hst fun s' hm => wpAny_pure ?_)
    exact hR s' (hm.mono hsub) (hS.keep fun o e => hm.heap S _ hSw e)
  | succ k ih =>
    intro i s hk hi hst hS hR
    have hlt : i < n := by omega
    refine codeAny_builtin PyProof.Rows.F.entry_set_update_loop ?_
    rw [Around.under_plainId PyProof.Rows.F.plain_set_update_loop _]
    show wpAny _ A.in1 (pyNext (.ref I) >>= _) _ _ s
    refine wpAny_bind (W.item i s _ _ hlt hst fun v s' hP hst' hm => ?_)
    obtain ⟨t, rfl⟩ := hval i v hP
    have hS' : SetR prog w b s'.heap S (firstMet val i) := hS.keep fun o e => hm.heap S _ hSw e
    show wpAny _ A.in1 (holding [Value.int (val i) t] (setAdd S (.int (val i) t)) >>= _) _ _ s'
    refine wpAny_bind (wpAny_holding ?_)
    unfold setAdd
    refine wpAny_holding (wpAny_bind ((intKind prog w).pyHash (k := val i) (intKind_is _ _ _ _) ?_))
    have hroom : (firstMet val i).length + 1 < scanBound := by have := firstMet_length_le val i; omega
    refine add_R (b := b) (s := { s' with toks := s'.toks + 1 }) hS' hroom fun r h' sb S2 => ?_
    rw [← firstMet_succ] at S2
    refine wpAny_pure ⟨plainId_quiet PyProof.Rows.F.plain_set_update_loop _, ih (i + 1) _ (by omega) hlt (W.frame _ s' _ _ hst' (Nat.le_succ _) fun c hc o e => ?_) S2 fun s'' hm'' hS'' => ?_⟩
    · rw [sb.2 c (fun z : c = S => hSf (by rw [← z]; exact hc))]; exact e
    · refine hR s'' (Moved.trans W.gtrans ((hm.mono hsub).then_heap (Nat.le_succ _) fun c o hc e => ?_) hm'') hS''
      rw [sb.2 c (fun z : c = S => hc (by rw [z]; exact List.mem_cons_self))]; exact e
end
/-- whether a set is led -/
def ledW (w : World) : Bool := !w.params.followText "set-order"
abbrev set0 (b : Bool) : Obj := { cls := .type "set", dict := none, data := .set #[] 0 (.fresh 0 0 b) }
section
variable {prog : Program} {w : World} {A : Around} {E : Value → Shared → Prop} {s : Shared}
theorem new_R (a : Value) {Q₁ : Value → Shared → Prop} (h : Q₁ (.ref s.heap.objs.size) { s with heap := s.heap.push (set0 (ledW w)) }) :
    codeAny (model prog w) A (.call (.builtin "set.__new__") ⟨[.type "set", a], []⟩) (wants Q₁ E) s := by
  refine codeAny_of_tree ?_
  show wpAny _ A.in1 (checkBuiltinCall "set.__new__" ⟨[.type "set", a], []⟩ >>= fun _ => again (.builtin "set.__new__" ⟨[.type "set", a], []⟩)) _ _ s
  refine wpAny_bind (wpAny_of_eq (PySem.F.newCall_set_1 a) (wpAny_pure ⟨plainId_quiet PySem.F.plain_set_new _, codeAny_builtin PySem.F.entry_set_new ?_⟩))
  rw [Around.under_plainId PySem.F.plain_set_new _]
  unfold Builtin.«set.__new__» Builtin.Frozenset.newClass
  have hsub := PySem.sub_set_self
  obtain ⟨hp, g, d, tk, os⟩ := s
  dsimp only
  wp_walk
  refine wpAny_askSetting (wpAny_pure ?_)
  dsimp only
  simp only [newObj]
  exact wpAny_bind (wpAny_alloc (wpAny_pure (wpAny_pure h)))
end
end Z
set_option Elab.async false
set_option linter.all false
set_option maxRecDepth 100000
set_option maxHeartbeats 8000000
namespace Z
open PySem PyProof.Rows L2
section
variable {prog : Program} {w : World} {A : Around} {E : Value → Shared → Prop} {s : Shared}
theorem init_R {l : Addr} {items : Array Value} {ns : List Int} (hh : A.handled = none) (hl : s.heap.IsList l items) (hi : IntsAre items.toList ns) (hb : items.size + 1 < scanBound) {s0 : Shared} (hs0 : s0 = { s with heap := s.heap.push (set0 (ledW w)) })
    {R : Result → Shared → Prop} (hR : ∀ (h' : Heap) (tk : Nat), SetR prog w (ledW w) h' s.heap.objs.size (firstMet (fun i => ns.getD i 0) items.size) → (∀ c o, c < s.heap.objs.size → s.heap.get? c = some o → h'.get? c = some o) → R (.ok (.ret .none)) { s with heap := h', toks := tk }) :
    codeAny (model prog w) A (.call (.builtin "set.__init__") ⟨[.ref s.heap.objs.size, .ref l], []⟩) R s0 := by
  subst hs0
  have hS : (s.heap.push (set0 (ledW w))).get? s.heap.objs.size = some (set0 (ledW w)) := Heap.get?_push_size _ rfl
  have hT : Shared.TypeIs { s with heap := s.heap.push (set0 (ledW w)) } (.ref s.heap.objs.size) "set" := ⟨_, hS, rfl⟩
  refine codeAny_call_builtin PySem.F.called_set.init.plain PySem.F.entry_set_init (check_set_init_1 hT ?_)
  obtain ⟨ol, hol, hcl, nl, hdl⟩ := hl
  obtain ⟨ocls, odict, odata, oslots⟩ := ol
  simp only at hcl hdl
  subst hcl; subst hdl
  have hol' : (s.heap.push (set0 (ledW w))).get? l = some { cls := .type "list", dict := odict, data := .seq items nl, slots := oslots } := Heap.get?_push_of_some _ hol
  have x1 := PySem.F.sub_list_set
  have x2 := PySem.F.sub_list_frozenset
  have x3 : (Value.type "list" == Value.type "dict") = false := by decide
  have l1 : (s.heap.push (set0 (ledW w))).IsList l items := ⟨_, hol', rfl, nl, rfl⟩
  unfold Builtin.«set.__init__» noKeywords Builtin.Frozenset.updateFrom
  generalize hPI : pyIter = PI
  wp_walk
  subst hPI
  refine wpAny_pyIter_list l1 (wpAny_bind (wpAny_runValue ?_))
  have lS : l < s.heap.objs.size := Heap.lt_size hol
  have z : (s.heap.push (set0 (ledW w))).objs.size = s.heap.objs.size + 1 := Heap.size_push _ _
  refine upd_R (b := ledW w) ((Walks.list (by simp [hh]) _ l (by rw [z]; exact Nat.ne_of_lt (Nat.lt_succ_of_lt lS)) items).toS) s.heap.objs.size (by rw [z]; simp only [List.mem_cons, List.not_mem_nil, or_false, not_or]; exact ⟨Nat.ne_of_lt (Nat.lt_succ_self _), Nat.ne_of_gt lS⟩) (fun i => ns.getD i 0) (fun i v hv => IntsAre.int_at hi i v (by rw [Array.getElem?_toList]; exact hv)) hb (items.size - 0) 0 _ (by omega) (Nat.zero_le _)
    ⟨⟨_, Heap.get?_push_size _ rfl, rfl, rfl⟩, l1.push _⟩ ?_ ?_
  · exact ⟨set0 (ledW w), #[], 0, _, Heap.get?_push_of_some _ hS, ⟨rfl, rfl, rfl⟩, rfl, ⟨fun e he => by simp at he⟩, List.Perm.nil, by decide, by rfl, TabR.fresh _⟩
  · intro s' hm hS'
    obtain ⟨h', g', d', tk', os'⟩ := s'
    have eg : g' = s.gens := hm.gens
    have ed : d' = s.drawn := hm.drawn
    have eo : os' = s.os := hm.os
    subst eg; subst ed; subst eo
    show wpAny _ _ _ _ _ _
    refine wpAny_pure ?_
    show wpAny _ _ (ret Value.none) _ _ _
    refine wpAny_pure (hR h' tk' hS' fun c o hc e => ?_)
    exact hm.heap c o (by rw [z]; simp only [List.mem_cons, List.not_mem_nil, or_false, not_or]; exact ⟨Nat.ne_of_lt hc, Nat.ne_of_lt (Nat.lt_succ_of_lt hc)⟩) (Heap.get?_push_of_some _ (Heap.get?_push_of_some _ e))
theorem set_list_R {l : Addr} {items : Array Value} {ns : List Int} {Q : Value → Shared → Prop} (hh : A.handled = none) (hl : s.heap.IsList l items) (hi : IntsAre items.toList ns) (hb : items.size + 1 < scanBound)
    (h : ∀ (h' : Heap) (tk : Nat), SetR prog w (ledW w) h' s.heap.objs.size (firstMet (fun i => ns.getD i 0) items.size) → (∀ c o, c < s.heap.objs.size → s.heap.get? c = some o → h'.get? c = some o) → Q (.ref s.heap.objs.size) { s with heap := h', toks := tk }) :
    wpAny (model prog w) A (call (.type "set") [.ref l]) Q E s := by
  obtain ⟨c, tl, hmro⟩ := PySem.F.called_set.mro
  have hmade := PySem.F.called_set.made
  have hsub := PySem.F.called_set.sub
  refine wpAny_call (codeAny_of_tree ?_)
  show wpAny _ _ (callAny (.type "set") _) _ _ _
  refine wpAny_pure ⟨Code.quiet_builtin _ (by decide +kernel), codeAny_builtin PySem.F.entry_type_call ?_⟩
  rw [Around.under_plain (weight_type_call_type "set" [.ref l] []) rfl]
  have h1 := PySem.F.called_set.notType
  have h2 := PySem.F.called_set.canCreate
  have hct := PySem.F.typeCall_set_1 (.ref l)
  repeat (any_goals (first | assumption | wp_step))
  refine codeAny_mono (new_R (.ref l) (E := E) (Q₁ := fun obj s₁ => obj = .ref s.heap.objs.size ∧ s₁ = { s with heap := s.heap.push (set0 (ledW w)) }) ⟨rfl, rfl⟩) fun r s₁ hr => ?_
  cases r with
  | error e => exact hr
  | ok fl =>
    cases fl with
    | ret obj =>
      obtain ⟨rfl, e0⟩ := hr
      have hS : s₁.heap.get? s.heap.objs.size = some (set0 (ledW w)) := by rw [e0]; exact Heap.get?_push_size _ rfl
      have hT : Shared.TypeIs s₁ (.ref s.heap.objs.size) "set" := ⟨_, hS, rfl⟩
      have hli := PySem.F.called_set.init.lookup
      have hbi := PySem.F.called_set.init.bind (.ref s.heap.objs.size)
      repeat (any_goals (first | assumption | wp_step))
      refine codeAny_mono (init_R (R := fun r s₂ => r = .ok (.ret .none) ∧ ∃ h' tk, s₂ = { s with heap := h', toks := tk } ∧ SetR prog w (ledW w) h' s.heap.objs.size (firstMet (fun i => ns.getD i 0) items.size) ∧ ∀ c o, c < s.heap.objs.size → s.heap.get? c = some o → h'.get? c = some o) (by simp [hh]) hl hi hb e0 fun h' tk S' k' => ⟨rfl, h', tk, rfl, S', k'⟩) fun r₂ s₂ hr₂ => ?_
      obtain ⟨rfl, h', tk, rfl, S', k'⟩ := hr₂
      repeat (any_goals (first | assumption | wp_step))
      exact h _ _ S' k'
    | _ => exact hr.elim
end
end Z
set_option Elab.async false
set_option linter.all false
set_option maxRecDepth 100000
set_option maxHeartbeats 8000000
/-! a walk over a set -/
namespace Z
open PySem PyProof.Rows L2
theorem sit_next : Slot "set_iterator" "__next__" "set_iterator.__next__" :=
  .of (owner := "set_iterator") (n := "__next__") (by rw [typeLookup_type, builtinLookup_eq_fast]; kernel_rfl) (by decide +kernel) (by decide +kernel) (by decide +kernel) (by first | exact .inl (by decide +kernel) | exact .inr (by decide +kernel)) (by rw [isSubtype_type]; kernel_rfl)
theorem sit_iter : Slot "set_iterator" "__iter__" "set_iterator.__iter__" :=
  .of (owner := "set_iterator") (n := "__iter__") (by rw [typeLookup_type, builtinLookup_eq_fast]; kernel_rfl) (by decide +kernel) (by decide +kernel) (by decide +kernel) (by first | exact .inl (by decide +kernel) | exact .inr (by decide +kernel)) (by rw [isSubtype_type]; kernel_rfl)
theorem sit_entry : entryFor table "set_iterator.__next__" = some Builtin.«set_iterator.__next__» := entryFor_of_tree (by kernel_rfl)
theorem sit_entry_iter : entryFor table "set_iterator.__iter__" = some Builtin.«dict_keyiterator.__iter__» := entryFor_alias (id' := "dict_keyiterator.__iter__") (by kernel_rfl) rfl (by decide +kernel) (by kernel_rfl)
theorem set_entry_iter : entryFor table "set.__iter__" = some Builtin.«frozenset.__iter__» := entryFor_alias (id' := "frozenset.__iter__") (by kernel_rfl) rfl (by decide +kernel) (by kernel_rfl)
theorem sit_owner : Manifest.owners.lookup (String.ofList ['r', 'o', 't', 'a', 'r', 'e', 't', 'i', '_', 't', 'e', 's'].reverse) = some Manifest.sig_set_iterator := by kernel_rfl
theorem sit_args (a : Value) : argsOk "set_iterator.__next__" ⟨[a], []⟩ := by
  unfold argsOk; rw [signature?_of (id := "set_iterator.__next__") (n := ['_', '_', 't', 'x', 'e', 'n', '_', '_']) (o := ['r', 'o', 't', 'a', 'r', 'e', 't', 'i', '_', 't', 'e', 's']) (by kernel_rfl) sit_owner]; kernel_rfl
theorem sit_args_iter (a : Value) : argsOk "set_iterator.__iter__" ⟨[a], []⟩ := by
  unfold argsOk; rw [signature?_of (id := "set_iterator.__iter__") (n := ['_', '_', 'r', 'e', 't', 'i', '_', '_']) (o := ['r', 'o', 't', 'a', 'r', 'e', 't', 'i', '_', 't', 'e', 's']) (by kernel_rfl) sit_owner]; kernel_rfl
def SIt (h : Heap) (I : Addr) (f0 : Value) (i : Nat) (a : Addr) (n ep : Nat) : Prop := ∃ t1 t2 t3, h.get? I = some { cls := .type "set_iterator", data := .fields #[f0, .int (i : Int) t1, .ref a, .int (n : Int) t2, .int (ep : Int) t3] }
theorem SIt.ty {s : Shared} {I a : Addr} {f0 : Value} {i n ep : Nat} (x : SIt s.heap I f0 i a n ep) : s.TypeIs (.ref I) "set_iterator" := let ⟨_, _, _, e⟩ := x; ⟨_, e, rfl⟩
theorem SIt.keep {h h' : Heap} {I a : Addr} {f0 : Value} {i n ep : Nat} (x : SIt h I f0 i a n ep) (k : ∀ o, h.get? I = some o → h'.get? I = some o) : SIt h' I f0 i a n ep := let ⟨t1, t2, t3, e⟩ := x; ⟨t1, t2, t3, k _ e⟩
section
variable {prog : Program} {w : World} {A : Around} {E : Value → Shared → Prop} {s : Shared} {I a : Addr} {o : Obj} {es : Array (Int × Value)} {ep : Nat} {t : SetTable}
theorem sit_self {f0 : Value} {i n ep : Nat} {Q : Value → Shared → Prop} (x : SIt s.heap I f0 i a n ep) (h : Q (.ref I) s) : wpAny (model prog w) A (pyIter (.ref I)) Q E s := by
  refine wpAny_pyIter_slot x.ty sit_iter (wpAny_call_entry sit_iter x.ty sit_entry_iter ?_ (sit_args_iter _))
  show wpAny _ _ (ret (.ref I)) _ _ s
  exact wpAny_pure ⟨_, rfl, "set_iterator", _, x.ty, sit_next.lookup, h⟩
/-- stop -/
theorem sit_stop {Q : Option Value → Shared → Prop} {s' : Shared} (hh : A.handled = none) (hQ : ∀ h', (∀ b u, s'.heap.get? b = some u → h'.get? b = some u) → Q none { s' with heap := h' }) :
    wpAny (model prog w) A.in1 (newExc (.type "StopIteration") [] >>= fun e => raiseNew e) (fun (f : Fin) s'' => False) (fun e s'' => wpAny (model prog w) A (isInstance e (.type "StopIteration") >>= fun c => if c = true then pure none else throw e) Q E s'') s' := by
  refine wpAny_bind ?_
  simp only [newExc, newTuple]
  refine wpAny_bind (wpAny_newObj_type ?_ (by size_fits))
  refine wpAny_bind (m := firstArgMember _ _) (wpAny_of_eq (a := Value.none) (by first | rfl | (simp only [firstArgMember]; rfl)) ?_)
  refine wpAny_newObj_type ?_ (by size_fits)
  simp only [raiseNew]
  refine wpAny_bind (wpAny_handled ?_)
  rw [show A.in1.handled = none from hh]
  refine wpAny_bind (wpAny_pure (wpAny_throw ?_))
  refine wpAny_bind (wpAny_isInstance (T := "StopIteration") (b := true) ⟨_, Heap.get?_push_size _ rfl, rfl⟩ isSubtype_stop ?_)
  exact wpAny_pure (hQ _ fun b u e => Heap.get?_push_of_some _ (Heap.get?_push_of_some _ e))
end
end Z
set_option Elab.async false
set_option linter.all false
set_option maxRecDepth 100000
set_option maxHeartbeats 8000000
namespace Z
open PySem PyProof.Rows L2
section
variable {prog : Program} {w : World} {A : Around} {E : Value → Shared → Prop} {s : Shared} {I a : Addr} {o : Obj} {es : Array (Int × Value)} {ep : Nat} {t : SetTable}
theorem fields_set {h : Heap} {vs : Array Value} {k : Nat} {x : Value} (e : h.get? I = some { cls := .type "set_iterator", data := .fields vs }) : (h.update I (Obj.mapFields (·.setIfInBounds k x))).get? I = some { cls := .type "set_iterator", data := .fields (vs.setIfInBounds k x) } := Heap.get?_update_self _ e rfl
/-- the next thing, by slots -/
theorem sit_item_int {slot i n : Nat} {u : Tok} {x : Value} {nx : Nat} {Q : Option Value → Shared → Prop} (ho : s.heap.get? a = some o) (hd : o.data = .set es ep t) (hf : t.fits es.size = true) (hn : es.size = n) (hI : I ≠ a)
    (it : SIt s.heap I (.int (slot : Int) u) i a n ep) (hx : ∀ (Q' : Option (Value × Nat) → Shared → Prop) (E' : Value → Shared → Prop), Q' (some (x, nx)) s → wpAny (model prog w) A.in1 (setNext a slot i ep) Q' E' s)
    (hQ : ∀ h', (∀ b u, b ≠ I → s.heap.get? b = some u → h'.get? b = some u) → SIt h' I (.int (nx : Int) 0) (i + 1) a n ep → Q (some x) { s with heap := h' }) :
    wpAny (model prog w) A (pyNext (.ref I)) Q E s := by
  have ty := it.ty
  obtain ⟨t1, t2, t3, hi⟩ := it
  unfold pyNext
  refine wpAny_bind (wpAny_attempt (wpAny_callSpecial?_slot (name := Str.ofString "__next__") ty sit_next (wpAny_call_entry sit_next ty sit_entry ?_ (sit_args _))))
  unfold Builtin.«set_iterator.__next__»
  refine wpAny_bind (wpAny_pure ?_)
  refine wpAny_bind (wpAny_fieldsOf hi rfl ?_)
  show wpAny _ _ (setEntries a >>= _) _ _ s
  refine wpAny_bind (wpAny_setEntries_of ho hd hf ?_)
  rw [if_neg (by rw [hn]; simp)]
  show wpAny _ _ (setNext a (Int.toNat slot) (Int.toNat i) (Int.toNat ep) >>= _) _ _ s
  simp only [Int.toNat_natCast]
  refine wpAny_bind (hx _ _ ?_)
  show wpAny _ _ (setField (.ref I) 0 (rawInt nx) >>= _) _ _ s
  refine wpAny_bind (wpAny_setField hi rfl (by simp) ?_)
  have h1 := fields_set (k := 0) (x := rawInt nx) hi
  refine wpAny_bind (wpAny_setField h1 rfl (by simp) ?_)
  have h2 := fields_set (k := 1) (x := rawInt ((i : Int) + 1)) h1
  refine wpAny_pure ⟨_, rfl, wpAny_pure (hQ _ (fun b u hb e => ?_) ⟨0, t2, t3, ?_⟩)⟩
  · exact (Heap.get?_update_other _ _ (Ne.symm hb)).trans ((Heap.get?_update_other _ _ (Ne.symm hb)).trans e)
  · rw [h2]; simp [rawInt]
theorem sit_done_int {slot i n : Nat} {u : Tok} {Q : Option Value → Shared → Prop} (hh : A.handled = none) (ho : s.heap.get? a = some o) (hd : o.data = .set es ep t) (hf : t.fits es.size = true) (hn : es.size = n) (hI : I ≠ a)
    (it : SIt s.heap I (.int (slot : Int) u) i a n ep) (hx : ∀ (Q' : Option (Value × Nat) → Shared → Prop) (E' : Value → Shared → Prop), Q' none s → wpAny (model prog w) A.in1 (setNext a slot i ep) Q' E' s)
    (hQ : ∀ h', (∀ b u, b ≠ I → s.heap.get? b = some u → h'.get? b = some u) → Q none { s with heap := h' }) :
    wpAny (model prog w) A (pyNext (.ref I)) Q E s := by
  have ty := it.ty
  obtain ⟨t1, t2, t3, hi⟩ := it
  unfold pyNext
  refine wpAny_bind (wpAny_attempt (wpAny_callSpecial?_slot (name := Str.ofString "__next__") ty sit_next (wpAny_call_entry sit_next ty sit_entry ?_ (sit_args _))))
  unfold Builtin.«set_iterator.__next__»
  refine wpAny_bind (wpAny_pure ?_)
  refine wpAny_bind (wpAny_fieldsOf hi rfl ?_)
  show wpAny _ _ (setEntries a >>= _) _ _ s
  refine wpAny_bind (wpAny_setEntries_of ho hd hf ?_)
  rw [if_neg (by rw [hn]; simp)]
  show wpAny _ _ (setNext a (Int.toNat slot) (Int.toNat i) (Int.toNat ep) >>= _) _ _ s
  simp only [Int.toNat_natCast]
  refine wpAny_bind (hx _ _ ?_)
  show wpAny _ _ (setField (.ref I) 2 .none >>= _) _ _ s
  refine wpAny_bind (wpAny_setField hi rfl (by simp) ?_)
  refine wpAny_mono (sit_stop (A := A) (Q := Q) (E := E) hh fun h' k => hQ h' fun b u hb e => k b u ((Heap.get?_update_other _ _ (Ne.symm hb)).trans e)) (fun _ _ z => z.elim) fun e s' z => z
/-- the next thing, by a drawn order -/
theorem sit_item_tup {T : Addr} {ot : Obj} {ps : Array Value} {m pl i n : Nat} {u : Tok} {x : Value} {hs : Int} {Q : Option Value → Shared → Prop} (ho : s.heap.get? a = some o) (hd : o.data = .set es ep t) (hf : t.fits es.size = true) (hn : es.size = n)
    (hT : s.heap.get? T = some ot) (hTd : ot.data = .seq ps m) (it : SIt s.heap I (.ref T) i a n ep) (hp : ps[i]? = some (.int (pl : Int) u)) (hx : es[pl]? = some (hs, x))
    (hQ : ∀ h', (∀ b u, b ≠ I → s.heap.get? b = some u → h'.get? b = some u) → SIt h' I (.ref T) (i + 1) a n ep → Q (some x) { s with heap := h' }) :
    wpAny (model prog w) A (pyNext (.ref I)) Q E s := by
  have ty := it.ty
  obtain ⟨t1, t2, t3, hi⟩ := it
  unfold pyNext
  refine wpAny_bind (wpAny_attempt (wpAny_callSpecial?_slot (name := Str.ofString "__next__") ty sit_next (wpAny_call_entry sit_next ty sit_entry ?_ (sit_args _))))
  unfold Builtin.«set_iterator.__next__»
  refine wpAny_bind (wpAny_pure ?_)
  refine wpAny_bind (wpAny_fieldsOf hi rfl ?_)
  show wpAny _ _ (setEntries a >>= _) _ _ s
  refine wpAny_bind (wpAny_setEntries_of ho hd hf ?_)
  rw [if_neg (by rw [hn]; simp)]
  show wpAny _ _ (seqItems? (.ref T) >>= _) _ _ s
  refine wpAny_bind (wpAny_seqItems hT hTd ?_)
  dsimp only
  rw [Int.toNat_natCast, hp]
  dsimp only
  rw [Int.toNat_natCast, Int.toNat_natCast]
  unfold setNextDrawn
  refine wpAny_bind (wpAny_bind (wpAny_setState_of ho hd hf ?_))
  dsimp only
  rw [if_neg (by simp), hx]
  refine wpAny_pure ?_
  refine wpAny_bind (wpAny_setField hi rfl (by simp) ?_)
  have h1 := fields_set (k := 1) (x := rawInt ((i : Int) + 1)) hi
  refine wpAny_pure ⟨_, rfl, wpAny_pure (hQ _ (fun b u hb e => (Heap.get?_update_other _ _ (Ne.symm hb)).trans e) ⟨0, t2, t3, ?_⟩)⟩
  rw [h1]; simp [rawInt]
theorem sit_done_tup {T : Addr} {ot : Obj} {ps : Array Value} {m i n : Nat} {Q : Option Value → Shared → Prop} (hh : A.handled = none) (ho : s.heap.get? a = some o) (hd : o.data = .set es ep t) (hf : t.fits es.size = true) (hn : es.size = n)
    (hT : s.heap.get? T = some ot) (hTd : ot.data = .seq ps m) (it : SIt s.heap I (.ref T) i a n ep) (hp : ps[i]? = none)
    (hQ : ∀ h', (∀ b u, b ≠ I → s.heap.get? b = some u → h'.get? b = some u) → Q none { s with heap := h' }) :
    wpAny (model prog w) A (pyNext (.ref I)) Q E s := by
  have ty := it.ty
  obtain ⟨t1, t2, t3, hi⟩ := it
  unfold pyNext
  refine wpAny_bind (wpAny_attempt (wpAny_callSpecial?_slot (name := Str.ofString "__next__") ty sit_next (wpAny_call_entry sit_next ty sit_entry ?_ (sit_args _))))
  unfold Builtin.«set_iterator.__next__»
  refine wpAny_bind (wpAny_pure ?_)
  refine wpAny_bind (wpAny_fieldsOf hi rfl ?_)
  show wpAny _ _ (setEntries a >>= _) _ _ s
  refine wpAny_bind (wpAny_setEntries_of ho hd hf ?_)
  rw [if_neg (by rw [hn]; simp)]
  show wpAny _ _ (seqItems? (.ref T) >>= _) _ _ s
  refine wpAny_bind (wpAny_seqItems hT hTd ?_)
  dsimp only
  rw [Int.toNat_natCast, hp]
  dsimp only
  refine wpAny_bind (wpAny_setField hi rfl (by simp) ?_)
  have h1 := fields_set (k := 0) (x := rawInt 0) hi
  refine wpAny_bind (wpAny_setField h1 rfl (by simp) ?_)
  refine wpAny_mono (sit_stop (A := A) (Q := Q) (E := E) hh fun h' k => hQ h' fun b u hb e => k b u ((Heap.get?_update_other _ _ (Ne.symm hb)).trans ((Heap.get?_update_other _ _ (Ne.symm hb)).trans e))) (fun _ _ z => z.elim) fun e s' z => z
end
end Z
set_option Elab.async false
set_option linter.all false
set_option maxRecDepth 100000
set_option maxHeartbeats 8000000
namespace Z
open PySem PyProof.Rows L2
section
variable {prog : Program} {w : World} {A : Around} {E : Value → Shared → Prop} {s : Shared} {I a : Addr} {o : Obj} {es : Array (Int × Value)} {ep : Nat} {t : SetTable}
theorem byText_wp {Q : Bool → Shared → Prop} (h : Q (w.params.followText "set-order") s) : wpAny (model prog w) A setsByText Q E s := by
  unfold setsByText
  exact wpAny_bind (wpAny_askSetting (wpAny_pure h))
def drawnB (es : Array (Int × Value)) (t : SetTable) : Bool := !t.plain && decide (es.size > 1)
theorem next_place {slot i : Nat} {Q : Option (Value × Nat) → Shared → Prop} (ho : s.heap.get? a = some o) (hd : o.data = .set es ep t) (hf : t.fits es.size = true) (hb : w.params.followText "set-order" = false) (hdr : drawnB es t = false) (hl : t.led = true)
    (h : Q (match es[SetTable.below t.place slot]?, t.place[SetTable.below t.place slot]? with | some (_, x), some j => some (x, j + 1) | _, _ => none) s) : wpAny (model prog w) A (setNext a slot i ep) Q E s := by
  unfold setNext
  refine wpAny_bind (wpAny_setState_of ho hd hf ?_)
  dsimp only
  refine wpAny_bind (byText_wp ?_)
  rw [hb, if_neg Bool.false_ne_true]
  have nd : ¬ ((!t.plain && decide (es.size > 1)) = true) := by
    have : (!t.plain && decide (es.size > 1)) = false := hdr
    rw [this]; exact Bool.false_ne_true
  refine wpAny_ite_split (fun z => absurd z nd) fun _ => ?_
  refine wpAny_bind ?_
  refine wpAny_ite_split (fun z => ?_) fun _ => wpAny_pure (wpAny_pure h)
  have z' : (!t.led && !es.isEmpty) = true := z
  rw [hl] at z'
  exact absurd z' (by simp)
theorem next_text {slot i : Nat} {Q : Option (Value × Nat) → Shared → Prop} (ho : s.heap.get? a = some o) (hd : o.data = .set es ep t) (hf : t.fits es.size = true) (hb : w.params.followText "set-order" = true)
    (h : Q (((pickOrder (w.params.setOrder a ep) es)[i]?).map fun e => (e.2, slot)) s) : wpAny (model prog w) A (setNext a slot i ep) Q E s := by
  unfold setNext
  refine wpAny_bind (wpAny_setState_of ho hd hf ?_)
  dsimp only
  refine wpAny_bind (byText_wp ?_)
  rw [hb, if_pos rfl]
  rw [if_neg (by simp)]
  refine wpAny_bind ?_
  unfold setWalk
  refine wpAny_bind (wpAny_setState_of ho hd hf ?_)
  dsimp only
  refine wpAny_bind (byText_wp ?_)
  rw [hb, if_pos rfl]
  exact wpAny_bind (wpAny_askSetting (wpAny_pure (wpAny_pure h)))
theorem erase_perm {α : Type} : ∀ {xs : List α} {i : Nat} (h : i < xs.length), (xs[i] :: xs.eraseIdx i).Perm xs
  | x :: xs, 0, _ => .refl _
  | x :: xs, i + 1, h => by
    have ih := erase_perm (xs := xs) (i := i) (by simpa using h)
    have hi : i < xs.length := by simpa using h
    show (xs[i] :: x :: xs.eraseIdx i).Perm (x :: xs)
    exact (List.Perm.swap _ _ _).trans (ih.cons x)
/-- an order that is drawn -/
theorem choose_wp {src : Source} {n : Nat} {Q : Nat → Shared → Prop} (hn : n ≠ 0) (h : ∀ i d, i < n → Q i { s with drawn := d }) : wpAny (model prog w) A (choose src n) Q E s := by
  intro Γ p _
  unfold choose
  rw [Sem.wp_choose]
  exact ⟨hn, h _ _ (Nat.mod_lt _ (Nat.pos_of_ne_zero hn))⟩
theorem draw_wp {α : Type} : ∀ (n : Nat) (xs : List α) (s : Shared) (Q : List α → Shared → Prop), xs.length = n → (∀ ys d, ys.Perm xs → Q ys { s with drawn := d }) → wpAny (model prog w) A (drawOrder n xs) Q E s
  | 0, xs, s, Q, e, h => by
    have : xs = [] := List.length_eq_zero_iff.mp e
    subst this
    unfold drawOrder
    exact wpAny_pure (h [] s.drawn .nil)
  | n + 1, [], s, Q, e, h => by simp at e
  | n + 1, x :: xs, s, Q, e, h => by
    unfold drawOrder
    refine wpAny_bind (choose_wp (by simp) fun i d hi => ?_)
    obtain ⟨y, hy⟩ : ∃ y, (x :: xs)[i]? = some y := ⟨_, List.getElem?_eq_getElem hi⟩
    rw [hy]
    dsimp only
    refine wpAny_bind (draw_wp n _ _ _ (by rw [List.length_eraseIdx, if_pos hi]; simpa using e) fun ys d' hp => wpAny_pure ?_)
    refine h (y :: ys) d' ?_
    refine (hp.cons y).trans ?_
    have g : (x :: xs)[i] = y := by rw [List.getElem?_eq_getElem hi] at hy; exact Option.some.inj hy
    rw [← g]
    exact erase_perm hi
theorem pick_go {α : Type} (next : Nat → Nat) : ∀ (f k : Nat) (left : List α) (out : Array α), left.length = f → (pickOrder.go next f k left out).toList.Perm (out.toList ++ left)
  | 0, k, left, out, e => by
    have : left = [] := List.length_eq_zero_iff.mp e
    subst this
    unfold pickOrder.go
    simp
  | f + 1, k, left, out, e => by
    unfold pickOrder.go
    have hi : next k % left.length < left.length := Nat.mod_lt _ (by omega)
    obtain ⟨y, hy⟩ : ∃ y, left[next k % left.length]? = some y := ⟨_, List.getElem?_eq_getElem hi⟩
    rw [hy]
    dsimp only
    refine (pick_go next f (k + 1) _ _ (by rw [List.length_eraseIdx, if_pos hi]; omega)).trans ?_
    have g : left[next k % left.length] = y := by rw [List.getElem?_eq_getElem hi] at hy; exact Option.some.inj hy
    rw [Array.toList_push, List.append_assoc, ← g]
    exact (erase_perm hi).append_left _
theorem pick_perm {α : Type} (next : Nat → Nat) (xs : Array α) : (pickOrder next xs).toList.Perm xs.toList := by
  have := pick_go next xs.size 0 xs.toList #[] (by simp)
  unfold pickOrder
  simpa using this
end
end Z
set_option Elab.async false
set_option linter.all false
set_option maxRecDepth 100000
set_option maxHeartbeats 8000000
namespace Z
open PySem PyProof.Rows L2
def slotAt (pl : Array Nat) (i : Nat) : Nat := match i with
  | 0 => 0
  | i + 1 => (pl[i]?).getD 0 + 1
theorem slotAt_below {pl : Array Nat} (r : Ris pl) {i : Nat} (hi : i ≤ pl.size) : SetTable.below pl (slotAt pl i) = i := by
  cases i with
  | zero => exact below_zero r
  | succ i =>
    obtain ⟨p, hp⟩ := at_some (xs := pl) (i := i) (by omega)
    show SetTable.below pl ((pl[i]?).getD 0 + 1) = i + 1
    rw [hp]
    exact below_next r hp
section
variable {prog : Program} {w : World} {A : Around} {E : Value → Shared → Prop} {s : Shared} {I a T : Addr} {o ot : Obj} {es : Array (Int × Value)} {ep : Nat} {t : SetTable}
theorem walk_place (hh : A.handled = none) (hI : I ≠ a) (hd : o.data = .set es ep t) (hf : t.fits es.size = true) (hb : w.params.followText "set-order" = false) (hdr : drawnB es t = false) (T0 : TabR true t) :
    Walks prog w A I [I, a] [I] es.size (fun i v => (es.toList.map (·.2))[i]? = some v) (fun i h => SIt h I (.int (slotAt t.place i : Nat) 0) i a es.size ep ∧ h.get? a = some o) where
  sub := fun b hb => by simp at hb; simp [hb]
  frame := fun i h h' st k => ⟨st.1.keep fun o e => k I (by simp) o e, k a (by simp) _ st.2⟩
  item := fun i s Q E hi st hQ => by
    have pz : t.place.size = es.size := by
      simp only [SetTable.fits, Bool.and_eq_true, beq_iff_eq] at hf
      exact hf.1
    obtain ⟨p, hp⟩ := at_some (xs := t.place) (i := i) (by omega)
    have he : es[i]? = some es[i] := Array.getElem?_eq_getElem hi
    have e2 : slotAt t.place (i + 1) = p + 1 := by show (t.place[i]?).getD 0 + 1 = p + 1; rw [hp]; rfl
    refine sit_item_int (nx := p + 1) (x := es[i].2) st.2 hd hf rfl hI st.1 (fun Q' E' q => next_place st.2 hd hf hb hdr T0.led ?_) fun h' k it => ?_
    · rw [slotAt_below T0.ris (by omega), hp, he]; exact q
    · refine hQ _ h' s.toks ?_ ⟨by rw [e2]; exact it, k a _ (Ne.symm hI) st.2⟩ fun b o hb e => k b o (fun z => hb (by simp [z])) e
      rw [List.getElem?_map, Array.getElem?_toList, he]; rfl
  done := fun s Q E st hQ => by
    have pz : t.place.size = es.size := by
      simp only [SetTable.fits, Bool.and_eq_true, beq_iff_eq] at hf
      exact hf.1
    refine sit_done_int hh st.2 hd hf rfl hI st.1 (fun Q' E' q => next_place st.2 hd hf hb hdr T0.led ?_) fun h' k => hQ h' s.toks fun b o hb e => k b o (fun z => hb (by simp [z])) e
    rw [slotAt_below T0.ris (by omega), Array.getElem?_eq_none (Nat.le_refl _)]; exact q
  self := fun i s Q E st hQ => sit_self st.1 hQ
theorem walk_text (hh : A.handled = none) (hI : I ≠ a) (hd : o.data = .set es ep t) (hf : t.fits es.size = true) (hb : w.params.followText "set-order" = true) :
    Walks prog w A I [I, a] [I] es.size (fun i v => ((pickOrder (w.params.setOrder a ep) es).toList.map (·.2))[i]? = some v) (fun i h => SIt h I (.int (0 : Nat) 0) i a es.size ep ∧ h.get? a = some o) where
  sub := fun b hb => by simp at hb; simp [hb]
  frame := fun i h h' st k => ⟨st.1.keep fun o e => k I (by simp) o e, k a (by simp) _ st.2⟩
  item := fun i s Q E hi st hQ => by
    have pl := (pick_perm (w.params.setOrder a ep) es).length_eq
    rw [Array.length_toList, Array.length_toList] at pl
    have he : (pickOrder (w.params.setOrder a ep) es)[i]? = some (pickOrder (w.params.setOrder a ep) es)[i] := Array.getElem?_eq_getElem (by omega)
    refine sit_item_int (nx := 0) (x := (pickOrder (w.params.setOrder a ep) es)[i].2) st.2 hd hf rfl hI st.1 (fun Q' E' q => next_text st.2 hd hf hb ?_) fun h' k it => ?_
    · rw [he]; exact q
    · refine hQ _ h' s.toks ?_ ⟨it, k a _ (Ne.symm hI) st.2⟩ fun b o hb e => k b o (fun z => hb (by simp [z])) e
      rw [List.getElem?_map, Array.getElem?_toList, he]; rfl
  done := fun s Q E st hQ => by
    have pl := (pick_perm (w.params.setOrder a ep) es).length_eq
    rw [Array.length_toList, Array.length_toList] at pl
    refine sit_done_int hh st.2 hd hf rfl hI st.1 (fun Q' E' q => next_text st.2 hd hf hb ?_) fun h' k => hQ h' s.toks fun b o hb e => k b o (fun z => hb (by simp [z])) e
    rw [Array.getElem?_eq_none (by omega)]; exact q
  self := fun i s Q E st hQ => sit_self st.1 hQ
theorem walk_drawn (hh : A.handled = none) (hI : I ≠ a) (hIT : I ≠ T) (hd : o.data = .set es ep t) (hf : t.fits es.size = true) {ys : List Nat} (hy : ys.Perm (List.range es.size)) (hTd : ot.data = .seq (ys.map fun (i : Nat) => rawInt (i : Int)).toArray 0) :
    Walks prog w A I [I, a, T] [I] es.size (fun i v => (ys.filterMap fun j => (es[j]?).map (·.2))[i]? = some v) (fun i h => SIt h I (.ref T) i a es.size ep ∧ h.get? a = some o ∧ h.get? T = some ot) where
  sub := fun b hb => by simp at hb; simp [hb]
  frame := fun i h h' st k => ⟨st.1.keep fun o e => k I (by simp) o e, k a (by simp) _ st.2.1, k T (by simp) _ st.2.2⟩
  item := fun i s Q E hi st hQ => by
    have yl := hy.length_eq
    rw [List.length_range] at yl
    obtain ⟨j, hj⟩ : ∃ j, ys[i]? = some j := ⟨_, List.getElem?_eq_getElem (by omega)⟩
    have jl : j < es.size := List.mem_range.mp (hy.mem_iff.mp (List.mem_of_getElem? hj))
    have he : es[j]? = some (es[j].1, es[j].2) := Array.getElem?_eq_getElem jl
    refine sit_item_tup (pl := j) (u := 0) (x := es[j].2) (hs := es[j].1) st.2.1 hd hf rfl st.2.2 hTd st.1 (by simp [hj, rawInt]) he fun h' k it => ?_
    refine hQ _ h' s.toks ?_ ⟨it, k a _ (Ne.symm hI) st.2.1, k T _ (Ne.symm hIT) st.2.2⟩ fun b o hb e => k b o (fun z => hb (by simp [z])) e
    have fm : ∀ {zs : List Nat}, (∀ q ∈ zs, q < es.size) → zs.filterMap (fun j => (es[j]?).map (·.2)) = zs.map fun j => ((es[j]?).map (·.2)).getD .none := by
      intro zs
      induction zs with
      | nil => intro _; rfl
      | cons q zs ih =>
        intro hz
        have ql : q < es.size := hz q List.mem_cons_self
        have e : (es[q]?).map (·.2) = some es[q].2 := by rw [Array.getElem?_eq_getElem ql]; rfl
        rw [List.filterMap_cons, List.map_cons, e, ih fun q hq => hz q (List.mem_cons_of_mem _ hq)]
        rfl
    have fm := fm (zs := ys) fun q hq => List.mem_range.mp (hy.mem_iff.mp hq)
    rw [fm, List.getElem?_map, hj]
    simp [he]
  done := fun s Q E st hQ => by
    have yl := hy.length_eq
    rw [List.length_range] at yl
    exact sit_done_tup hh st.2.1 hd hf rfl st.2.2 hTd st.1 (by simp [yl]) fun h' k => hQ h' s.toks fun b o hb e => k b o (fun z => hb (by simp [z])) e
  self := fun i s Q E st hQ => sit_self st.1 hQ
/-- iter(a set): some order -/
theorem iter_set {Q : Value → Shared → Prop} (hh : A.handled = none) (ho : s.heap.get? a = some o) (hx : o.ExactSet) (hd : o.data = .set es ep t) (hf : t.fits es.size = true) (hz : es.size ≤ sizeLine) (T0 : TabR (ledW w) t)
    (h : ∀ (ord : List Value) (I : Addr) (fp : List Addr) (St : Nat → Heap → Prop) (h' : Heap) (d' : Drawn), ord.Perm (es.toList.map (·.2)) → Walks prog w A I fp [I] es.size (fun i v => ord[i]? = some v) St → St 0 h' → (∀ b u, s.heap.get? b = some u → h'.get? b = some u) → s.heap.objs.size ≤ I → I < h'.objs.size → (∀ b ∈ fp, b = a ∨ s.heap.objs.size ≤ b) → Q (.ref I) { s with heap := h', drawn := d' }) :
    wpAny (model prog w) A (pyIter (.ref a)) Q E s := by
  have ty : s.TypeIs (.ref a) "set" := ⟨o, ho, hx.1⟩
  have alt := Heap.lt_size ho
  refine wpAny_pyIter_slot ty PySem.F.slot_set_iter (wpAny_call_entry PySem.F.slot_set_iter ty set_entry_iter ?_ (PySem.F.args_set_iter_1 _))
  unfold Builtin.«frozenset.__iter__»
  refine wpAny_bind (wpAny_pure ?_)
  refine wpAny_bind ?_
  show wpAny _ _ (setEntries a >>= fun es => pure es.size) _ _ s
  refine wpAny_bind (wpAny_setEntries_of ho hd hf (wpAny_pure ?_))
  refine wpAny_bind ?_
  unfold setDrawn
  refine wpAny_bind (wpAny_setState_of ho hd hf ?_)
  dsimp only
  refine wpAny_bind (byText_wp (wpAny_pure ?_))
  by_cases hc : (!w.params.followText "set-order" && drawnB es t) = true
  · refine wpAny_ite_split (fun _ => ?_) fun z => absurd hc z
    refine wpAny_bind (draw_wp es.size (List.range es.size) s _ (by simp) fun ys d' hy => ?_)
    refine wpAny_bind (wpAny_newTuple ?_ (by rw [List.length_map, hy.length_eq]; simpa using hz))
    have h1 : (s.heap.push { cls := .type "tuple", data := .seq (ys.map fun (i : Nat) => rawInt (i : Int)).toArray }).get? a = some o := Heap.get?_push_of_some _ ho
    have h2 : (s.heap.push { cls := .type "tuple", data := .seq (ys.map fun (i : Nat) => rawInt (i : Int)).toArray }).get? s.heap.objs.size = some { cls := .type "tuple", data := .seq (ys.map fun (i : Nat) => rawInt (i : Int)).toArray } := Heap.get?_push_size _ rfl
    refine wpAny_bind (wpAny_setEpoch_of (s := { s with heap := s.heap.push _, drawn := d' }) h1 hd hf ?_)
    refine wpAny_bind (wpAny_newObj_type ?_)
    obtain ⟨hp, eH⟩ : ∃ hp, s.heap.push { cls := .type "tuple", data := .seq (ys.map fun (i : Nat) => rawInt (i : Int)).toArray } = hp := ⟨_, rfl⟩
    have z : hp.objs.size = s.heap.objs.size + 1 := by rw [← eH]; exact Heap.size_push _ _
    rw [eH] at h1 h2 ⊢
    refine wpAny_pure ⟨_, rfl, "set_iterator", _, ⟨_, Heap.get?_push_size _ rfl, rfl⟩, sit_next.lookup, ?_⟩
    refine h _ hp.objs.size _ _ _ d' ?_ (walk_drawn (T := s.heap.objs.size) hh (by rw [z]; exact Nat.ne_of_gt (Nat.lt_succ_of_lt alt)) (by rw [z]; exact Nat.ne_of_gt (Nat.lt_succ_self _)) hd hf hy rfl) ⟨⟨0, 0, 0, ?_⟩, Heap.get?_push_of_some _ h1, Heap.get?_push_of_some _ h2⟩ (fun b u e => Heap.get?_push_of_some _ (by rw [← eH]; exact Heap.get?_push_of_some _ e)) (by rw [z]; exact Nat.le_succ _) (by rw [Heap.size_push]; exact Nat.lt_succ_self _) ?_
    · refine (hy.filterMap _).trans ?_
      have := filterMap_getElem?_range es
      rw [← this, List.map_filterMap]
    · have := Heap.get?_push_size (h := hp) (o := { cls := .type "set_iterator", data := .fields #[.ref s.heap.objs.size, rawInt 0, .ref a, rawInt es.size, rawInt ep] }) rfl
      exact this
    · intro b hb
      simp only [List.mem_cons, List.not_mem_nil, or_false] at hb
      rcases hb with rfl | rfl | rfl
      · exact .inr (by rw [z]; exact Nat.le_succ _)
      · exact .inl rfl
      · exact .inr (Nat.le_refl _)
  · refine wpAny_ite_split (fun z => absurd z hc) fun _ => ?_
    refine wpAny_bind (wpAny_pure ?_)
    refine wpAny_bind (wpAny_setEpoch_of ho hd hf ?_)
    refine wpAny_bind (wpAny_newObj_type ?_)
    refine wpAny_pure ⟨_, rfl, "set_iterator", _, ⟨_, Heap.get?_push_size _ rfl, rfl⟩, sit_next.lookup, ?_⟩
    have g := Heap.get?_push_size (h := s.heap) (o := { cls := .type "set_iterator", data := .fields #[rawInt 0, rawInt 0, .ref a, rawInt es.size, rawInt ep] }) rfl
    have fpb : ∀ b ∈ [s.heap.objs.size, a], b = a ∨ s.heap.objs.size ≤ b := by
      intro b hb
      simp only [List.mem_cons, List.not_mem_nil, or_false] at hb
      rcases hb with rfl | rfl
      · exact .inr (Nat.le_refl _)
      · exact .inl rfl
    cases hb : w.params.followText "set-order" with
    | true =>
      refine h _ s.heap.objs.size _ _ _ s.drawn ((pick_perm (w.params.setOrder a ep) es).map _) (walk_text hh (Nat.ne_of_gt alt) hd hf hb) ⟨⟨0, 0, 0, g⟩, Heap.get?_push_of_some _ ho⟩ (fun b u e => Heap.get?_push_of_some _ e) (Nat.le_refl _) (by rw [Heap.size_push]; exact Nat.lt_succ_self _) fpb
    | false =>
      rw [hb] at hc
      have hdr : drawnB es t = false := by simpa using hc
      have T1 : TabR true t := by unfold ledW at T0; rw [hb] at T0; exact T0
      refine h _ s.heap.objs.size _ _ _ s.drawn (.refl _) (walk_place hh (Nat.ne_of_gt alt) hd hf hb hdr T1) ⟨⟨0, 0, 0, g⟩, Heap.get?_push_of_some _ ho⟩ (fun b u e => Heap.get?_push_of_some _ e) (Nat.le_refl _) (by rw [Heap.size_push]; exact Nat.lt_succ_self _) fpb
end
end Z
set_option Elab.async false
set_option linter.all false
set_option maxRecDepth 100000
set_option maxHeartbeats 8000000
namespace Z
open PySem PySem.W PyProof.Rows L2
theorem set_len : typeLookup (.type "set") "__len__" = pure (some (.builtin "set.__len__")) := by rw [typeLookup_type, builtinLookup_eq_fast]; kernel_rfl
section
variable {prog : Program} {w : World} {A : Around} {E : Value → Shared → Prop} {s : Shared} {a : Addr} {o : Obj} {es : Array (Int × Value)} {ep : Nat} {t : SetTable}
theorem hint_set {Q : Bool → Shared → Prop} (hT : s.TypeIs (.ref a) "set") (h : Q false s) : wpAny (model prog w) A (Builtin.List.listLengthHint (.ref a)) Q E s := by
  unfold Builtin.List.listLengthHint
  refine wpAny_bind (wpAny_specialOf hT set_len ?_)
  generalize hid : ("set.__len__" : String) = id0
  wp_delta
  rw [show splitId id0 = some ("set", "__len__") from by subst hid; decide +kernel]
  subst hid
  refine wpAny_bind (wpAny_isInstance (T := "set") (b := true) hT (by rw [isSubtype_type]; kernel_rfl) ?_)
  refine wpAny_ite_split (fun z => absurd z (by decide)) fun _ => wpAny_ite_split (fun _ => ?_) fun z => absurd (by decide +kernel) z
  exact wpAny_bind (wpAny_typeOf hT (wpAny_pure h))
theorem items_eq {ord : List Value} {acc : Array Value} (h : ItemsOf (fun i v => ord[i]? = some v) acc ord.length) : acc.toList = ord := by
  refine List.ext_getElem? fun j => ?_
  rw [Array.getElem?_toList]
  cases e : acc[j]? with
  | some v => exact (h.2 j v e).symm
  | none =>
    have : acc.size ≤ j := by
      rcases Nat.lt_or_ge j acc.size with q | q
      · rw [Array.getElem?_eq_getElem q] at e; cases e
      · exact q
    rw [List.getElem?_eq_none (by have := h.1; omega)]
abbrev lst0 (c : Nat) : Obj := { cls := .type "list", data := .seq (#[] : Array Value) c }
theorem extend_set {R : Result → Shared → Prop} {S : Addr} {res : Value} (hh : A.handled = none) (ho : s.heap.get? a = some o) (hx : o.ExactSet) (hd : o.data = .set es ep t) (hf : t.fits es.size = true) (hz : es.size ≤ sizeLine) (T0 : TabR (ledW w) t) (hSa : S ≠ a) (hS : s.heap.get? S = some (lst0 0))
    (hR : ∀ (h' : Heap) (tk : Nat) (d' : Drawn) (acc : Array Value) (c : Nat), (∀ b u, b ≠ S → s.heap.get? b = some u → h'.get? b = some u) → h'.get? S = some { cls := .type "list", dict := none, data := .seq acc c, slots := #[] } → acc.toList.Perm (es.toList.map (·.2)) → R (.ok (.ret res)) { s with heap := h', toks := tk, drawn := d' }) :
    wpAny (model prog w) A.in1 (Builtin.List.listExtendWith (.ref S) (.ref a) res) (fun fin s' => match fin with | .done f => R (.ok f) s' | .again c' => c'.quiet = true ∧ codeAny (model prog w) A c' R s') (fun e s' => R (.error e) s') s := by
  have ty : s.TypeIs (.ref a) "set" := ⟨o, ho, hx.1⟩
  have Slt := Heap.lt_size hS
  unfold Builtin.List.listExtendWith
  refine wpAny_bind (wpAny_typeOf ty ?_)
  have h1 : Builtin.List.listSameRef (.ref S) (.ref a) = false := by simp [Builtin.List.listSameRef, hSa]
  have h2 : (Value.type "set" == Value.type "list") = false := by decide
  have h3 : (Value.type "set" == Value.type "tuple") = false := by decide
  simp only [h1, h2, h3, Bool.or_false, Bool.false_eq_true, if_false]
  refine wpAny_bind (iter_set (A := A.in1) hh ho hx hd hf hz T0 fun ord I fp St hp d' pm W st kp hI hI2 hfp => ?_)
  have Sp : hp.get? S = some (lst0 0) := kp _ _ hS
  have SI : S ≠ I := fun z => by rw [z] at Slt; exact absurd (Nat.lt_of_lt_of_le Slt hI) (Nat.lt_irrefl _)
  have Sf : S ∉ fp := fun z => by
    rcases hfp S z with q | q
    · exact hSa q
    · exact absurd (Nat.lt_of_lt_of_le Slt q) (Nat.lt_irrefl _)
  have ol : ord.length = es.size := by rw [pm.length_eq]; simp
  have key : ∀ (h : Heap) (c tk : Nat), St 0 h → (∀ b u, b ≠ S → s.heap.get? b = some u → h.get? b = some u) → h.get? S = some (lst0 c) → codeAny (model prog w) A (.builtin "list.extend.loop" ⟨[.ref S, .ref I, res], []⟩) R { s with heap := h, toks := tk, drawn := d' } := by
    intro h c tk hst hk hS1
    refine codeAny_extend_loopS W.toS hz S Sf res es.size 0 _ #[] c rfl (Nat.zero_le _) hst hS1 (ItemsOf.nil _) fun s' acc c' hm hS' hacc => ?_
    rw [Moved.eq_with hm]
    rw [← ol] at hacc
    refine hR s'.heap s'.toks d' acc c' (fun b u hb e => hm.heap b u (fun z => ?_) (hk b u hb e)) hS' (by rw [items_eq hacc]; exact pm)
    rcases List.mem_cons.mp z with q | q
    · exact hb q
    · rw [List.mem_singleton.mp q] at e
      exact absurd (Nat.lt_of_lt_of_le (Heap.lt_size e) hI) (Nat.lt_irrefl _)
  refine wpAny_bind (wpAny_holding (hint_set ⟨o, kp _ _ ho, hx.1⟩ ?_))
  refine wpAny_ite_split (fun _ => ?_) (fun _ => wpAny_pure ⟨plainId_quiet PySem.F.plain_extend_loop _, key _ 0 _ st (fun b u _ e => kp b u e) Sp⟩)
  refine wpAny_bind (wpAny_rule (wpAny_bind ?_))
  show wpAny _ _ (updateSeq S (·.push .none) >>= fun _ => updateSeq S (·.pop)) _ _ _
  refine wpAny_bind (wpAny_updateSeq Sp rfl ?_)
  have S2 := Heap.get?_update_self (Obj.mapSeq (·.push Value.none)) Sp rfl
  refine wpAny_updateSeq (hz := by seq_fits) S2 rfl ?_
  have S3 := Heap.get?_update_self (Obj.mapSeq (·.pop)) S2 rfl
  refine wpAny_pure ⟨plainId_quiet PySem.F.plain_extend_loop _, key _ _ _ (W.frame 0 _ _ st fun b hb u e => ?_) (fun b u hb e => ?_) S3⟩
  · have bS : b ≠ S := fun z => Sf (z ▸ hb)
    exact (Heap.get?_update_other _ _ (Ne.symm bS)).trans ((Heap.get?_update_other _ _ (Ne.symm bS)).trans e)
  · exact (Heap.get?_update_other _ _ (Ne.symm hb)).trans ((Heap.get?_update_other _ _ (Ne.symm hb)).trans (kp _ _ e))
theorem collect_set {R : List Value → Shared → Prop} (hh : A.handled = none) (ho : s.heap.get? a = some o) (hx : o.ExactSet) (hd : o.data = .set es ep t) (hf : t.fits es.size = true) (hz : es.size ≤ sizeLine) (T0 : TabR (ledW w) t)
    (h : ∀ (h' : Heap) (tk : Nat) (d' : Drawn) (acc : List Value), (∀ b u, s.heap.get? b = some u → h'.get? b = some u) → s.heap.objs.size < h'.objs.size → acc.Perm (es.toList.map (·.2)) → R acc { s with heap := h', toks := tk, drawn := d' }) :
    wpAny (model prog w) A (collect (.ref a)) R E s := by
  have alt := Heap.lt_size ho
  unfold collect
  refine wpAny_bind (wpAny_runValue (codeAny_builtin entry_proto_collect' ?_))
  rw [Around.under_plainId PySem.F.plain_proto_collect _]
  show wpAny _ A.in1 (newList [] >>= fun l => again (.builtin "list.__iadd__" ⟨[l, .ref a], []⟩)) _ _ s
  refine wpAny_bind (wpAny_newObj_type (wpAny_pure ⟨plainId_quiet PySem.F.plain_list_iadd _, codeAny_builtin entry_list_iadd' ?_⟩))
  rw [Around.under_plainId PySem.F.plain_list_iadd _]
  have S1 : (s.heap.push (lst0 0)).get? s.heap.objs.size = some (lst0 0) := Heap.get?_push_size _ rfl
  show wpAny _ A.in1 (Builtin.List.listExtendWith (.ref s.heap.objs.size) (.ref a) (.ref s.heap.objs.size)) _ _ _
  have key := extend_set (prog := prog) (A := A) (s := { s with heap := s.heap.push (lst0 0) }) (S := s.heap.objs.size) (res := .ref s.heap.objs.size)
    (R := fun (q : Result) (s' : Shared) => ∃ (h' : Heap) (tk : Nat) (d' : Drawn) (acc : Array Value) (c : Nat), q = .ok (.ret (.ref s.heap.objs.size)) ∧ s' = { s with heap := h', toks := tk, drawn := d' } ∧ (∀ b u, s.heap.get? b = some u → h'.get? b = some u) ∧ h'.get? s.heap.objs.size = some { cls := .type "list", dict := none, data := .seq acc c, slots := #[] } ∧ acc.toList.Perm (es.toList.map (·.2)))
    hh (Heap.get?_push_of_some _ ho) hx hd hf hz T0 (Nat.ne_of_gt alt) S1 fun h' tk d' acc c hk hS' pm => ⟨h', tk, d', acc, c, rfl, rfl, fun b u e => hk b u (Nat.ne_of_lt (Heap.lt_size e)) (Heap.get?_push_of_some _ e), hS', pm⟩
  refine wpAny_mono key (fun fin s' x => ?_) fun e s' x => ?_
  · cases fin with
    | done f =>
      obtain ⟨h', tk, d', acc, c, e, rfl, hk, hS', pm⟩ := x
      cases e
      show wpAny _ A (load s.heap.objs.size >>= _) _ _ _
      exact wpAny_bind (wpAny_load hS' (wpAny_pure (h h' tk d' acc.toList hk (Heap.lt_size hS') pm)))
    | again c₁ =>
      refine ⟨x.1, codeAny_mono x.2 fun q s₂ y => ?_⟩
      obtain ⟨h', tk, d', acc, c, rfl, rfl, hk, hS', pm⟩ := y
      show wpAny _ A (load s.heap.objs.size >>= _) _ _ _
      exact wpAny_bind (wpAny_load hS' (wpAny_pure (h h' tk d' acc.toList hk (Heap.lt_size hS') pm)))
  · obtain ⟨_, _, _, _, _, e', _⟩ := x
    cases e'
end
end Z
set_option Elab.async false
set_option linter.all false
set_option maxRecDepth 100000
set_option maxHeartbeats 8000000
namespace L2
open PySem PySem.Spec PyProof.Rows Z
theorem Inv.redraw {X : Cx} {pins : List (Addr × Obj)} {σ : St} {H : Hp} {s : Shared} (I : Inv X pins σ H s) (d : Drawn) : Inv X pins σ H { s with drawn := d } :=
  ⟨I.ok, I.os, I.bare, I.base, I.loc, I.cell, I.free, I.freeC, I.pin, I.hok, I.len⟩
/-- a set of ints, its table known -/
def SetX (P : Program) (w : World) (a : Addr) (ks : List Int) : HO := .ext fun h => SetR P w (ledW w) h a ks
section
variable {X : Cx}
def rSetR (X : Cx) : List V → Hp → VK → Prop := fun xs H Q => ∃ a ns, xs = [V.ref a] ∧ SqL X.K H a (ns.map V.int) ∧ ns.length + 1 < scanBound ∧ ∀ p, H p = none → Q (.ref p) (upd H p (SetX X.prog X.w p (nD ns)))
theorem cr_setR (hc : X.calm = true) : CallR X (.type "set") (rSetR X) := by
  intro pins s σ H vs us Q I r h
  obtain ⟨a, ns, rfl, hs, hb, q⟩ := h
  obtain ⟨its, rv, hl, _⟩ := I.list hs
  rw [Vals.ref1 r]
  have hi := rv.ints
  have hz : its.toArray.size = ns.length := by rw [List.size_toArray, ← rv.length, List.length_map]
  refine set_list_R (items := its.toArray) (ns := ns) (I.ok.hd hc) hl.isList (by simpa using hi) (by rw [hz]; exact hb) fun h' tk hS hk => ?_
  rw [nD_first hz] at hS
  have ob : ∃ o, h'.get? s.heap.objs.size = some o := by obtain ⟨o, _, _, _, e, _⟩ := hS; exact ⟨o, e⟩
  refine ⟨.ref s.heap.objs.size, _, I.laid (t' := tk) (fun b o e => hk b o (Heap.lt_size e) e) (Nat.le_refl _) (o := SetX X.prog X.w s.heap.objs.size (nD ns)) ⟨hS, ob, fun h1 h2 p k => p.keep k⟩, rfl, q _ (I.hok.fresh (Nat.le_refl _))⟩
def rSrtS (X : Cx) : List V → Hp → VK → Prop := fun xs H Q => ∃ a ks, xs = [V.ref a] ∧ H a = some (SetX X.prog X.w a ks) ∧ ks.length < 64 ∧ ∀ (ns : List Int) p, ns.Perm ks → ns.Pairwise (· ≤ ·) → H p = none → Q (.ref p) (upd H p (.lst (ns.map V.int)))
theorem cr_srtS (hc : X.calm = true) : CallR X (.builtin "sorted") (rSrtS X) := by
  intro pins s σ H vs us Q I r h
  obtain ⟨a, ks, rfl, ha, h64, q⟩ := h
  rw [Vals.ref1 r]
  obtain ⟨⟨o, es, ep, t, ho, hx, hd, El, pk, hb, hf, T0⟩, _, _⟩ := (show ObjOk X.prog X.w H s.heap a (SetX X.prog X.w a ks) from I.hok a _ ha)
  have ez : es.size = ks.length := by rw [← pk.length_eq]; simp [keys]
  refine call_function_tree kind_sorted plain_sorted entry_sorted (args_sorted1 _) ?_
  unfold Builtin.sorted
  have ck : checkCount "sorted" 1 1 1 = pure () := rfl
  show wpAny _ _ (checkCount "sorted" 1 1 1 >>= _) _ _ s
  rw [ck]
  refine wpAny_bind (wpAny_pure (wpAny_bind ?_))
  refine collect_set (A := X.A.in1) (I.ok.hd hc) ho hx hd hf (by rw [sizeLine_eq]; omega) T0 fun h' tk d' acc hk hle pm => ?_
  have al : acc.length < 64 := by rw [pm.length_eq]; simp; omega
  have isI : ∀ {vs : List Value}, (∀ v ∈ vs, ∃ n u, v = .int n u) → IntsAre vs (vs.map vI) := by
    intro vs
    induction vs with
    | nil => intro _; exact .nil
    | cons v vs ih =>
      intro hv
      obtain ⟨n, u, rfl⟩ := hv v List.mem_cons_self
      exact .cons n u (ih fun x hx => hv x (List.mem_cons_of_mem _ hx))
  have ia := isI (vs := acc) fun v hv => by
    obtain ⟨e, he, rfl⟩ := List.mem_map.mp (pm.mem_iff.mp hv)
    obtain ⟨n, u, e1, _⟩ := El.is e he
    exact ⟨n, u, e1⟩
  have pk2 : (acc.map vI).Perm ks := by
    refine (pm.map vI).trans ?_
    rw [List.map_map]
    exact pk
  refine wpAny_bind (wpAny_newList ?_ (by rw [sizeLine_eq]; omega))
  have g : (h'.push (seqObj "list" acc.toArray 0)).get? h'.objs.size = some (seqObj "list" acc.toArray 0) := Heap.get?_push_size _ rfl
  refine wpAny_bind (wpAny_holding (wpAny_call_entry slot_list_sort ⟨_, g, rfl⟩ entry_list_sort (list_sort_tree (s := { s with heap := h'.push (seqObj "list" acc.toArray 0), toks := tk, drawn := d' }) g ia al fun out ns' a1 a2 a3 => ⟨_, rfl, ?_⟩) (args_list_sort _)))
  obtain ⟨ep', he⟩ := sortedHeap_at (vs := acc) (out := out) g
  have hlen : (ns'.map V.int).length ≤ sizeLine := by rw [List.length_map, (a2.trans pk2).length_eq, sizeLine_eq]; omega
  refine wpAny_pure ⟨.ref h'.objs.size, _, (I.redraw d').laid (t' := tk) (fun b u e => ?_) (Nat.le_of_lt hle) (o := .lst (ns'.map V.int)) ⟨hlen, out.toList, ep', vals_of_ints a1, he⟩, rfl, q ns' _ (a2.trans pk2) a3 (I.hok.fresh (Nat.le_of_lt hle))⟩
  have e1 := hk b u e
  have hb : b < h'.objs.size := Heap.lt_size e1
  have hb2 : b < (h'.push (seqObj "list" acc.toArray 0)).objs.size := by rw [Heap.size_push]; exact Nat.lt_succ_of_lt hb
  rw [sortedHeap_old (Nat.ne_of_lt hb) hb2]
  exact Heap.get?_push_of_some _ e1
end
end L2
namespace Z
open PySem PySem.Spec PyProof.Rows L2
/-- ints in order -/
def srtZ (ks : List Int) : List Int := ks.mergeSort fun a b => decide (a ≤ b)
theorem srtZ_sorted (ks : List Int) : (srtZ ks).Pairwise (· ≤ ·) := by
  have := List.pairwise_mergeSort (le := fun (a b : Int) => decide (a ≤ b)) (fun a b c h1 h2 => by simp at *; omega) (fun a b => by simp; omega) ks
  exact this.imp fun h => by simpa using h
theorem srtZ_perm (ks : List Int) : (srtZ ks).Perm ks := List.mergeSort_perm ks _
theorem srtZ_eq {ks l : List Int} (hp : l.Perm ks) (hs : l.Pairwise (· ≤ ·)) : l = srtZ ks :=
  List.Perm.eq_of_pairwise (le := fun a b => a ≤ b) (fun a b _ _ x y => by omega) hs (srtZ_sorted ks) (hp.trans (srtZ_perm ks).symm)
section
variable {X : Cx} {G : GT} {a b c : Expr} {fa fb fc : XE} {pos p2 : Pos}
def srtSK (w : W) (h1 : AH) : Res W := match w with
  | .ref n => match listAt h1 n with
    | some ws => match optAll asInt ws with
      | some ns => if ns.length + 1 < scanBound ∧ (nD ns).length < 64 then .ok (.ref h1.length) (h1 ++ [.lst ((srtZ (nD ns)).map .int)]) else .bad
      | none => .bad
    | none => .bad
  | _ => .bad
def srtSR (x : Res W) : Res W := x.bind srtSK
def xSrtSet (f : XE) : XE := fun σ h => srtSR (f σ h)
theorem se_srtSet {p3 p4 : Pos} (hc : X.calm = true) (hl : X.mg "sorted" = none) (hs : X.mg "set" = none) (ha : SE X G a fa) (hg1 : Gl X "sorted" := by rfl) (hg2 : Gl X "set" := by rfl) (he1 : starEach [Expr.Call (.Name "set" p2) [a] [] p3] X.env = (false, eval (.Call (.Name "set" p2) [a] [] p3) X.env) :: starEach [] X.env := by rfl) (he2 : starEach [a] X.env = (false, eval a X.env) :: starEach [] X.env := by rfl) :
    SE X G (.Call (.Name "sorted" p4) [.Call (.Name "set" p2) [a] [] p3] [] pos) (xSrtSet fa) :=
  .mk <| PE.mono (pe_callB (cr_srtS hc) hg1 hl (by decide +kernel) (pa_cons (pe_callTy (cr_setR hc) hg2 hs (by decide +kernel) (pa_cons ha.p pa_nil he2) (he := he2)) pa_nil he1) (he := he1)) fun τ H Q q => by
    obtain ⟨ρ, σ, h, S, L, q⟩ := q
    refine seq_E S L (k := srtSK) q fun w h1 ρ1 H1 v S1 L1 x1 r1 q1 => ?_
    cases w with
    | ref n =>
      unfold srtSK at q1
      dsimp only at q1
      cases hw : listAt h1 n with
      | none => simp only [hw] at q1; exact q1.elim
      | some ws =>
        simp only [hw] at q1
        cases hns : optAll asInt ws with
        | none => simp only [hns] at q1; exact q1.elim
        | some ns =>
          simp only [hns] at q1
          by_cases hlt : ns.length + 1 < scanBound ∧ (nD ns).length < 64
          · rw [if_pos hlt] at q1
            obtain ⟨a, vs, rfl, sq, rs⟩ := S1.list hw r1
            have e := rel_ints hns rs
            subst e
            refine ⟨a, ns, rfl, sq, hlt.1, fun p hp => ⟨p, nD ns, rfl, upd_same, hlt.2, fun ms D pm so hD => ?_⟩⟩
            rw [srtZ_eq pm so]
            have x2 : Ext ⟨X.K, G⟩ ρ1 H1 ρ1 (upd H1 p (SetX X.prog X.w p (nD ns))) := ext_new hp
            have S2 : HS ⟨X.K, G⟩ ρ1 h1 (upd H1 p (SetX X.prog X.w p (nD ns))) := S1.laid hp
            have rr : ∀ (ns : List Int) {ρ : List Addr} {H : Hp}, RelWs ⟨X.K, G⟩ ρ H (ns.map .int) (ns.map V.int) := fun ns => by
              intro ρ H
              induction ns with
              | nil => exact .nil
              | cons i r ih => exact .cons (.int i) ih
            have S3 := S2.push (p := D) (o := .lst ((srtZ (nD ns)).map V.int)) (ao := .lst ((srtZ (nD ns)).map .int)) hD (.lst upd_same (rr _)) (fun xs z => by cases z)
            refine q1 (ρ1 ++ [D]) _ (x2.trans (ext_push hD)) S3 _ (.ref ?_)
            rw [← S1.len]
            simp
          · rw [if_neg hlt] at q1; exact q1.elim
    | _ => exact q1.elim
theorem zSrt : (∀ (σ : SW) (h : AH) (f : XE), xSrtSet f σ h = srtSR (f σ h)) := fun _ _ _ => rfl
theorem srtS_at {h : AH} {n : Nat} {ns : List Int} (e : listAt h n = some (ns.map W.int)) (h1 : ns.length ≤ 63) (h2 : (nD ns).length < 64) : srtSR (.ok (.ref n) h) = .ok (.ref h.length) (h ++ [.lst ((srtZ (nD ns)).map .int)]) := by
  have oi : optAll asInt (ns.map W.int) = some ns := by
    clear e h1 h2
    induction ns with
    | nil => rfl
    | cons i r ih => rw [List.map_cons]; unfold optAll; rw [ih]; rfl
  unfold srtSR srtSK
  simp only [Res.bind_ok, e, oi]
  rw [if_pos ⟨by unfold scanBound; omega, h2⟩]
end
end Z
set_option Elab.async false
set_option linter.all false
set_option maxRecDepth 100000
set_option maxHeartbeats 4000000
namespace Q
open PySem PySem.Spec PyProof.Rows L2 Z

def top (i : Nat) : Stmt := PySem.Challenge.pw_laterletters_k04_whole_handed.main.body.getD i (.Pass ⟨0, 0, 0, 0⟩)
abbrev s_is_whole : Stmt := top 8
abbrev s_is_day : Stmt := top 9
abbrev s_is_happening : Stmt := top 10
abbrev s_is_person : Stmt := top 11
abbrev s_is_term : Stmt := top 12
abbrev s_are_heirs : Stmt := top 13
abbrev s_are_terms : Stmt := top 14
abbrev s_is_letter : Stmt := top 15
abbrev s_are_letters : Stmt := top 16
abbrev s_are_days : Stmt := top 17
abbrev s_term_day : Stmt := top 18
abbrev s_letter_day : Stmt := top 19
abbrev s_letter_days : Stmt := top 20
abbrev s_in_order : Stmt := top 21
abbrev s_first_heir : Stmt := top 22
abbrev s_handed_out : Stmt := top 29
abbrev s_check_letters : Stmt := top 30
abbrev s_check_days : Stmt := top 31
abbrev s__law_number : Stmt := top 33
abbrev s__law_term : Stmt := top 34
abbrev s__law_letter : Stmt := top 35
abbrev s__law_letters : Stmt := top 36
abbrev s__law_days : Stmt := top 37
abbrev s__law_copied : Stmt := top 38
abbrev s__law_dues : Stmt := top 39
abbrev s__law_gone : Stmt := top 40
abbrev s__law_order : Stmt := top 41
abbrev s_law : Stmt := top 42
abbrev n_is_whole : Nat := 0
abbrev n_is_day : Nat := 1
abbrev n_is_happening : Nat := 2
abbrev n_is_person : Nat := 3
abbrev n_is_term : Nat := 4
abbrev n_are_heirs : Nat := 5
abbrev n_are_terms : Nat := 6
abbrev n_is_letter : Nat := 7
abbrev n_are_letters : Nat := 8
abbrev n_are_days : Nat := 9
abbrev n_term_day : Nat := 10
abbrev n_letter_day : Nat := 11
abbrev n_letter_days : Nat := 12
abbrev n_in_order : Nat := 13
abbrev n_first_heir : Nat := 14
abbrev n_handed_out : Nat := 15
abbrev n_check_letters : Nat := 16
abbrev n_check_days : Nat := 17
abbrev n__law_number : Nat := 18
abbrev n__law_term : Nat := 19
abbrev n__law_letter : Nat := 20
abbrev n__law_letters : Nat := 21
abbrev n__law_days : Nat := 22
abbrev n__law_copied : Nat := 23
abbrev n__law_dues : Nat := 24
abbrev n__law_gone : Nat := 25
abbrev n__law_order : Nat := 26
abbrev n_law : Nat := 27
def c_is_whole (F : Fenv) : XS := (sSeq (sIf (yOr (yNot (bT (xCB bIsi (aCons (xVar 0) (aCons (xC (.ty "int")) aNil))))) (bT (xCB bIsi (aCons (xVar 0) (aCons (xC (.ty "bool")) aNil))))) (sRet (xC (.bl false))) sNx)
    (sRet (xCh oLe oLe (xVar 1) (xVar 0) (xVar 2))))
def c_is_day (F : Fenv) : XS := (sRet (xCall (F n_is_whole) 3 (aCons (xVar 0) (aCons (xC (.int 0)) (aCons (xC (.int 60)) aNil)))))
def c_is_happening (F : Fenv) : XS := (sRet (xCall (F n_is_whole) 3 (aCons (xVar 0) (aCons (xC (.int 0)) (aCons (xOp oSub (xC (.int 6)) (xC (.int 1))) aNil)))))
def c_is_person (F : Fenv) : XS := (sRet (xCall (F n_is_whole) 3 (aCons (xVar 0) (aCons (xC (.int 0)) (aCons (xOp oSub (xC (.int 10)) (xC (.int 1))) aNil)))))
def c_is_term (F : Fenv) : XS := (sSeq (sIf (yOr (yNot (bT (xCB bIsi (aCons (xVar 0) (aCons (xC (.ty "tuple")) aNil))))) (yOr (bT (xOp (oIn true) (xCB bLen (aCons (xVar 0) aNil)) (xTup (aCons (xC (.int 2)) (aCons (xC (.int 3)) aNil))))) (yNot (bT (xCB bIsi (aCons (xOp oIx (xVar 0) (xC (.int 0))) (aCons (xC (.ty "str")) aNil))))))) (sRet (xC (.bl false))) sNx)
    (sSeq (sIf (bT (xOp (oEqD false) (xCB bLen (aCons (xVar 0) aNil)) (xC (.int 2)))) (sRet (xAnd (xOp (oEqD false) (xOp oIx (xVar 0) (xC (.int 0))) (xC (.str "day"))) (xCall (F n_is_day) 1 (aCons (xOp oIx (xVar 0) (xC (.int 1))) aNil)))) sNx)
    (sSeq (sIf (yNot (bT (xCall (F n_is_whole) 3 (aCons (xOp oIx (xVar 0) (xC (.int 2))) (aCons (xC (.int 0)) (aCons (xC (.int 20)) aNil)))))) (sRet (xC (.bl false))) sNx)
    (sSeq (sIf (bT (xOp (oEqD false) (xOp oIx (xVar 0) (xC (.int 0))) (xC (.str "when")))) (sRet (xCall (F n_is_happening) 1 (aCons (xOp oIx (xVar 0) (xC (.int 1))) aNil))) sNx)
    (sRet (xAnd (xOp (oEqD false) (xOp oIx (xVar 0) (xC (.int 0))) (xC (.str "after"))) (xCall (F n_is_whole) 3 (aCons (xOp oIx (xVar 0) (xC (.int 1))) (aCons (xC (.int 0)) (aCons (xOp oSub (xVar 1) (xC (.int 1))) aNil))))))))))
def e_are_heirs_1 (F : Fenv) : XE := (xCall (F n_is_person) 1 (aCons (xVar 1) aNil))
def c_are_heirs (F : Fenv) : XS := (sSeq (sIf (yOr (yNot (bT (xCB bIsi (aCons (xVar 0) (aCons (xC (.ty "list")) aNil))))) (yNot (bT (xCh oLe oLe (xC (.int 1)) (xCB bLen (aCons (xVar 0) aNil)) (xC (.int 3)))))) (sRet (xC (.bl false))) sNx)
    (sRet (xAnd (xAllG (iSeq (xVar 0)) (gNm 1) (e_are_heirs_1 F) [1]) (xOp (oEqD false) (xLenSet (xVar 0)) (xCB bLen (aCons (xVar 0) aNil))))))
def e_are_terms_1 (F : Fenv) : XE := (xCall (F n_is_term) 2 (aCons (xVar 2) (aCons (xVar 1) aNil)))
def c_are_terms (F : Fenv) : XS := (sSeq (sIf (yOr (yNot (bT (xCB bIsi (aCons (xVar 0) (aCons (xC (.ty "list")) aNil))))) (yNot (bT (xCh oLe oLe (xC (.int 1)) (xCB bLen (aCons (xVar 0) aNil)) (xC (.int 4)))))) (sRet (xC (.bl false))) sNx)
    (sRet (xAllG (iSeq (xVar 0)) (gNm 2) (e_are_terms_1 F) [2])))
def c_is_letter (F : Fenv) : XS := (sSeq (sIf (yOr (yNot (bT (xCB bIsi (aCons (xVar 0) (aCons (xC (.ty "tuple")) aNil))))) (bT (xOp (oEqD true) (xCB bLen (aCons (xVar 0) aNil)) (xC (.int 2))))) (sRet (xC (.bl false))) sNx)
    (sSeq (sAsg (xVar 0) (gTp [(gNm 2), (gNm 3)]))
    (sRet (xAnd (xCall (F n_are_heirs) 1 (aCons (xVar 2) aNil)) (xCall (F n_are_terms) 2 (aCons (xVar 3) (aCons (xVar 1) aNil)))))))
def e_are_letters_1 (F : Fenv) : XE := (xCall (F n_is_letter) 2 (aCons (xVar 2) (aCons (xVar 1) aNil)))
def c_are_letters (F : Fenv) : XS := (sSeq (sIf (yOr (yNot (bT (xCB bIsi (aCons (xVar 0) (aCons (xC (.ty "list")) aNil))))) (yNot (bT (xCh oLe oLe (xC (.int 1)) (xCB bLen (aCons (xVar 0) aNil)) (xC (.int 40)))))) (sRet (xC (.bl false))) sNx)
    (sRet (xAllG (iEn (aCons (xVar 0) aNil)) (gTp [(gNm 1), (gNm 2)]) (e_are_letters_1 F) [1, 2])))
def e_are_days_1 (F : Fenv) : XE := (xOr (xIsN (xVar 2)) (xCall (F n_is_day) 1 (aCons (xVar 2) aNil)))
def c_are_days (F : Fenv) : XS := (sSeq (sIf (yOr (yNot (bT (xCB bIsi (aCons (xVar 0) (aCons (xC (.ty "list")) aNil))))) (bT (xOp (oEqD true) (xCB bLen (aCons (xVar 0) aNil)) (xVar 1)))) (sRet (xC (.bl false))) sNx)
    (sRet (xAllG (iSeq (xVar 0)) (gNm 2) (e_are_days_1 F) [2])))
def c_term_day (F : Fenv) : XS := (sSeq (sIf (bT (xOp (oEqD false) (xOp oIx (xVar 0) (xC (.int 0))) (xC (.str "day")))) (sRet (xOp oIx (xVar 0) (xC (.int 1)))) sNx)
    (sSeq (sSet 3 (xIf (bT (xOp (oEqD false) (xOp oIx (xVar 0) (xC (.int 0))) (xC (.str "when")))) (xOp oIx (xVar 1) (xOp oIx (xVar 0) (xC (.int 1)))) (xOp oIx (xVar 2) (xOp oIx (xVar 0) (xC (.int 1))))))
    (sRet (xIf (bT (xIsN (xVar 3))) (xC .non) (xOp oAdd (xVar 3) (xOp oIx (xVar 0) (xC (.int 2))))))))
def l_letter_day_1 (F : Fenv) : XS := (sSeq (sSet 5 (xCall (F n_term_day) 3 (aCons (xVar 4) (aCons (xVar 1) (aCons (xVar 2) aNil)))))
    (sSeq (sIf (bT (xIsN (xVar 5))) (sRet (xC .non)) sNx)
    (sSet 3 (xCB bMax (aCons (xVar 3) (aCons (xVar 5) aNil))))))
def c_letter_day (F : Fenv) : XS := (sSeq (sSet 3 (xC (.int 0)))
    (sSeq (sFor (iSeq (xOp oIx (xVar 0) (xC (.int 1)))) (gNm 4) (l_letter_day_1 F))
    (sRet (xVar 3))))
def l_letter_days_1 (F : Fenv) : XS := (sExpr (xBM oAppend (xVar 2) (aCons (xCall (F n_letter_day) 3 (aCons (xVar 3) (aCons (xVar 1) (aCons (xVar 2) aNil)))) aNil)))
def c_letter_days (F : Fenv) : XS := (sSeq (sSet 2 (xLst aNil))
    (sSeq (sFor (iSeq (xVar 0)) (gNm 3) (l_letter_days_1 F))
    (sRet (xVar 2))))
def e_in_order_1 (F : Fenv) : XE := (xTup (aCons (xVar 2) (aCons (xVar 1) aNil)))
def c_in_order (F : Fenv) : XS := (sRet (xSortG (iEn (aCons (xVar 0) aNil)) (gTp [(gNm 1), (gNm 2)]) (bT (xNotN (xVar 2))) (e_in_order_1 F) [1, 2]))
def l_first_heir_1 (F : Fenv) : XS := (sIf (yOr (bT (xIsN (xOp oIx (xVar 1) (xVar 3)))) (bT (xOp oLt (xVar 2) (xOp oIx (xVar 1) (xVar 3))))) (sRet (xVar 3)) sNx)
def c_first_heir (F : Fenv) : XS := (sSeq (sFor (iSeq (xOp oIx (xVar 0) (xC (.int 0)))) (gNm 3) (l_first_heir_1 F))
    (sRet (xC .non)))
def e_handed_out_1 (F : Fenv) : XE := (xTup (aCons (xVar 4) (aCons (xVar 5) (aCons (xCall (F n_first_heir) 3 (aCons (xOp oIx (xVar 0) (xVar 5)) (aCons (xVar 2) (aCons (xVar 4) aNil)))) aNil))))
def c_handed_out (F : Fenv) : XS := (sSeq (sExpr (xCall (F n_check_letters) 1 (aCons (xVar 0) aNil)))
    (sSeq (sExpr (xCall (F n_check_days) 1 (aCons (xVar 1) aNil)))
    (sSeq (sIf (yNot (bT (xCall (F n_are_days) 2 (aCons (xVar 2) (aCons (xC (.int 10)) aNil))))) sNever sNx)
    (sSeq (sSet 3 (xCall (F n_letter_days) 2 (aCons (xVar 0) (aCons (xVar 1) aNil))))
    (sRet (xLc (iSeq (xCall (F n_in_order) 1 (aCons (xVar 3) aNil))) (gTp [(gNm 4), (gNm 5)]) yYes (e_handed_out_1 F) [4, 5]))))))
def c_check_letters (F : Fenv) : XS := (sIf (yNot (bT (xCall (F n_are_letters) 1 (aCons (xVar 0) aNil)))) sNever sNx)
def c_check_days (F : Fenv) : XS := (sIf (yNot (bT (xCall (F n_are_days) 2 (aCons (xVar 0) (aCons (xC (.int 6)) aNil))))) sNever sNx)
def c__law_number (F : Fenv) : XS := (sSeq (sIf (bT (xOp oGe (xVar 0) (xOp oPow (xC (.int 10)) (xC (.int 18))))) (sRet (xVar 0)) sNx)
    (sSeq (sSet 3 (xOp oMod (xOp oAdd (xOp oMul (xOp oAdd (xVar 0) (xOp oMul (xC (.int 977)) (xVar 1))) (xC (.int 48271))) (xVar 2)) (xC (.int 2147483647))))
    (sSeq (sSet 4 (xOp oMul (xOp oMul (xVar 3) (xOp oAdd (xOp oAdd (xVar 3) (xOp oMul (xC (.int 31)) (xVar 1))) (xC (.int 7)))) (xOp oAdd (xOp oAdd (xVar 3) (xVar 0)) (xC (.int 5)))))
    (sRet (xOp oFdiv (xOp oMul (xVar 4) (xOp oAdd (xVar 4) (xC (.int 48271)))) (xC (.int 1009)))))))
def c__law_term (F : Fenv) : XS := (sSeq (sPar [3, 4] (aCons (xOp oIx (xTup (aCons (xOp oMod (xVar 0) (xC (.int 4))) (aCons (xC (.int 0)) (aCons (xC (.int 1)) (aCons (xOp oMod (xVar 0) (xC (.int 2))) aNil))))) (xVar 2)) (aCons (xOp oFdiv (xVar 0) (xC (.int 4))) aNil)))
    (sSeq (sIf (yAnd (bT (xOp (oEqD false) (xVar 3) (xC (.int 0)))) (bT (xOp oGt (xVar 1) (xC (.int 0))))) (sRet (xTup (aCons (xC (.str "after")) (aCons (xOp oIx (xTup (aCons (xOp oMod (xVar 4) (xVar 1)) (aCons (xOp oSub (xVar 1) (xC (.int 1))) aNil))) (xOp oMod (xOp oFdiv (xVar 4) (xC (.int 40))) (xC (.int 2)))) (aCons (xOp oMod (xOp oFdiv (xVar 4) (xC (.int 80))) (xC (.int 21))) aNil))))) sNx)
    (sSeq (sIf (bT (xOp oLt (xVar 3) (xC (.int 3)))) (sRet (xTup (aCons (xC (.str "when")) (aCons (xOp oMod (xVar 4) (xC (.int 6))) (aCons (xOp oMod (xOp oFdiv (xVar 4) (xC (.int 80))) (xC (.int 21))) aNil))))) sNx)
    (sRet (xTup (aCons (xC (.str "day")) (aCons (xOp oMod (xVar 4) (xC (.int 61))) aNil)))))))
def l__law_letter_1 (F : Fenv) : XS := (sSeq (sSet 7 (xOp oMod (xOp oAdd (xOp oFdiv (xVar 0) (xC (.int 36))) (xOp oMul (xC (.int 3)) (xVar 6))) (xC (.int 10))))
    (sExpr (xBM oAppend (xVar 3) (aCons (xVar 7) aNil))))
def l__law_letter_2 (F : Fenv) : XS := (sExpr (xBM oAppend (xVar 4) (aCons (xCall (F n__law_term) 3 (aCons (xOp oAdd (xOp oFdiv (xVar 5) (xOp oIx (xTup (aCons (xC (.int 1)) (aCons (xC (.int 7)) (aCons (xC (.int 49)) (aCons (xC (.int 343)) aNil))))) (xVar 6))) (xVar 6)) (aCons (xVar 1) (aCons (xVar 2) aNil)))) aNil)))
def c__law_letter (F : Fenv) : XS := (sSeq (sPar [3, 4, 5] (aCons (xLst aNil) (aCons (xLst aNil) (aCons (xOp oFdiv (xVar 0) (xC (.int 12))) aNil))))
    (sSeq (sFor (iRg1 (aCons (xOp oAdd (xC (.int 1)) (xOp oMod (xVar 0) (xC (.int 3)))) aNil)) (gNm 6) (l__law_letter_1 F))
    (sSeq (sFor (iRg1 (aCons (xOp oIx (xTup (aCons (xC (.int 1)) (aCons (xC (.int 2)) (aCons (xC (.int 1)) (aCons (xC (.int 4)) aNil))))) (xOp oMod (xOp oFdiv (xVar 0) (xC (.int 3))) (xC (.int 4)))) aNil)) (gNm 6) (l__law_letter_2 F))
    (sRet (xTup (aCons (xVar 3) (aCons (xVar 4) aNil)))))))
def l__law_letters_1 (F : Fenv) : XS := (sExpr (xBM oAppend (xVar 5) (aCons (xCall (F n__law_letter) 3 (aCons (xOp oFdiv (xCall (F n__law_number) 3 (aCons (xOp oAdd (xOp oIx (xVar 3) (xOp oMod (xOp oAdd (xVar 8) (xVar 1)) (xCB bLen (aCons (xVar 3) aNil)))) (xVar 8)) (aCons (xOp oAdd (xVar 8) (xVar 1)) (aCons (xVar 4) aNil)))) (xC (.int 3))) (aCons (xVar 8) (aCons (xVar 7) aNil)))) aNil)))
def c__law_letters (F : Fenv) : XS := (sSeq (sSet 3 (xIf (bT (xOp (oEqD true) (xVar 0) (xLst aNil))) (xSl (xVar 0) pNone (pSome (xC (.int 63)))) (xLst (aCons (xC (.int 5)) aNil))))
    (sSeq (sPar [4, 5] (aCons (xOp oAdd (xCB bSum (aCons (xVar 3) aNil)) (xVar 1)) (aCons (xLst aNil) aNil)))
    (sSeq (sPar [6, 7] (aCons (xOp oAdd (xC (.int 1)) (xOp oMod (xOp oFdiv (xCall (F n__law_number) 3 (aCons (xVar 4) (aCons (xOp oAdd (xVar 1) (xC (.int 1))) (aCons (xC (.int 3)) aNil)))) (xC (.int 9))) (xVar 2))) (aCons (xOp oMod (xOp oFdiv (xCall (F n__law_number) 3 (aCons (xVar 4) (aCons (xOp oAdd (xVar 1) (xC (.int 1))) (aCons (xC (.int 3)) aNil)))) (xC (.int 360))) (xC (.int 4))) aNil)))
    (sSeq (sFor (iRg1 (aCons (xVar 6) aNil)) (gNm 8) (l__law_letters_1 F))
    (sRet (xVar 5))))))
def l__law_days_1 (F : Fenv) : XS := (sSeq (sSet 7 (xOp oFdiv (xCall (F n__law_number) 3 (aCons (xOp oAdd (xOp oIx (xVar 2) (xOp oMod (xOp oAdd (xVar 6) (xVar 1)) (xCB bLen (aCons (xVar 2) aNil)))) (xOp oMul (xC (.int 11)) (xVar 6))) (aCons (xOp oAdd (xVar 6) (xVar 1)) (aCons (xVar 3) aNil)))) (xC (.int 3))))
    (sExpr (xBM oAppend (xVar 4) (aCons (xOp oIx (xTup (aCons (xOp oMod (xVar 7) (xC (.int 61))) (aCons (xIf (bT (xOp oGt (xOp oMod (xOp oFdiv (xVar 7) (xC (.int 61))) (xC (.int 4))) (xC (.int 0)))) (xOp oMod (xVar 7) (xC (.int 61))) (xC .non)) (aCons (xC .non) (aCons (xOp oMod (xVar 3) (xC (.int 61))) aNil))))) (xVar 5)) aNil))))
def c__law_days (F : Fenv) : XS := (sSeq (sSet 2 (xIf (bT (xOp (oEqD true) (xVar 0) (xLst aNil))) (xSl (xVar 0) pNone (pSome (xC (.int 63)))) (xLst (aCons (xC (.int 5)) aNil))))
    (sSeq (sPar [3, 4] (aCons (xOp oAdd (xCB bSum (aCons (xVar 2) aNil)) (xVar 1)) (aCons (xLst aNil) aNil)))
    (sSeq (sSet 5 (xOp oMod (xOp oFdiv (xCall (F n__law_number) 3 (aCons (xVar 3) (aCons (xOp oAdd (xVar 1) (xC (.int 1))) (aCons (xC (.int 3)) aNil)))) (xC (.int 1440))) (xC (.int 4))))
    (sSeq (sFor (iRg1 (aCons (xC (.int 6)) aNil)) (gNm 6) (l__law_days_1 F))
    (sRet (xVar 4))))))
def e__law_copied_1 (F : Fenv) : XE := (xTup (aCons (xCB bList (aCons (xVar 1) aNil)) (aCons (xCB bList (aCons (xVar 2) aNil)) aNil)))
def c__law_copied (F : Fenv) : XS := (sRet (xLc (iSeq (xVar 0)) (gTp [(gNm 1), (gNm 2)]) yYes (e__law_copied_1 F) [1, 2]))
def l__law_dues_1 (F : Fenv) : XS := (sSeq (sAsg (xIf (bT (xOp (oEqD false) (xOp oIx (xVar 6) (xC (.int 0))) (xC (.str "after")))) (xTup (aCons (xVar 2) (aCons (xOp oIx (xVar 6) (xNeg (xC (.int 1)))) aNil))) (xTup (aCons (xVar 1) (aCons (xOp oIx (xVar 6) (xNeg (xC (.int 1)))) aNil)))) (gTp [(gNm 7), (gNm 8)]))
    (sSeq (sSet 9 (xIf (bT (xOp (oEqD false) (xOp oIx (xVar 6) (xC (.int 0))) (xC (.str "day")))) (xC (.int 0)) (xOp oIx (xVar 7) (xOp oIx (xVar 6) (xC (.int 1))))))
    (sSet 5 (xIf (yOr (bT (xIsN (xVar 9))) (bT (xIsN (xVar 5)))) (xC .non) (xCB bMax (aCons (xVar 5) (aCons (xOp oAdd (xVar 9) (xVar 8)) aNil)))))))
def l__law_dues_2 (F : Fenv) : XS := (sSeq (sSet 5 (xC (.int 0)))
    (sSeq (sFor (iSeq (xVar 4)) (gNm 6) (l__law_dues_1 F))
    (sExpr (xBM oAppend (xVar 2) (aCons (xVar 5) aNil)))))
def c__law_dues (F : Fenv) : XS := (sSeq (sSet 2 (xLst aNil))
    (sSeq (sFor (iSeq (xVar 0)) (gTp [(gNm 3), (gNm 4)]) (l__law_dues_2 F))
    (sRet (xVar 2))))
def e__law_gone_1 (F : Fenv) : XE := (xCB bMin (aCons (xC (.int 60)) (aCons (xVar 9) aNil)))
def l__law_gone_2 (F : Fenv) : XS := (sSeq (sSet 8 (xOp oFdiv (xCall (F n__law_number) 3 (aCons (xOp oAdd (xOp oIx (xVar 3) (xOp oMod (xOp oAdd (xVar 7) (xVar 1)) (xCB bLen (aCons (xVar 3) aNil)))) (xOp oMul (xC (.int 17)) (xVar 7))) (aCons (xOp oAdd (xVar 7) (xVar 1)) (aCons (xVar 4) aNil)))) (xC (.int 3))))
    (sSeq (sSet 9 (xCB bMin (aCons (xC (.int 60)) (aCons (xCB bMax (aCons (xC (.int 0)) (aCons (xOp oSub (xOp oAdd (xOp oIx (xVar 6) (xOp oMod (xOp oFdiv (xVar 8) (xC (.int 4))) (xCB bLen (aCons (xVar 6) aNil)))) (xOp oMod (xOp oFdiv (xVar 8) (xC (.int 160))) (xC (.int 3)))) (xC (.int 1))) aNil))) aNil))))
    (sExpr (xBM oAppend (xVar 5) (aCons (xOp oIx (xTup (aCons (xC .non) (aCons (xVar 9) (aCons (xOp oMod (xOp oFdiv (xVar 8) (xC (.int 480))) (xC (.int 61))) (aCons (xC (.int 0)) aNil))))) (xOp oMod (xVar 8) (xC (.int 4)))) aNil)))))
def c__law_gone (F : Fenv) : XS := (sSeq (sSet 3 (xIf (bT (xOp (oEqD true) (xVar 0) (xLst aNil))) (xSl (xVar 0) pNone (pSome (xC (.int 63)))) (xLst (aCons (xC (.int 5)) aNil))))
    (sSeq (sPar [4, 5] (aCons (xOp oAdd (xCB bSum (aCons (xVar 3) aNil)) (xVar 1)) (aCons (xLst aNil) aNil)))
    (sSeq (sSet 6 (xOp oAdd (xLc (iSeq (xVar 2)) (gNm 9) (bT (xNotN (xVar 9))) (e__law_gone_1 F) [9]) (xLst (aCons (xC (.int 30)) aNil))))
    (sSeq (sFor (iRg1 (aCons (xC (.int 10)) aNil)) (gNm 7) (l__law_gone_2 F))
    (sRet (xVar 5))))))
def e__law_order_1 (F : Fenv) : XE := (xVar 10)
def e__law_order_2 (F : Fenv) : XE := (xVar 10)
def l__law_order_3 (F : Fenv) : XS := (sIf (bT (xOp (oEqD false) (xOp oIx (xVar 4) (xVar 6)) (xVar 5))) (sSeq (sSet 9 (xLc (iSeq (xVar 7)) (gNm 10) (yOr (bT (xIsN (xOp oIx (xVar 2) (xVar 10)))) (bT (xOp oLt (xVar 5) (xOp oIx (xVar 2) (xVar 10))))) (e__law_order_2 F) [10]))
    (sExpr (xBM oAppend (xVar 3) (aCons (xTup (aCons (xVar 5) (aCons (xVar 6) (aCons (xIf (bT (xOp (oEqD true) (xVar 9) (xLst aNil))) (xOp oIx (xVar 9) (xC (.int 0))) (xC .non)) aNil)))) aNil)))) sNx)
def l__law_order_4 (F : Fenv) : XS := (sFor (iEn (aCons (xVar 0) aNil)) (gTp [(gNm 6), (gTp [(gNm 7), (gNm 8)])]) (l__law_order_3 F))
def c__law_order (F : Fenv) : XS := (sSeq (sPar [3, 4] (aCons (xLst aNil) (aCons (xCall (F n__law_dues) 2 (aCons (xVar 0) (aCons (xVar 1) aNil))) aNil)))
    (sSeq (sFor (iSeq (xSrtSet (xLc (iSeq (xVar 4)) (gNm 10) (bT (xNotN (xVar 10))) (e__law_order_1 F) [10]))) (gNm 5) (l__law_order_4 F))
    (sRet (xVar 3))))
def e_law_1 (F : Fenv) : XE := (xCB bIsi (aCons (xVar 11) (aCons (xC (.ty "tuple")) aNil)))
def l_law_2 (F : Fenv) : XS := (sSeq (sSet 9 (xCall (F n_handed_out) 3 (aCons (xOp oIx (xVar 7) (xC (.int 0))) (aCons (xOp oIx (xVar 7) (xC (.int 1))) (aCons (xOp oIx (xVar 7) (xC (.int 2))) aNil)))))
    (sSeq (sIf (yOr (yNot (bT (xCB bIsi (aCons (xVar 9) (aCons (xC (.ty "list")) aNil))))) (bT (xOp (oEqD true) (xVar 9) (xCall (F n__law_order) 3 (aCons (xVar 3) (aCons (xVar 4) (aCons (xVar 6) aNil))))))) (sRet (xC (.bl false))) sNx)
    (sSeq (sIf (yOr (bT (xOp (oEqD true) (xVar 7) (xLst (aCons (xVar 3) (aCons (xVar 4) (aCons (xVar 6) aNil)))))) (yNot (bT (xCB (bAll false) (aCons (xLc (iSeq (xVar 9)) (gNm 11) yYes (e_law_1 F) [11]) aNil))))) (sRet (xC (.bl false))) sNx)
    (sExpr (xBM oAppend (xVar 9) (aCons (xTup aNil) aNil))))))
def l_law_3 (F : Fenv) : XS := (sSeq (sSet 7 (xLst (aCons (xCall (F n__law_copied) 1 (aCons (xVar 3) aNil)) (aCons (xCB bList (aCons (xVar 4) aNil)) (aCons (xCB bList (aCons (xVar 6) aNil)) aNil)))))
    (sSeq (sFor (iRg1 (aCons (xC (.int 2)) aNil)) (gNm 8) (l_law_2 F))
    (sSeq (sSub (xOp oMod (xOp oFdiv (xVar 1) (xC (.int 10))) (xC (.int 61))) (xOp oIx (xVar 7) (xC (.int 2))) (xOp oMod (xVar 1) (xC (.int 10))))
    (sSeq (sExpr (xBM0 oReverse (xOp oIx (xOp oIx (xOp oIx (xVar 7) (xC (.int 0))) (xNeg (xC (.int 1)))) (xC (.int 0)))))
    (sIf (bT (xOp (oEqD true) (xCall (F n_handed_out) 3 (aCons (xOp oIx (xVar 7) (xC (.int 0))) (aCons (xOp oIx (xVar 7) (xC (.int 1))) (aCons (xOp oIx (xVar 7) (xC (.int 2))) aNil)))) (xCall (F n__law_order) 3 (aCons (xOp oIx (xVar 7) (xC (.int 0))) (aCons (xVar 4) (aCons (xOp oIx (xVar 7) (xC (.int 2))) aNil)))))) (sRet (xC (.bl false))) sNx)))))
def l_law_4 (F : Fenv) : XS := (sSeq (sPar [3, 4] (aCons (xCall (F n__law_letters) 3 (aCons (xVar 0) (aCons (xVar 2) (aCons (xC (.int 40)) aNil)))) (aCons (xCall (F n__law_days) 2 (aCons (xVar 0) (aCons (xVar 2) aNil))) aNil)))
    (sSeq (sSet 5 (xCall (F n__law_gone) 3 (aCons (xVar 0) (aCons (xVar 2) (aCons (xCall (F n__law_dues) 2 (aCons (xVar 3) (aCons (xVar 4) aNil))) aNil)))))
    (sFor (iSeq (xTup (aCons (xVar 5) (aCons (xOp oMul (xLst (aCons (xC .non) aNil)) (xC (.int 10))) (aCons (xOp oMul (xLst (aCons (xC (.int 0)) aNil)) (xC (.int 10))) aNil))))) (gNm 6) (l_law_3 F))))
def c_law (F : Fenv) : XS := (sSeq (sSet 1 (xCB bSum (aCons (xSl (xVar 0) pNone (pSome (xC (.int 63)))) aNil)))
    (sSeq (sFor (iRg1 (aCons (xC (.int 2)) aNil)) (gNm 2) (l_law_4 F))
    (sSeq (sPar [3, 5] (aCons (xLst (aCons (xTup (aCons (xLst (aCons (xC (.int 3)) (aCons (xC (.int 1)) aNil))) (aCons (xLst (aCons (xTup (aCons (xC (.str "day")) (aCons (xC (.int 5)) aNil))) aNil)) aNil))) (aCons (xTup (aCons (xLst (aCons (xC (.int 1)) aNil)) (aCons (xLst (aCons (xTup (aCons (xC (.str "day")) (aCons (xC (.int 4)) aNil))) aNil)) aNil))) (aCons (xTup (aCons (xLst (aCons (xC (.int 2)) aNil)) (aCons (xLst (aCons (xTup (aCons (xC (.str "when")) (aCons (xC (.int 0)) (aCons (xC (.int 0)) aNil)))) aNil)) aNil))) aNil)))) (aCons (xOp oMul (xLst (aCons (xC .non) aNil)) (xC (.int 10))) aNil)))
    (sSeq (sSub (xC (.int 5)) (xVar 5) (xC (.int 3)))
    (sSeq (sSet 10 (xLst (aCons (xTup (aCons (xLst (aCons (xC (.int 3)) (aCons (xC (.int 1)) aNil))) (aCons (xLst (aCons (xTup (aCons (xC (.str "day")) (aCons (xC (.int 5)) aNil))) aNil)) aNil))) (aCons (xTup (aCons (xLst (aCons (xC (.int 3)) aNil)) (aCons (xLst (aCons (xTup (aCons (xC (.str "day")) (aCons (xC (.int 5)) aNil))) aNil)) aNil))) (aCons (xTup (aCons (xLst (aCons (xC (.int 3)) aNil)) (aCons (xLst (aCons (xTup (aCons (xC (.str "day")) (aCons (xC (.int 4)) aNil))) aNil)) aNil))) aNil)))))
    (sSeq (sSub (xC (.int 5)) (xVar 5) (xC (.int 1)))
    (sSeq (sIf (bT (xOp (oEqD true) (xCall (F n_handed_out) 3 (aCons (xVar 10) (aCons (xOp oMul (xLst (aCons (xC .non) aNil)) (xC (.int 6))) (aCons (xVar 5) aNil)))) (xLst (aCons (xTup (aCons (xC (.int 4)) (aCons (xC (.int 2)) (aCons (xC (.int 3)) aNil)))) (aCons (xTup (aCons (xC (.int 5)) (aCons (xC (.int 0)) (aCons (xC .non) aNil)))) (aCons (xTup (aCons (xC (.int 5)) (aCons (xC (.int 1)) (aCons (xC .non) aNil)))) aNil)))))) (sRet (xC (.bl false))) sNx)
    (sSeq (sSub (xC .non) (xVar 5) (xC (.int 1)))
    (sRet (xOp (oEqD false) (xCall (F n_handed_out) 3 (aCons (xVar 3) (aCons (xOp oMul (xLst (aCons (xC .non) aNil)) (xC (.int 6))) (aCons (xVar 5) aNil)))) (xLst (aCons (xTup (aCons (xC (.int 4)) (aCons (xC (.int 1)) (aCons (xC (.int 1)) aNil)))) (aCons (xTup (aCons (xC (.int 5)) (aCons (xC (.int 0)) (aCons (xC (.int 1)) aNil)))) aNil)))))))))))))
/-- the readings of all defs, a call deeper -/
def step (F : Fenv) : Fenv := fun j => match j with
  | 0 => runB 3 (c_is_whole F)
  | 1 => runB 1 (c_is_day F)
  | 2 => runB 1 (c_is_happening F)
  | 3 => runB 1 (c_is_person F)
  | 4 => runB 2 (c_is_term F)
  | 5 => runB 2 (c_are_heirs F)
  | 6 => runB 3 (c_are_terms F)
  | 7 => runB 4 (c_is_letter F)
  | 8 => runB 3 (c_are_letters F)
  | 9 => runB 3 (c_are_days F)
  | 10 => runB 4 (c_term_day F)
  | 11 => runB 6 (c_letter_day F)
  | 12 => runB 4 (c_letter_days F)
  | 13 => runB 3 (c_in_order F)
  | 14 => runB 4 (c_first_heir F)
  | 15 => runB 6 (c_handed_out F)
  | 16 => runB 1 (c_check_letters F)
  | 17 => runB 1 (c_check_days F)
  | 18 => runB 5 (c__law_number F)
  | 19 => runB 5 (c__law_term F)
  | 20 => runB 8 (c__law_letter F)
  | 21 => runB 9 (c__law_letters F)
  | 22 => runB 8 (c__law_days F)
  | 23 => runB 3 (c__law_copied F)
  | 24 => runB 10 (c__law_dues F)
  | 25 => runB 10 (c__law_gone F)
  | 26 => runB 11 (c__law_order F)
  | 27 => runB 12 (c_law F)
  | _ => fun _ _ => .bad
def fenv : Nat → Fenv
  | 0 => fun _ _ _ => .bad
  | k + 1 => step (fenv k)
/-- addresses -/
structure Ad where
  a_is_whole : Addr
  d_is_whole : FuncData
  a_is_day : Addr
  d_is_day : FuncData
  a_is_happening : Addr
  d_is_happening : FuncData
  a_is_person : Addr
  d_is_person : FuncData
  a_is_term : Addr
  d_is_term : FuncData
  a_are_heirs : Addr
  d_are_heirs : FuncData
  t_are_heirs : Addr × Addr
  a_are_terms : Addr
  d_are_terms : FuncData
  t_are_terms : Addr × Addr
  a_is_letter : Addr
  d_is_letter : FuncData
  a_are_letters : Addr
  d_are_letters : FuncData
  t_are_letters : Addr × Addr
  a_are_days : Addr
  d_are_days : FuncData
  t_are_days : Addr × Addr
  a_term_day : Addr
  d_term_day : FuncData
  a_letter_day : Addr
  d_letter_day : FuncData
  a_letter_days : Addr
  d_letter_days : FuncData
  a_in_order : Addr
  d_in_order : FuncData
  t_in_order : Addr × Addr
  a_first_heir : Addr
  d_first_heir : FuncData
  a_handed_out : Addr
  d_handed_out : FuncData
  a_check_letters : Addr
  d_check_letters : FuncData
  a_check_days : Addr
  d_check_days : FuncData
  a__law_number : Addr
  d__law_number : FuncData
  a__law_term : Addr
  d__law_term : FuncData
  a__law_letter : Addr
  d__law_letter : FuncData
  a__law_letters : Addr
  d__law_letters : FuncData
  a__law_days : Addr
  d__law_days : FuncData
  a__law_copied : Addr
  d__law_copied : FuncData
  a__law_dues : Addr
  d__law_dues : FuncData
  a__law_gone : Addr
  d__law_gone : FuncData
  a__law_order : Addr
  d__law_order : FuncData
  a_law : Addr
  d_law : FuncData
def gl (A : Ad) : GT := ⟨[], [A.t_are_heirs, A.t_are_terms, A.t_are_letters, A.t_are_days, A.t_in_order]⟩
/-- what stands behind the top -/
structure Tx (K : PySem.W.Frag) (mg : Str → Option Value) (A : Ad) : Prop where
  f_is_whole : FnFact K mg "is_whole" "is_whole" s_is_whole ["value", "least", "most"] A.a_is_whole A.d_is_whole
  f_is_day : FnFact K mg "is_day" "is_day" s_is_day ["value"] A.a_is_day A.d_is_day
  f_is_happening : FnFact K mg "is_happening" "is_happening" s_is_happening ["value"] A.a_is_happening A.d_is_happening
  f_is_person : FnFact K mg "is_person" "is_person" s_is_person ["value"] A.a_is_person A.d_is_person
  f_is_term : FnFact K mg "is_term" "is_term" s_is_term ["term", "place"] A.a_is_term A.d_is_term
  f_are_heirs : FnFact K mg "are_heirs" "are_heirs" s_are_heirs ["heirs"] A.a_are_heirs A.d_are_heirs
  t_are_heirs : CdFact K A.d_are_heirs A.t_are_heirs
  f_are_terms : FnFact K mg "are_terms" "are_terms" s_are_terms ["terms", "place"] A.a_are_terms A.d_are_terms
  t_are_terms : CdFact K A.d_are_terms A.t_are_terms
  f_is_letter : FnFact K mg "is_letter" "is_letter" s_is_letter ["letter", "place"] A.a_is_letter A.d_is_letter
  f_are_letters : FnFact K mg "are_letters" "are_letters" s_are_letters ["letters"] A.a_are_letters A.d_are_letters
  t_are_letters : CdFact K A.d_are_letters A.t_are_letters
  f_are_days : FnFact K mg "are_days" "are_days" s_are_days ["days", "many"] A.a_are_days A.d_are_days
  t_are_days : CdFact K A.d_are_days A.t_are_days
  f_term_day : FnFact K mg "term_day" "term_day" s_term_day ["term", "days", "due"] A.a_term_day A.d_term_day
  f_letter_day : FnFact K mg "letter_day" "letter_day" s_letter_day ["letter", "days", "due"] A.a_letter_day A.d_letter_day
  f_letter_days : FnFact K mg "letter_days" "letter_days" s_letter_days ["letters", "days"] A.a_letter_days A.d_letter_days
  f_in_order : FnFact K mg "in_order" "in_order" s_in_order ["due"] A.a_in_order A.d_in_order
  t_in_order : CdFact K A.d_in_order A.t_in_order
  f_first_heir : FnFact K mg "first_heir" "first_heir" s_first_heir ["letter", "gone", "day"] A.a_first_heir A.d_first_heir
  f_handed_out : FnFact K mg "handed_out" "handed_out" s_handed_out ["letters", "days", "gone"] A.a_handed_out A.d_handed_out
  f_check_letters : FnFact K mg "check_letters" "check_letters" s_check_letters ["letters"] A.a_check_letters A.d_check_letters
  f_check_days : FnFact K mg "check_days" "check_days" s_check_days ["days"] A.a_check_days A.d_check_days
  f__law_number : FnFact K mg "_law_number" "_law_number" s__law_number ["_law_cell", "_law_at", "_law_whole"] A.a__law_number A.d__law_number
  f__law_term : FnFact K mg "_law_term" "_law_term" s__law_term ["_law_number_here", "_law_at", "_law_kind"] A.a__law_term A.d__law_term
  f__law_letter : FnFact K mg "_law_letter" "_law_letter" s__law_letter ["_law_number_here", "_law_at", "_law_kind"] A.a__law_letter A.d__law_letter
  f__law_letters : FnFact K mg "_law_letters" "_law_letters" s__law_letters ["_law_script", "_law_by", "_law_most"] A.a__law_letters A.d__law_letters
  f__law_days : FnFact K mg "_law_days" "_law_days" s__law_days ["_law_script", "_law_by"] A.a__law_days A.d__law_days
  f__law_copied : FnFact K mg "_law_copied" "_law_copied" s__law_copied ["_law_letters_here"] A.a__law_copied A.d__law_copied
  f__law_dues : FnFact K mg "_law_dues" "_law_dues" s__law_dues ["_law_letters_here", "_law_days_here"] A.a__law_dues A.d__law_dues
  f__law_gone : FnFact K mg "_law_gone" "_law_gone" s__law_gone ["_law_script", "_law_by", "_law_dues_here"] A.a__law_gone A.d__law_gone
  f__law_order : FnFact K mg "_law_order" "_law_order" s__law_order ["_law_letters_here", "_law_days_here", "_law_gone_here"] A.a__law_order A.d__law_order
  f_law : FnFact K mg "law" "law" s_law ["_law_script"] A.a_law A.d_law
  n_all : mg "all" = none
  n_bool : mg "bool" = none
  n_enumerate : mg "enumerate" = none
  n_int : mg "int" = none
  n_isinstance : mg "isinstance" = none
  n_len : mg "len" = none
  n_list : mg "list" = none
  n_max : mg "max" = none
  n_min : mg "min" = none
  n_range : mg "range" = none
  n_set : mg "set" = none
  n_sorted : mg "sorted" = none
  n_str : mg "str" = none
  n_sum : mg "sum" = none
  n_tuple : mg "tuple" = none
  g_HAPPENINGS : ∃ t, mg "HAPPENINGS" = some (.int 6 t)
  g_LAST_DAY : ∃ t, mg "LAST_DAY" = some (.int 60 t)
  g_LONGEST_DELAY : ∃ t, mg "LONGEST_DELAY" = some (.int 20 t)
  g_MOST_HEIRS : ∃ t, mg "MOST_HEIRS" = some (.int 3 t)
  g_MOST_LETTERS : ∃ t, mg "MOST_LETTERS" = some (.int 40 t)
  g_MOST_TERMS : ∃ t, mg "MOST_TERMS" = some (.int 4 t)
  g_PEOPLE : ∃ t, mg "PEOPLE" = some (.int 10 t)
/-- the promises a call lower -/
structure Ih (P : Program) (w : World) (K : PySem.W.Frag) (mg : Str → Option Value) (base : Heap) (A : Ad) (k : Nat) (F : Fenv) : Prop where
  i_is_whole : FnOk P w K mg base CX0 k A.a_is_whole A.d_is_whole ["value", "least", "most"] (spF K (gl A) 3 (F 0))
  i_is_day : FnOk P w K mg base CX0 k A.a_is_day A.d_is_day ["value"] (spF K (gl A) 1 (F 1))
  i_is_happening : FnOk P w K mg base CX0 k A.a_is_happening A.d_is_happening ["value"] (spF K (gl A) 1 (F 2))
  i_is_person : FnOk P w K mg base CX0 k A.a_is_person A.d_is_person ["value"] (spF K (gl A) 1 (F 3))
  i_is_term : FnOk P w K mg base CX0 k A.a_is_term A.d_is_term ["term", "place"] (spF K (gl A) 2 (F 4))
  i_are_heirs : FnOk P w K mg base CX0 k A.a_are_heirs A.d_are_heirs ["heirs"] (spF K (gl A) 1 (F 5))
  i_are_terms : FnOk P w K mg base CX0 k A.a_are_terms A.d_are_terms ["terms", "place"] (spF K (gl A) 2 (F 6))
  i_is_letter : FnOk P w K mg base CX0 k A.a_is_letter A.d_is_letter ["letter", "place"] (spF K (gl A) 2 (F 7))
  i_are_letters : FnOk P w K mg base CX0 k A.a_are_letters A.d_are_letters ["letters"] (spF K (gl A) 1 (F 8))
  i_are_days : FnOk P w K mg base CX0 k A.a_are_days A.d_are_days ["days", "many"] (spF K (gl A) 2 (F 9))
  i_term_day : FnOk P w K mg base CX0 k A.a_term_day A.d_term_day ["term", "days", "due"] (spF K (gl A) 3 (F 10))
  i_letter_day : FnOk P w K mg base CX0 k A.a_letter_day A.d_letter_day ["letter", "days", "due"] (spF K (gl A) 3 (F 11))
  i_letter_days : FnOk P w K mg base CX0 k A.a_letter_days A.d_letter_days ["letters", "days"] (spF K (gl A) 2 (F 12))
  i_in_order : FnOk P w K mg base CX0 k A.a_in_order A.d_in_order ["due"] (spF K (gl A) 1 (F 13))
  i_first_heir : FnOk P w K mg base CX0 k A.a_first_heir A.d_first_heir ["letter", "gone", "day"] (spF K (gl A) 3 (F 14))
  i_handed_out : FnOk P w K mg base CX0 k A.a_handed_out A.d_handed_out ["letters", "days", "gone"] (spF K (gl A) 3 (F 15))
  i_check_letters : FnOk P w K mg base CX0 k A.a_check_letters A.d_check_letters ["letters"] (spF K (gl A) 1 (F 16))
  i_check_days : FnOk P w K mg base CX0 k A.a_check_days A.d_check_days ["days"] (spF K (gl A) 1 (F 17))
  i__law_number : FnOk P w K mg base CX0 k A.a__law_number A.d__law_number ["_law_cell", "_law_at", "_law_whole"] (spF K (gl A) 3 (F 18))
  i__law_term : FnOk P w K mg base CX0 k A.a__law_term A.d__law_term ["_law_number_here", "_law_at", "_law_kind"] (spF K (gl A) 3 (F 19))
  i__law_letter : FnOk P w K mg base CX0 k A.a__law_letter A.d__law_letter ["_law_number_here", "_law_at", "_law_kind"] (spF K (gl A) 3 (F 20))
  i__law_letters : FnOk P w K mg base CX0 k A.a__law_letters A.d__law_letters ["_law_script", "_law_by", "_law_most"] (spF K (gl A) 3 (F 21))
  i__law_days : FnOk P w K mg base CX0 k A.a__law_days A.d__law_days ["_law_script", "_law_by"] (spF K (gl A) 2 (F 22))
  i__law_copied : FnOk P w K mg base CX0 k A.a__law_copied A.d__law_copied ["_law_letters_here"] (spF K (gl A) 1 (F 23))
  i__law_dues : FnOk P w K mg base CX0 k A.a__law_dues A.d__law_dues ["_law_letters_here", "_law_days_here"] (spF K (gl A) 2 (F 24))
  i__law_gone : FnOk P w K mg base CX0 k A.a__law_gone A.d__law_gone ["_law_script", "_law_by", "_law_dues_here"] (spF K (gl A) 3 (F 25))
  i__law_order : FnOk P w K mg base CX0 k A.a__law_order A.d__law_order ["_law_letters_here", "_law_days_here", "_law_gone_here"] (spF K (gl A) 3 (F 26))
  i_law : FnOk P w K mg base CX0 k A.a_law A.d_law ["_law_script"] (spF K (gl A) 1 (F 27))
section
variable {P : Program} {w : World} {K : PySem.W.Frag} {mg : Str → Option Value} {base : Heap} {A0 : Ad} {k : Nat} {F : Fenv}
theorem sc_is_whole : FnScope ["value", "least", "most"] ["value", "least", "most"] (defScope s_is_whole) := ⟨rfl, rfl, rfl, by decide +kernel, rfl, by decide +kernel, by decide +kernel⟩
theorem ok_is_whole (T : Tx K mg A0) (I : Ih P w K mg base A0 k F) : FnOk P w K mg base CX0 (k + 2) A0.a_is_whole A0.d_is_whole ["value", "least", "most"] (spF K (gl A0) 3 (runB 3 (c_is_whole F))) := by
  refine fn_S T.f_is_whole.F sc_is_whole fun cdv A outer s H E hr1 => ?_
  have hr := hr1.mono (Nat.le_succ k)
  have nd := sc_is_whole.nd
  exact (sb_cons (ss_if (st_w (sw_or (st_not (st_val (se_blt isi_S rfl T.n_isinstance (by decide +kernel) (sa_cons (se_var 0) (sa_cons (se_tyv rfl T.n_int (by decide +kernel)) sa_nil))))) (sw_or1 (st_val (se_blt isi_S rfl T.n_isinstance (by decide +kernel) (sa_cons (se_var 0) (sa_cons (se_tyv rfl T.n_bool (by decide +kernel)) sa_nil))))))) (sb_one (ss_ret se_bl)) sb_nil)
    (sb_one (ss_ret (se_chain le_S le_S (se_var 1) (se_var 0) (se_var 2)))))
theorem sc_is_day : FnScope ["value"] ["value"] (defScope s_is_day) := ⟨rfl, rfl, rfl, by decide +kernel, rfl, by decide +kernel, by decide +kernel⟩
theorem ok_is_day (T : Tx K mg A0) (I : Ih P w K mg base A0 k F) : FnOk P w K mg base CX0 (k + 2) A0.a_is_day A0.d_is_day ["value"] (spF K (gl A0) 1 (runB 1 (c_is_day F))) := by
  refine fn_S T.f_is_day.F sc_is_day fun cdv A outer s H E hr1 => ?_
  have hr := hr1.mono (Nat.le_succ k)
  have nd := sc_is_day.nd
  exact (sb_one (ss_ret (se_fn T.f_is_whole (I.i_is_whole) hr (sa_cons (se_var 0) (sa_cons se_int (sa_cons (se_gint T.g_LAST_DAY) sa_nil))))))
theorem sc_is_happening : FnScope ["value"] ["value"] (defScope s_is_happening) := ⟨rfl, rfl, rfl, by decide +kernel, rfl, by decide +kernel, by decide +kernel⟩
theorem ok_is_happening (T : Tx K mg A0) (I : Ih P w K mg base A0 k F) : FnOk P w K mg base CX0 (k + 2) A0.a_is_happening A0.d_is_happening ["value"] (spF K (gl A0) 1 (runB 1 (c_is_happening F))) := by
  refine fn_S T.f_is_happening.F sc_is_happening fun cdv A outer s H E hr1 => ?_
  have hr := hr1.mono (Nat.le_succ k)
  have nd := sc_is_happening.nd
  exact (sb_one (ss_ret (se_fn T.f_is_whole (I.i_is_whole) hr (sa_cons (se_var 0) (sa_cons se_int (sa_cons (se_op sub_S (se_gint T.g_HAPPENINGS) se_int) sa_nil))))))
theorem sc_is_person : FnScope ["value"] ["value"] (defScope s_is_person) := ⟨rfl, rfl, rfl, by decide +kernel, rfl, by decide +kernel, by decide +kernel⟩
theorem ok_is_person (T : Tx K mg A0) (I : Ih P w K mg base A0 k F) : FnOk P w K mg base CX0 (k + 2) A0.a_is_person A0.d_is_person ["value"] (spF K (gl A0) 1 (runB 1 (c_is_person F))) := by
  refine fn_S T.f_is_person.F sc_is_person fun cdv A outer s H E hr1 => ?_
  have hr := hr1.mono (Nat.le_succ k)
  have nd := sc_is_person.nd
  exact (sb_one (ss_ret (se_fn T.f_is_whole (I.i_is_whole) hr (sa_cons (se_var 0) (sa_cons se_int (sa_cons (se_op sub_S (se_gint T.g_PEOPLE) se_int) sa_nil))))))
theorem sc_is_term : FnScope ["term", "place"] ["term", "place"] (defScope s_is_term) := ⟨rfl, rfl, rfl, by decide +kernel, rfl, by decide +kernel, by decide +kernel⟩
theorem ok_is_term (T : Tx K mg A0) (I : Ih P w K mg base A0 k F) : FnOk P w K mg base CX0 (k + 2) A0.a_is_term A0.d_is_term ["term", "place"] (spF K (gl A0) 2 (runB 2 (c_is_term F))) := by
  refine fn_S T.f_is_term.F sc_is_term fun cdv A outer s H E hr1 => ?_
  have hr := hr1.mono (Nat.le_succ k)
  have nd := sc_is_term.nd
  exact (sb_cons (ss_if (st_w (sw_or (st_not (st_val (se_blt isi_S rfl T.n_isinstance (by decide +kernel) (sa_cons (se_var 0) (sa_cons (se_tyv rfl T.n_tuple (by decide +kernel)) sa_nil))))) (sw_or (st_cmp notIn_S (se_blt len_S rfl T.n_len (by decide +kernel) (sa_cons (se_var 0) sa_nil)) (se_tup (sa_cons se_int (sa_cons se_int sa_nil))) (by rfl)) (sw_or1 (st_not (st_val (se_blt isi_S rfl T.n_isinstance (by decide +kernel) (sa_cons (se_ix (se_var 0) se_int) (sa_cons (se_tyv rfl T.n_str (by decide +kernel)) sa_nil))))))))) (sb_one (ss_ret se_bl)) sb_nil)
    (sb_cons (ss_if (st_cmp (eq_S hr.units) (se_blt len_S rfl T.n_len (by decide +kernel) (sa_cons (se_var 0) sa_nil)) se_int (nomark _)) (sb_one (ss_ret (se_and (se_cmp (eq_S hr.units) (se_ix (se_var 0) se_int) se_str (nomark _)) (se_one (se_fn T.f_is_day (I.i_is_day) hr (sa_cons (se_ix (se_var 0) se_int) sa_nil)))))) sb_nil)
    (sb_cons (ss_if (st_not (st_val (se_fn T.f_is_whole (I.i_is_whole) hr (sa_cons (se_ix (se_var 0) se_int) (sa_cons se_int (sa_cons (se_gint T.g_LONGEST_DELAY) sa_nil)))))) (sb_one (ss_ret se_bl)) sb_nil)
    (sb_cons (ss_if (st_cmp (eq_S hr.units) (se_ix (se_var 0) se_int) se_str (nomark _)) (sb_one (ss_ret (se_fn T.f_is_happening (I.i_is_happening) hr (sa_cons (se_ix (se_var 0) se_int) sa_nil)))) sb_nil)
    (sb_one (ss_ret (se_and (se_cmp (eq_S hr.units) (se_ix (se_var 0) se_int) se_str (nomark _)) (se_one (se_fn T.f_is_whole (I.i_is_whole) hr (sa_cons (se_ix (se_var 0) se_int) (sa_cons se_int (sa_cons (se_op sub_S (se_var 1) se_int) sa_nil))))))))))))
theorem sc_are_heirs : FnScope ["heirs", "heir"] ["heirs"] (defScope s_are_heirs) := ⟨rfl, rfl, rfl, by decide +kernel, rfl, by decide +kernel, by decide +kernel⟩
theorem ok_are_heirs (B : BMain mg base) (T : Tx K mg A0) (I : Ih P w K mg base A0 k F) : FnOk P w K mg base CX0 (k + 2) A0.a_are_heirs A0.d_are_heirs ["heirs"] (spF K (gl A0) 1 (runB 2 (c_are_heirs F))) := by
  refine fn_SC T.f_are_heirs.F sc_are_heirs fun cdv A outer s H E hcdv hr1 => ?_
  have hr := hr1.mono (Nat.le_succ k)
  have nd := sc_are_heirs.nd
  exact (sb_cons (ss_if (st_w (sw_or (st_not (st_val (se_blt isi_S rfl T.n_isinstance (by decide +kernel) (sa_cons (se_var 0) (sa_cons (se_tyv rfl T.n_list (by decide +kernel)) sa_nil))))) (sw_or1 (st_not (st_chain le_S le_S se_int (se_blt len_S rfl T.n_len (by decide +kernel) (sa_cons (se_var 0) sa_nil)) (se_gint T.g_MOST_HEIRS)))))) (sb_one (ss_ret se_bl)) sb_nil)
    (sb_one (ss_ret (se_and (se_allG (own := [("heir", 1)]) rfl nd hr1 T.t_are_heirs hcdv (by simp [gl]) B T.n_all (si_seq (se_var 0)) (blkOk_by (N := ["heirs", "heir"]) (sc := defScope s_are_heirs) (by decide +kernel)) (fun _ _ _ _ _ _ _ _ => (sg_name 1 nd)) (fun _ _ _ _ _ _ _ _ hr => (se_fn T.f_is_person (I.i_is_person) hr (sa_cons (se_var 1) sa_nil)))) (se_one (se_cmp (eq_S hr.units) (se_lenSet rfl T.n_len T.n_set (se_var 0)) (se_blt len_S rfl T.n_len (by decide +kernel) (sa_cons (se_var 0) sa_nil)) (nomark _)))))))
theorem sc_are_terms : FnScope ["terms", "place", "term"] ["terms", "place"] (defScope s_are_terms) := ⟨rfl, rfl, rfl, by decide +kernel, rfl, by decide +kernel, by decide +kernel⟩
theorem ok_are_terms (B : BMain mg base) (T : Tx K mg A0) (I : Ih P w K mg base A0 k F) : FnOk P w K mg base CX0 (k + 2) A0.a_are_terms A0.d_are_terms ["terms", "place"] (spF K (gl A0) 2 (runB 3 (c_are_terms F))) := by
  refine fn_SC T.f_are_terms.F sc_are_terms fun cdv A outer s H E hcdv hr1 => ?_
  have hr := hr1.mono (Nat.le_succ k)
  have nd := sc_are_terms.nd
  exact (sb_cons (ss_if (st_w (sw_or (st_not (st_val (se_blt isi_S rfl T.n_isinstance (by decide +kernel) (sa_cons (se_var 0) (sa_cons (se_tyv rfl T.n_list (by decide +kernel)) sa_nil))))) (sw_or1 (st_not (st_chain le_S le_S se_int (se_blt len_S rfl T.n_len (by decide +kernel) (sa_cons (se_var 0) sa_nil)) (se_gint T.g_MOST_TERMS)))))) (sb_one (ss_ret se_bl)) sb_nil)
    (sb_one (ss_ret (se_allG (own := [("term", 2)]) rfl nd hr1 T.t_are_terms hcdv (by simp [gl]) B T.n_all (si_seq (se_var 0)) (blkOk_by (N := ["terms", "place", "term"]) (sc := defScope s_are_terms) (by decide +kernel)) (fun _ _ _ _ _ _ _ _ => (sg_name 2 nd)) (fun _ _ _ _ _ _ _ _ hr => (se_fn T.f_is_term (I.i_is_term) hr (sa_cons (se_var 2) (sa_cons (se_var 1) sa_nil))))))))
theorem sc_is_letter : FnScope ["letter", "place", "heirs", "terms"] ["letter", "place"] (defScope s_is_letter) := ⟨rfl, rfl, rfl, by decide +kernel, rfl, by decide +kernel, by decide +kernel⟩
theorem ok_is_letter (T : Tx K mg A0) (I : Ih P w K mg base A0 k F) : FnOk P w K mg base CX0 (k + 2) A0.a_is_letter A0.d_is_letter ["letter", "place"] (spF K (gl A0) 2 (runB 4 (c_is_letter F))) := by
  refine fn_S T.f_is_letter.F sc_is_letter fun cdv A outer s H E hr1 => ?_
  have hr := hr1.mono (Nat.le_succ k)
  have nd := sc_is_letter.nd
  exact (sb_cons (ss_if (st_w (sw_or (st_not (st_val (se_blt isi_S rfl T.n_isinstance (by decide +kernel) (sa_cons (se_var 0) (sa_cons (se_tyv rfl T.n_tuple (by decide +kernel)) sa_nil))))) (sw_or1 (st_cmp (ne_S hr.units) (se_blt len_S rfl T.n_len (by decide +kernel) (sa_cons (se_var 0) sa_nil)) se_int (nomark _))))) (sb_one (ss_ret se_bl)) sb_nil)
    (sb_cons (ss_asg (se_var 0) (sg_tup rfl (sgs_cons (sg_name 2 nd) (sgs_cons (sg_name 3 nd) sgs_nil))))
    (sb_one (ss_ret (se_and (se_fn T.f_are_heirs (I.i_are_heirs) hr (sa_cons (se_var 2) sa_nil)) (se_one (se_fn T.f_are_terms (I.i_are_terms) hr (sa_cons (se_var 3) (sa_cons (se_var 1) sa_nil)))))))))
theorem sc_are_letters : FnScope ["letters", "place", "letter"] ["letters"] (defScope s_are_letters) := ⟨rfl, rfl, rfl, by decide +kernel, rfl, by decide +kernel, by decide +kernel⟩
theorem ok_are_letters (B : BMain mg base) (T : Tx K mg A0) (I : Ih P w K mg base A0 k F) : FnOk P w K mg base CX0 (k + 2) A0.a_are_letters A0.d_are_letters ["letters"] (spF K (gl A0) 1 (runB 3 (c_are_letters F))) := by
  refine fn_SC T.f_are_letters.F sc_are_letters fun cdv A outer s H E hcdv hr1 => ?_
  have hr := hr1.mono (Nat.le_succ k)
  have nd := sc_are_letters.nd
  exact (sb_cons (ss_if (st_w (sw_or (st_not (st_val (se_blt isi_S rfl T.n_isinstance (by decide +kernel) (sa_cons (se_var 0) (sa_cons (se_tyv rfl T.n_list (by decide +kernel)) sa_nil))))) (sw_or1 (st_not (st_chain le_S le_S se_int (se_blt len_S rfl T.n_len (by decide +kernel) (sa_cons (se_var 0) sa_nil)) (se_gint T.g_MOST_LETTERS)))))) (sb_one (ss_ret se_bl)) sb_nil)
    (sb_one (ss_ret (se_allG (own := [("place", 1), ("letter", 2)]) rfl nd hr1 T.t_are_letters hcdv (by simp [gl]) B T.n_all (si_enum rfl T.n_enumerate (sa_cons (se_var 0) sa_nil)) (blkOk_by (N := ["letters", "place", "letter"]) (sc := defScope s_are_letters) (by decide +kernel)) (fun _ _ _ _ _ _ _ _ => (sg_tup rfl (sgs_cons (sg_name 1 nd) (sgs_cons (sg_name 2 nd) sgs_nil)))) (fun _ _ _ _ _ _ _ _ hr => (se_fn T.f_is_letter (I.i_is_letter) hr (sa_cons (se_var 2) (sa_cons (se_var 1) sa_nil))))))))
theorem sc_are_days : FnScope ["days", "many", "day"] ["days", "many"] (defScope s_are_days) := ⟨rfl, rfl, rfl, by decide +kernel, rfl, by decide +kernel, by decide +kernel⟩
theorem ok_are_days (B : BMain mg base) (T : Tx K mg A0) (I : Ih P w K mg base A0 k F) : FnOk P w K mg base CX0 (k + 2) A0.a_are_days A0.d_are_days ["days", "many"] (spF K (gl A0) 2 (runB 3 (c_are_days F))) := by
  refine fn_SC T.f_are_days.F sc_are_days fun cdv A outer s H E hcdv hr1 => ?_
  have hr := hr1.mono (Nat.le_succ k)
  have nd := sc_are_days.nd
  exact (sb_cons (ss_if (st_w (sw_or (st_not (st_val (se_blt isi_S rfl T.n_isinstance (by decide +kernel) (sa_cons (se_var 0) (sa_cons (se_tyv rfl T.n_list (by decide +kernel)) sa_nil))))) (sw_or1 (st_cmp (ne_S hr.units) (se_blt len_S rfl T.n_len (by decide +kernel) (sa_cons (se_var 0) sa_nil)) (se_var 1) (nomark _))))) (sb_one (ss_ret se_bl)) sb_nil)
    (sb_one (ss_ret (se_allG (own := [("day", 2)]) rfl nd hr1 T.t_are_days hcdv (by simp [gl]) B T.n_all (si_seq (se_var 0)) (blkOk_by (N := ["days", "many", "day"]) (sc := defScope s_are_days) (by decide +kernel)) (fun _ _ _ _ _ _ _ _ => (sg_name 2 nd)) (fun _ _ _ _ _ _ _ _ hr => (se_or (se_isN (se_var 2)) (se_one (se_fn T.f_is_day (I.i_is_day) hr (sa_cons (se_var 2) sa_nil)))))))))
theorem sc_term_day : FnScope ["term", "days", "due", "start"] ["term", "days", "due"] (defScope s_term_day) := ⟨rfl, rfl, rfl, by decide +kernel, rfl, by decide +kernel, by decide +kernel⟩
theorem ok_term_day (T : Tx K mg A0) (I : Ih P w K mg base A0 k F) : FnOk P w K mg base CX0 (k + 2) A0.a_term_day A0.d_term_day ["term", "days", "due"] (spF K (gl A0) 3 (runB 4 (c_term_day F))) := by
  refine fn_S T.f_term_day.F sc_term_day fun cdv A outer s H E hr1 => ?_
  have hr := hr1.mono (Nat.le_succ k)
  have nd := sc_term_day.nd
  exact (sb_cons (ss_if (st_cmp (eq_S hr.units) (se_ix (se_var 0) se_int) se_str (nomark _)) (sb_one (ss_ret (se_ix (se_var 0) se_int))) sb_nil)
    (sb_cons (ss_set 3 nd (se_ifExp (st_cmp (eq_S hr.units) (se_ix (se_var 0) se_int) se_str (nomark _)) (se_ix (se_var 1) (se_ix (se_var 0) se_int)) (se_ix (se_var 2) (se_ix (se_var 0) se_int))))
    (sb_one (ss_ret (se_ifExp (st_isN (se_var 3)) se_non (se_op add_S (se_var 3) (se_ix (se_var 0) se_int)))))))
theorem sc_letter_day : FnScope ["letter", "days", "due", "latest", "term", "day"] ["letter", "days", "due"] (defScope s_letter_day) := ⟨rfl, rfl, rfl, by decide +kernel, rfl, by decide +kernel, by decide +kernel⟩
theorem ok_letter_day (T : Tx K mg A0) (I : Ih P w K mg base A0 k F) : FnOk P w K mg base CX0 (k + 2) A0.a_letter_day A0.d_letter_day ["letter", "days", "due"] (spF K (gl A0) 3 (runB 6 (c_letter_day F))) := by
  refine fn_S T.f_letter_day.F sc_letter_day fun cdv A outer s H E hr1 => ?_
  have hr := hr1.mono (Nat.le_succ k)
  have nd := sc_letter_day.nd
  exact (sb_cons (ss_set 3 nd se_int)
    (sb_cons (ss_for PassesOwn.never rfl (si_seq (se_ix (se_var 0) se_int)) (sg_name 4 nd) (sb_cons (ss_set 5 nd (se_fn T.f_term_day (I.i_term_day) hr (sa_cons (se_var 4) (sa_cons (se_var 1) (sa_cons (se_var 2) sa_nil)))))
    (sb_cons (ss_if (st_isN (se_var 5)) (sb_one (ss_ret se_non)) sb_nil)
    (sb_one (ss_set 3 nd (se_blt (max_S rfl) rfl T.n_max (by decide +kernel) (sa_cons (se_var 3) (sa_cons (se_var 5) sa_nil))))))))
    (sb_one (ss_ret (se_var 3)))))
theorem sc_letter_days : FnScope ["letters", "days", "due", "letter"] ["letters", "days"] (defScope s_letter_days) := ⟨rfl, rfl, rfl, by decide +kernel, rfl, by decide +kernel, by decide +kernel⟩
theorem ok_letter_days (T : Tx K mg A0) (I : Ih P w K mg base A0 k F) : FnOk P w K mg base CX0 (k + 2) A0.a_letter_days A0.d_letter_days ["letters", "days"] (spF K (gl A0) 2 (runB 4 (c_letter_days F))) := by
  refine fn_S T.f_letter_days.F sc_letter_days fun cdv A outer s H E hr1 => ?_
  have hr := hr1.mono (Nat.le_succ k)
  have nd := sc_letter_days.nd
  exact (sb_cons (ss_set 2 nd (se_lst sa_nil))
    (sb_cons (ss_for PassesOwn.never rfl (si_seq (se_var 0)) (sg_name 3 nd) (sb_one (ss_expr (se_bm PySem.F.slot_list_append PySem.F.type_list_append append_S (se_var 2) (sa_cons (se_fn T.f_letter_day (I.i_letter_day) hr (sa_cons (se_var 3) (sa_cons (se_var 1) (sa_cons (se_var 2) sa_nil)))) sa_nil)))))
    (sb_one (ss_ret (se_var 2)))))
theorem sc_in_order : FnScope ["due", "number", "day"] ["due"] (defScope s_in_order) := ⟨rfl, rfl, rfl, by decide +kernel, rfl, by decide +kernel, by decide +kernel⟩
theorem ok_in_order (B : BMain mg base) (T : Tx K mg A0) (I : Ih P w K mg base A0 k F) : FnOk P w K mg base CX0 (k + 2) A0.a_in_order A0.d_in_order ["due"] (spF K (gl A0) 1 (runB 3 (c_in_order F))) := by
  refine fn_SC T.f_in_order.F sc_in_order fun cdv A outer s H E hcdv hr1 => ?_
  have hr := hr1.mono (Nat.le_succ k)
  have nd := sc_in_order.nd
  exact (sb_one (ss_ret (se_sortG (own := [("number", 1), ("day", 2)]) rfl nd hr1 T.t_in_order hcdv (by simp [gl]) B T.n_sorted (si_enum rfl T.n_enumerate (sa_cons (se_var 0) sa_nil)) (blkOk_by (N := ["due", "number", "day"]) (sc := defScope s_in_order) (by decide +kernel)) (fun _ _ _ _ _ _ _ _ => (sg_tup rfl (sgs_cons (sg_name 1 nd) (sgs_cons (sg_name 2 nd) sgs_nil)))) (fun _ _ _ _ _ _ _ _ hr => (sts_one (st_notN (se_var 2)))) (fun _ _ _ _ _ _ _ _ hr => (se_tup (sa_cons (se_var 2) (sa_cons (se_var 1) sa_nil)))))))
theorem sc_first_heir : FnScope ["letter", "gone", "day", "person"] ["letter", "gone", "day"] (defScope s_first_heir) := ⟨rfl, rfl, rfl, by decide +kernel, rfl, by decide +kernel, by decide +kernel⟩
theorem ok_first_heir (T : Tx K mg A0) (I : Ih P w K mg base A0 k F) : FnOk P w K mg base CX0 (k + 2) A0.a_first_heir A0.d_first_heir ["letter", "gone", "day"] (spF K (gl A0) 3 (runB 4 (c_first_heir F))) := by
  refine fn_S T.f_first_heir.F sc_first_heir fun cdv A outer s H E hr1 => ?_
  have hr := hr1.mono (Nat.le_succ k)
  have nd := sc_first_heir.nd
  exact (sb_cons (ss_for PassesOwn.never rfl (si_seq (se_ix (se_var 0) se_int)) (sg_name 3 nd) (sb_one (ss_if (st_w (sw_or (st_isN (se_ix (se_var 1) (se_var 3))) (sw_or1 (st_cmp lt_S (se_var 2) (se_ix (se_var 1) (se_var 3)) (nomark _))))) (sb_one (ss_ret (se_var 3))) sb_nil)))
    (sb_one (ss_ret se_non)))
theorem sc_handed_out : FnScope ["letters", "days", "gone", "due", "day", "number"] ["letters", "days", "gone"] (defScope s_handed_out) := ⟨rfl, rfl, rfl, by decide +kernel, rfl, by decide +kernel, by decide +kernel⟩
theorem ok_handed_out (T : Tx K mg A0) (I : Ih P w K mg base A0 k F) : FnOk P w K mg base CX0 (k + 2) A0.a_handed_out A0.d_handed_out ["letters", "days", "gone"] (spF K (gl A0) 3 (runB 6 (c_handed_out F))) := by
  refine fn_S T.f_handed_out.F sc_handed_out fun cdv A outer s H E hr1 => ?_
  have hr := hr1.mono (Nat.le_succ k)
  have nd := sc_handed_out.nd
  exact (sb_cons (ss_expr (se_fn T.f_check_letters (I.i_check_letters) hr (sa_cons (se_var 0) sa_nil)))
    (sb_cons (ss_expr (se_fn T.f_check_days (I.i_check_days) hr (sa_cons (se_var 1) sa_nil)))
    (sb_cons (ss_if (st_not (st_val (se_fn T.f_are_days (I.i_are_days) hr (sa_cons (se_var 2) (sa_cons (se_gint T.g_PEOPLE) sa_nil))))) (sb_one ss_never) sb_nil)
    (sb_cons (ss_set 3 nd (se_fn T.f_letter_days (I.i_letter_days) hr (sa_cons (se_var 0) (sa_cons (se_var 1) sa_nil))))
    (sb_one (ss_ret (se_lc (own := [("day", 4), ("number", 5)]) rfl nd (si_seq (se_fn T.f_in_order (I.i_in_order) hr (sa_cons (se_var 3) sa_nil))) (blkOk_by (N := ["letters", "days", "gone", "due", "day", "number"]) (sc := defScope s_handed_out) (by decide +kernel)) (fun _ _ _ _ _ => (sg_tup rfl (sgs_cons (sg_name 4 nd) (sgs_cons (sg_name 5 nd) sgs_nil)))) (fun _ _ _ _ _ => sts_nil) (fun _ _ _ _ _ => (se_tup (sa_cons (se_var 4) (sa_cons (se_var 5) (sa_cons (se_fn T.f_first_heir (I.i_first_heir) hr (sa_cons (se_ix (se_var 0) (se_var 5)) (sa_cons (se_var 2) (sa_cons (se_var 4) sa_nil)))) sa_nil))))))))))))
theorem sc_check_letters : FnScope ["letters"] ["letters"] (defScope s_check_letters) := ⟨rfl, rfl, rfl, by decide +kernel, rfl, by decide +kernel, by decide +kernel⟩
theorem ok_check_letters (T : Tx K mg A0) (I : Ih P w K mg base A0 k F) : FnOk P w K mg base CX0 (k + 2) A0.a_check_letters A0.d_check_letters ["letters"] (spF K (gl A0) 1 (runB 1 (c_check_letters F))) := by
  refine fn_S T.f_check_letters.F sc_check_letters fun cdv A outer s H E hr1 => ?_
  have hr := hr1.mono (Nat.le_succ k)
  have nd := sc_check_letters.nd
  exact (sb_one (ss_if (st_not (st_val (se_fn T.f_are_letters (I.i_are_letters) hr (sa_cons (se_var 0) sa_nil)))) (sb_one ss_never) sb_nil))
theorem sc_check_days : FnScope ["days"] ["days"] (defScope s_check_days) := ⟨rfl, rfl, rfl, by decide +kernel, rfl, by decide +kernel, by decide +kernel⟩
theorem ok_check_days (T : Tx K mg A0) (I : Ih P w K mg base A0 k F) : FnOk P w K mg base CX0 (k + 2) A0.a_check_days A0.d_check_days ["days"] (spF K (gl A0) 1 (runB 1 (c_check_days F))) := by
  refine fn_S T.f_check_days.F sc_check_days fun cdv A outer s H E hr1 => ?_
  have hr := hr1.mono (Nat.le_succ k)
  have nd := sc_check_days.nd
  exact (sb_one (ss_if (st_not (st_val (se_fn T.f_are_days (I.i_are_days) hr (sa_cons (se_var 0) (sa_cons (se_gint T.g_HAPPENINGS) sa_nil))))) (sb_one ss_never) sb_nil))
theorem sc__law_number : FnScope ["_law_cell", "_law_at", "_law_whole", "_law_mixed", "_law_more"] ["_law_cell", "_law_at", "_law_whole"] (defScope s__law_number) := ⟨rfl, rfl, rfl, by decide +kernel, rfl, by decide +kernel, by decide +kernel⟩
theorem ok__law_number (T : Tx K mg A0) (I : Ih P w K mg base A0 k F) : FnOk P w K mg base CX0 (k + 2) A0.a__law_number A0.d__law_number ["_law_cell", "_law_at", "_law_whole"] (spF K (gl A0) 3 (runB 5 (c__law_number F))) := by
  refine fn_S T.f__law_number.F sc__law_number fun cdv A outer s H E hr1 => ?_
  have hr := hr1.mono (Nat.le_succ k)
  have nd := sc__law_number.nd
  exact (sb_cons (ss_if (st_cmp ge_S (se_var 0) (se_op pow_S se_int se_int) (nomark _)) (sb_one (ss_ret (se_var 0))) sb_nil)
    (sb_cons (ss_set 3 nd (se_op mod_S (se_op add_S (se_op mul_S (se_op add_S (se_var 0) (se_op mul_S se_int (se_var 1))) se_int) (se_var 2)) se_int))
    (sb_cons (ss_set 4 nd (se_op mul_S (se_op mul_S (se_var 3) (se_op add_S (se_op add_S (se_var 3) (se_op mul_S se_int (se_var 1))) se_int)) (se_op add_S (se_op add_S (se_var 3) (se_var 0)) se_int)))
    (sb_one (ss_ret (se_op fdiv_S (se_op mul_S (se_var 4) (se_op add_S (se_var 4) se_int)) se_int))))))
theorem sc__law_term : FnScope ["_law_number_here", "_law_at", "_law_kind", "_law_sort", "_law_rest"] ["_law_number_here", "_law_at", "_law_kind"] (defScope s__law_term) := ⟨rfl, rfl, rfl, by decide +kernel, rfl, by decide +kernel, by decide +kernel⟩
theorem ok__law_term (T : Tx K mg A0) (I : Ih P w K mg base A0 k F) : FnOk P w K mg base CX0 (k + 2) A0.a__law_term A0.d__law_term ["_law_number_here", "_law_at", "_law_kind"] (spF K (gl A0) 3 (runB 5 (c__law_term F))) := by
  refine fn_S T.f__law_term.F sc__law_term fun cdv A outer s H E hr1 => ?_
  have hr := hr1.mono (Nat.le_succ k)
  have nd := sc__law_term.nd
  exact (sb_cons (ss_par2 3 4 rfl nd (sa_cons (se_ix (se_tup (sa_cons (se_op mod_S (se_var 0) se_int) (sa_cons se_int (sa_cons se_int (sa_cons (se_op mod_S (se_var 0) se_int) sa_nil))))) (se_var 2)) (sa_cons (se_op fdiv_S (se_var 0) se_int) sa_nil)))
    (sb_cons (ss_if (st_w (sw_and (st_cmp (eq_S hr.units) (se_var 3) se_int (nomark _)) (sw_and1 (st_cmp gt_S (se_var 1) se_int (nomark _))))) (sb_one (ss_ret (se_tup (sa_cons se_str (sa_cons (se_ix (se_tup (sa_cons (se_op mod_S (se_var 4) (se_var 1)) (sa_cons (se_op sub_S (se_var 1) se_int) sa_nil))) (se_op mod_S (se_op fdiv_S (se_var 4) se_int) se_int)) (sa_cons (se_op mod_S (se_op fdiv_S (se_var 4) se_int) se_int) sa_nil)))))) sb_nil)
    (sb_cons (ss_if (st_cmp lt_S (se_var 3) se_int (nomark _)) (sb_one (ss_ret (se_tup (sa_cons se_str (sa_cons (se_op mod_S (se_var 4) se_int) (sa_cons (se_op mod_S (se_op fdiv_S (se_var 4) se_int) se_int) sa_nil)))))) sb_nil)
    (sb_one (ss_ret (se_tup (sa_cons se_str (sa_cons (se_op mod_S (se_var 4) se_int) sa_nil))))))))
theorem sc__law_letter : FnScope ["_law_number_here", "_law_at", "_law_kind", "_law_heirs", "_law_terms", "_law_rest", "_law_turn", "_law_heir"] ["_law_number_here", "_law_at", "_law_kind"] (defScope s__law_letter) := ⟨rfl, rfl, rfl, by decide +kernel, rfl, by decide +kernel, by decide +kernel⟩
theorem ok__law_letter (T : Tx K mg A0) (I : Ih P w K mg base A0 k F) : FnOk P w K mg base CX0 (k + 2) A0.a__law_letter A0.d__law_letter ["_law_number_here", "_law_at", "_law_kind"] (spF K (gl A0) 3 (runB 8 (c__law_letter F))) := by
  refine fn_S T.f__law_letter.F sc__law_letter fun cdv A outer s H E hr1 => ?_
  have hr := hr1.mono (Nat.le_succ k)
  have nd := sc__law_letter.nd
  exact (sb_cons (ss_par3 3 4 5 rfl nd (sa_cons (se_lst sa_nil) (sa_cons (se_lst sa_nil) (sa_cons (se_op fdiv_S (se_var 0) se_int) sa_nil))))
    (sb_cons (ss_for PassesOwn.never rfl (si_range1 rfl T.n_range (sa_cons (se_op add_S se_int (se_op mod_S (se_var 0) se_int)) sa_nil)) (sg_name 6 nd) (sb_cons (ss_set 7 nd (se_op mod_S (se_op add_S (se_op fdiv_S (se_var 0) se_int) (se_op mul_S se_int (se_var 6))) se_int))
    (sb_one (ss_expr (se_bm PySem.F.slot_list_append PySem.F.type_list_append append_S (se_var 3) (sa_cons (se_var 7) sa_nil))))))
    (sb_cons (ss_for PassesOwn.never rfl (si_range1 rfl T.n_range (sa_cons (se_ix (se_tup (sa_cons se_int (sa_cons se_int (sa_cons se_int (sa_cons se_int sa_nil))))) (se_op mod_S (se_op fdiv_S (se_var 0) se_int) se_int)) sa_nil)) (sg_name 6 nd) (sb_one (ss_expr (se_bm PySem.F.slot_list_append PySem.F.type_list_append append_S (se_var 4) (sa_cons (se_fn T.f__law_term (I.i__law_term) hr (sa_cons (se_op add_S (se_op fdiv_S (se_var 5) (se_ix (se_tup (sa_cons se_int (sa_cons se_int (sa_cons se_int (sa_cons se_int sa_nil))))) (se_var 6))) (se_var 6)) (sa_cons (se_var 1) (sa_cons (se_var 2) sa_nil)))) sa_nil)))))
    (sb_one (ss_ret (se_tup (sa_cons (se_var 3) (sa_cons (se_var 4) sa_nil))))))))
theorem sc__law_letters : FnScope ["_law_script", "_law_by", "_law_most", "_law_cells", "_law_whole", "_law_found", "_law_many", "_law_kind", "_law_at"] ["_law_script", "_law_by", "_law_most"] (defScope s__law_letters) := ⟨rfl, rfl, rfl, by decide +kernel, rfl, by decide +kernel, by decide +kernel⟩
theorem ok__law_letters (T : Tx K mg A0) (I : Ih P w K mg base A0 k F) : FnOk P w K mg base CX0 (k + 2) A0.a__law_letters A0.d__law_letters ["_law_script", "_law_by", "_law_most"] (spF K (gl A0) 3 (runB 9 (c__law_letters F))) := by
  refine fn_S T.f__law_letters.F sc__law_letters fun cdv A outer s H E hr1 => ?_
  have hr := hr1.mono (Nat.le_succ k)
  have nd := sc__law_letters.nd
  exact (sb_cons (ss_set 3 nd (se_ifExp (st_cmp (ne_S hr.units) (se_var 0) (se_lst sa_nil) (nomark _)) (se_slice (se_var 0) sp_none (sp_some se_int)) (se_lst (sa_cons se_int sa_nil))))
    (sb_cons (ss_par2 4 5 rfl nd (sa_cons (se_op add_S (se_blt (sum_S rfl) rfl T.n_sum (by decide +kernel) (sa_cons (se_var 3) sa_nil)) (se_var 1)) (sa_cons (se_lst sa_nil) sa_nil)))
    (sb_cons (ss_par2 6 7 rfl nd (sa_cons (se_op add_S se_int (se_op mod_S (se_op fdiv_S (se_fn T.f__law_number (I.i__law_number) hr (sa_cons (se_var 4) (sa_cons (se_op add_S (se_var 1) se_int) (sa_cons se_int sa_nil)))) se_int) (se_var 2))) (sa_cons (se_op mod_S (se_op fdiv_S (se_fn T.f__law_number (I.i__law_number) hr (sa_cons (se_var 4) (sa_cons (se_op add_S (se_var 1) se_int) (sa_cons se_int sa_nil)))) se_int) se_int) sa_nil)))
    (sb_cons (ss_for PassesOwn.never rfl (si_range1 rfl T.n_range (sa_cons (se_var 6) sa_nil)) (sg_name 8 nd) (sb_one (ss_expr (se_bm PySem.F.slot_list_append PySem.F.type_list_append append_S (se_var 5) (sa_cons (se_fn T.f__law_letter (I.i__law_letter) hr (sa_cons (se_op fdiv_S (se_fn T.f__law_number (I.i__law_number) hr (sa_cons (se_op add_S (se_ix (se_var 3) (se_op mod_S (se_op add_S (se_var 8) (se_var 1)) (se_blt len_S rfl T.n_len (by decide +kernel) (sa_cons (se_var 3) sa_nil)))) (se_var 8)) (sa_cons (se_op add_S (se_var 8) (se_var 1)) (sa_cons (se_var 4) sa_nil)))) se_int) (sa_cons (se_var 8) (sa_cons (se_var 7) sa_nil)))) sa_nil)))))
    (sb_one (ss_ret (se_var 5)))))))
theorem sc__law_days : FnScope ["_law_script", "_law_by", "_law_cells", "_law_whole", "_law_found", "_law_kind", "_law_at", "_law_number_here"] ["_law_script", "_law_by"] (defScope s__law_days) := ⟨rfl, rfl, rfl, by decide +kernel, rfl, by decide +kernel, by decide +kernel⟩
theorem ok__law_days (T : Tx K mg A0) (I : Ih P w K mg base A0 k F) : FnOk P w K mg base CX0 (k + 2) A0.a__law_days A0.d__law_days ["_law_script", "_law_by"] (spF K (gl A0) 2 (runB 8 (c__law_days F))) := by
  refine fn_S T.f__law_days.F sc__law_days fun cdv A outer s H E hr1 => ?_
  have hr := hr1.mono (Nat.le_succ k)
  have nd := sc__law_days.nd
  exact (sb_cons (ss_set 2 nd (se_ifExp (st_cmp (ne_S hr.units) (se_var 0) (se_lst sa_nil) (nomark _)) (se_slice (se_var 0) sp_none (sp_some se_int)) (se_lst (sa_cons se_int sa_nil))))
    (sb_cons (ss_par2 3 4 rfl nd (sa_cons (se_op add_S (se_blt (sum_S rfl) rfl T.n_sum (by decide +kernel) (sa_cons (se_var 2) sa_nil)) (se_var 1)) (sa_cons (se_lst sa_nil) sa_nil)))
    (sb_cons (ss_set 5 nd (se_op mod_S (se_op fdiv_S (se_fn T.f__law_number (I.i__law_number) hr (sa_cons (se_var 3) (sa_cons (se_op add_S (se_var 1) se_int) (sa_cons se_int sa_nil)))) se_int) se_int))
    (sb_cons (ss_for PassesOwn.never rfl (si_range1 rfl T.n_range (sa_cons se_int sa_nil)) (sg_name 6 nd) (sb_cons (ss_set 7 nd (se_op fdiv_S (se_fn T.f__law_number (I.i__law_number) hr (sa_cons (se_op add_S (se_ix (se_var 2) (se_op mod_S (se_op add_S (se_var 6) (se_var 1)) (se_blt len_S rfl T.n_len (by decide +kernel) (sa_cons (se_var 2) sa_nil)))) (se_op mul_S se_int (se_var 6))) (sa_cons (se_op add_S (se_var 6) (se_var 1)) (sa_cons (se_var 3) sa_nil)))) se_int))
    (sb_one (ss_expr (se_bm PySem.F.slot_list_append PySem.F.type_list_append append_S (se_var 4) (sa_cons (se_ix (se_tup (sa_cons (se_op mod_S (se_var 7) se_int) (sa_cons (se_ifExp (st_cmp gt_S (se_op mod_S (se_op fdiv_S (se_var 7) se_int) se_int) se_int (nomark _)) (se_op mod_S (se_var 7) se_int) se_non) (sa_cons se_non (sa_cons (se_op mod_S (se_var 3) se_int) sa_nil))))) (se_var 5)) sa_nil))))))
    (sb_one (ss_ret (se_var 4)))))))
theorem sc__law_copied : FnScope ["_law_letters_here", "_law_heirs", "_law_terms"] ["_law_letters_here"] (defScope s__law_copied) := ⟨rfl, rfl, rfl, by decide +kernel, rfl, by decide +kernel, by decide +kernel⟩
theorem ok__law_copied (T : Tx K mg A0) (I : Ih P w K mg base A0 k F) : FnOk P w K mg base CX0 (k + 2) A0.a__law_copied A0.d__law_copied ["_law_letters_here"] (spF K (gl A0) 1 (runB 3 (c__law_copied F))) := by
  refine fn_S T.f__law_copied.F sc__law_copied fun cdv A outer s H E hr1 => ?_
  have hr := hr1.mono (Nat.le_succ k)
  have nd := sc__law_copied.nd
  exact (sb_one (ss_ret (se_lc (own := [("_law_heirs", 1), ("_law_terms", 2)]) rfl nd (si_seq (se_var 0)) (blkOk_by (N := ["_law_letters_here", "_law_heirs", "_law_terms"]) (sc := defScope s__law_copied) (by decide +kernel)) (fun _ _ _ _ _ => (sg_tup rfl (sgs_cons (sg_name 1 nd) (sgs_cons (sg_name 2 nd) sgs_nil)))) (fun _ _ _ _ _ => sts_nil) (fun _ _ _ _ _ => (se_tup (sa_cons (se_ty list_S rfl T.n_list (by decide +kernel) (sa_cons (se_var 1) sa_nil)) (sa_cons (se_ty list_S rfl T.n_list (by decide +kernel) (sa_cons (se_var 2) sa_nil)) sa_nil)))))))
theorem sc__law_dues : FnScope ["_law_letters_here", "_law_days_here", "_law_found", "_law_heirs", "_law_terms", "_law_late", "_law_term_here", "_law_row", "_law_more", "_law_day"] ["_law_letters_here", "_law_days_here"] (defScope s__law_dues) := ⟨rfl, rfl, rfl, by decide +kernel, rfl, by decide +kernel, by decide +kernel⟩
theorem ok__law_dues (T : Tx K mg A0) (I : Ih P w K mg base A0 k F) : FnOk P w K mg base CX0 (k + 2) A0.a__law_dues A0.d__law_dues ["_law_letters_here", "_law_days_here"] (spF K (gl A0) 2 (runB 10 (c__law_dues F))) := by
  refine fn_S T.f__law_dues.F sc__law_dues fun cdv A outer s H E hr1 => ?_
  have hr := hr1.mono (Nat.le_succ k)
  have nd := sc__law_dues.nd
  exact (sb_cons (ss_set 2 nd (se_lst sa_nil))
    (sb_cons (ss_for PassesOwn.never rfl (si_seq (se_var 0)) (sg_tup rfl (sgs_cons (sg_name 3 nd) (sgs_cons (sg_name 4 nd) sgs_nil))) (sb_cons (ss_set 5 nd se_int)
    (sb_cons (ss_for PassesOwn.never rfl (si_seq (se_var 4)) (sg_name 6 nd) (sb_cons (ss_asg (se_ifExp (st_cmp (eq_S hr.units) (se_ix (se_var 6) se_int) se_str (nomark _)) (se_tup (sa_cons (se_var 2) (sa_cons (se_ix (se_var 6) (se_neg se_int)) sa_nil))) (se_tup (sa_cons (se_var 1) (sa_cons (se_ix (se_var 6) (se_neg se_int)) sa_nil)))) (sg_tup rfl (sgs_cons (sg_name 7 nd) (sgs_cons (sg_name 8 nd) sgs_nil))))
    (sb_cons (ss_set 9 nd (se_ifExp (st_cmp (eq_S hr.units) (se_ix (se_var 6) se_int) se_str (nomark _)) se_int (se_ix (se_var 7) (se_ix (se_var 6) se_int))))
    (sb_one (ss_set 5 nd (se_ifExp (st_w (sw_or (st_isN (se_var 9)) (sw_or1 (st_isN (se_var 5))))) se_non (se_blt (max_S rfl) rfl T.n_max (by decide +kernel) (sa_cons (se_var 5) (sa_cons (se_op add_S (se_var 9) (se_var 8)) sa_nil)))))))))
    (sb_one (ss_expr (se_bm PySem.F.slot_list_append PySem.F.type_list_append append_S (se_var 2) (sa_cons (se_var 5) sa_nil)))))))
    (sb_one (ss_ret (se_var 2)))))
theorem sc__law_gone : FnScope ["_law_script", "_law_by", "_law_dues_here", "_law_cells", "_law_whole", "_law_found", "_law_days_here", "_law_person", "_law_number_here", "_law_day"] ["_law_script", "_law_by", "_law_dues_here"] (defScope s__law_gone) := ⟨rfl, rfl, rfl, by decide +kernel, rfl, by decide +kernel, by decide +kernel⟩
theorem ok__law_gone (T : Tx K mg A0) (I : Ih P w K mg base A0 k F) : FnOk P w K mg base CX0 (k + 2) A0.a__law_gone A0.d__law_gone ["_law_script", "_law_by", "_law_dues_here"] (spF K (gl A0) 3 (runB 10 (c__law_gone F))) := by
  refine fn_S T.f__law_gone.F sc__law_gone fun cdv A outer s H E hr1 => ?_
  have hr := hr1.mono (Nat.le_succ k)
  have nd := sc__law_gone.nd
  exact (sb_cons (ss_set 3 nd (se_ifExp (st_cmp (ne_S hr.units) (se_var 0) (se_lst sa_nil) (nomark _)) (se_slice (se_var 0) sp_none (sp_some se_int)) (se_lst (sa_cons se_int sa_nil))))
    (sb_cons (ss_par2 4 5 rfl nd (sa_cons (se_op add_S (se_blt (sum_S rfl) rfl T.n_sum (by decide +kernel) (sa_cons (se_var 3) sa_nil)) (se_var 1)) (sa_cons (se_lst sa_nil) sa_nil)))
    (sb_cons (ss_set 6 nd (se_op add_S (se_lc (own := [("_law_day", 9)]) rfl nd (si_seq (se_var 2)) (blkOk_by (N := ["_law_script", "_law_by", "_law_dues_here", "_law_cells", "_law_whole", "_law_found", "_law_days_here", "_law_person", "_law_number_here", "_law_day"]) (sc := defScope s__law_gone) (by decide +kernel)) (fun _ _ _ _ _ => (sg_name 9 nd)) (fun _ _ _ _ _ => (sts_one (st_notN (se_var 9)))) (fun _ _ _ _ _ => (se_blt (min_S rfl) rfl T.n_min (by decide +kernel) (sa_cons se_int (sa_cons (se_var 9) sa_nil))))) (se_lst (sa_cons se_int sa_nil))))
    (sb_cons (ss_for PassesOwn.never rfl (si_range1 rfl T.n_range (sa_cons se_int sa_nil)) (sg_name 7 nd) (sb_cons (ss_set 8 nd (se_op fdiv_S (se_fn T.f__law_number (I.i__law_number) hr (sa_cons (se_op add_S (se_ix (se_var 3) (se_op mod_S (se_op add_S (se_var 7) (se_var 1)) (se_blt len_S rfl T.n_len (by decide +kernel) (sa_cons (se_var 3) sa_nil)))) (se_op mul_S se_int (se_var 7))) (sa_cons (se_op add_S (se_var 7) (se_var 1)) (sa_cons (se_var 4) sa_nil)))) se_int))
    (sb_cons (ss_set 9 nd (se_blt (min_S rfl) rfl T.n_min (by decide +kernel) (sa_cons se_int (sa_cons (se_blt (max_S rfl) rfl T.n_max (by decide +kernel) (sa_cons se_int (sa_cons (se_op sub_S (se_op add_S (se_ix (se_var 6) (se_op mod_S (se_op fdiv_S (se_var 8) se_int) (se_blt len_S rfl T.n_len (by decide +kernel) (sa_cons (se_var 6) sa_nil)))) (se_op mod_S (se_op fdiv_S (se_var 8) se_int) se_int)) se_int) sa_nil))) sa_nil))))
    (sb_one (ss_expr (se_bm PySem.F.slot_list_append PySem.F.type_list_append append_S (se_var 5) (sa_cons (se_ix (se_tup (sa_cons se_non (sa_cons (se_var 9) (sa_cons (se_op mod_S (se_op fdiv_S (se_var 8) se_int) se_int) (sa_cons se_int sa_nil))))) (se_op mod_S (se_var 8) se_int)) sa_nil)))))))
    (sb_one (ss_ret (se_var 5)))))))
theorem sc__law_order : FnScope ["_law_letters_here", "_law_days_here", "_law_gone_here", "_law_found", "_law_dues_here", "_law_day", "_law_number_here", "_law_heirs", "_law_terms", "_law_some", "_law_one"] ["_law_letters_here", "_law_days_here", "_law_gone_here"] (defScope s__law_order) := ⟨rfl, rfl, rfl, by decide +kernel, rfl, by decide +kernel, by decide +kernel⟩
theorem ok__law_order (T : Tx K mg A0) (I : Ih P w K mg base A0 k F) : FnOk P w K mg base CX0 (k + 2) A0.a__law_order A0.d__law_order ["_law_letters_here", "_law_days_here", "_law_gone_here"] (spF K (gl A0) 3 (runB 11 (c__law_order F))) := by
  refine fn_S T.f__law_order.F sc__law_order fun cdv A outer s H E hr1 => ?_
  have hr := hr1.mono (Nat.le_succ k)
  have nd := sc__law_order.nd
  exact (sb_cons (ss_par2 3 4 rfl nd (sa_cons (se_lst sa_nil) (sa_cons (se_fn T.f__law_dues (I.i__law_dues) hr (sa_cons (se_var 0) (sa_cons (se_var 1) sa_nil))) sa_nil)))
    (sb_cons (ss_for PassesOwn.never rfl (si_seq (se_srtSet rfl T.n_sorted T.n_set (se_lc (own := [("_law_one", 10)]) rfl nd (si_seq (se_var 4)) (blkOk_by (N := ["_law_letters_here", "_law_days_here", "_law_gone_here", "_law_found", "_law_dues_here", "_law_day", "_law_number_here", "_law_heirs", "_law_terms", "_law_some", "_law_one"]) (sc := defScope s__law_order) (by decide +kernel)) (fun _ _ _ _ _ => (sg_name 10 nd)) (fun _ _ _ _ _ => (sts_one (st_notN (se_var 10)))) (fun _ _ _ _ _ => (se_var 10))))) (sg_name 5 nd) (sb_one (ss_for PassesOwn.never rfl (si_enum rfl T.n_enumerate (sa_cons (se_var 0) sa_nil)) (sg_tup rfl (sgs_cons (sg_name 6 nd) (sgs_cons (sg_tup rfl (sgs_cons (sg_name 7 nd) (sgs_cons (sg_name 8 nd) sgs_nil))) sgs_nil))) (sb_one (ss_if (st_cmp (eq_S hr.units) (se_ix (se_var 4) (se_var 6)) (se_var 5) (nomark _)) (sb_cons (ss_setLc 9 (own := [("_law_one", 10)]) rfl nd (si_seq (se_var 7)) (blkOk_by (N := ["_law_letters_here", "_law_days_here", "_law_gone_here", "_law_found", "_law_dues_here", "_law_day", "_law_number_here", "_law_heirs", "_law_terms", "_law_some", "_law_one"]) (sc := defScope s__law_order) (by decide +kernel)) (fun _ _ _ _ _ => (sg_name 10 nd)) (fun _ _ _ _ _ => (sts_one (st_w (sw_or (st_isN (se_ix (se_var 2) (se_var 10))) (sw_or1 (st_cmp lt_S (se_var 5) (se_ix (se_var 2) (se_var 10)) (nomark _))))))) (fun _ _ _ _ _ => (se_var 10)) (sw_true rfl rfl rfl (by decide +kernel)))
    (sb_one (ss_expr (se_bm PySem.F.slot_list_append PySem.F.type_list_append append_S (se_var 3) (sa_cons (se_tup (sa_cons (se_var 5) (sa_cons (se_var 6) (sa_cons (se_ifExp (st_cmp (ne_S hr.units) (se_var 9) (se_lst sa_nil) (nomark _)) (se_ix (se_var 9) se_int) se_non) sa_nil)))) sa_nil))))) sb_nil)))))
    (sb_one (ss_ret (se_var 3)))))
theorem sc_law : FnScope ["_law_script", "_law_whole", "_law_by", "_law_letters_here", "_law_days_here", "_law_gone_here", "_law_some", "_law_mine", "_law_again", "_law_found", "_law_both", "_law_row"] ["_law_script"] (defScope s_law) := ⟨rfl, rfl, rfl, by decide +kernel, rfl, by decide +kernel, by decide +kernel⟩
theorem ok_law (T : Tx K mg A0) (I : Ih P w K mg base A0 k F) : FnOk P w K mg base CX0 (k + 2) A0.a_law A0.d_law ["_law_script"] (spF K (gl A0) 1 (runB 12 (c_law F))) := by
  refine fn_S T.f_law.F sc_law fun cdv A outer s H E hr1 => ?_
  have hr := hr1.mono (Nat.le_succ k)
  have nd := sc_law.nd
  exact (sb_cons (ss_set 1 nd (se_blt (sum_S rfl) rfl T.n_sum (by decide +kernel) (sa_cons (se_slice (se_var 0) sp_none (sp_some se_int)) sa_nil)))
    (sb_cons (ss_for PassesOwn.never rfl (si_range1 rfl T.n_range (sa_cons se_int sa_nil)) (sg_name 2 nd) (sb_cons (ss_par2 3 4 rfl nd (sa_cons (se_fn T.f__law_letters (I.i__law_letters) hr (sa_cons (se_var 0) (sa_cons (se_var 2) (sa_cons se_int sa_nil)))) (sa_cons (se_fn T.f__law_days (I.i__law_days) hr (sa_cons (se_var 0) (sa_cons (se_var 2) sa_nil))) sa_nil)))
    (sb_cons (ss_set 5 nd (se_fn T.f__law_gone (I.i__law_gone) hr (sa_cons (se_var 0) (sa_cons (se_var 2) (sa_cons (se_fn T.f__law_dues (I.i__law_dues) hr (sa_cons (se_var 3) (sa_cons (se_var 4) sa_nil))) sa_nil)))))
    (sb_one (ss_for PassesOwn.never rfl (si_seq (se_tup (sa_cons (se_var 5) (sa_cons (se_op mul_S (se_lst (sa_cons se_non sa_nil)) se_int) (sa_cons (se_op mul_S (se_lst (sa_cons se_int sa_nil)) se_int) sa_nil))))) (sg_name 6 nd) (sb_cons (ss_set 7 nd (se_lst (sa_cons (se_fn T.f__law_copied (I.i__law_copied) hr (sa_cons (se_var 3) sa_nil)) (sa_cons (se_ty list_S rfl T.n_list (by decide +kernel) (sa_cons (se_var 4) sa_nil)) (sa_cons (se_ty list_S rfl T.n_list (by decide +kernel) (sa_cons (se_var 6) sa_nil)) sa_nil)))))
    (sb_cons (ss_for PassesOwn.never rfl (si_range1 rfl T.n_range (sa_cons se_int sa_nil)) (sg_name 8 nd) (sb_cons (ss_set 9 nd (se_fn T.f_handed_out (I.i_handed_out) hr (sa_cons (se_ix (se_var 7) se_int) (sa_cons (se_ix (se_var 7) se_int) (sa_cons (se_ix (se_var 7) se_int) sa_nil)))))
    (sb_cons (ss_if (st_w (sw_or (st_not (st_val (se_blt isi_S rfl T.n_isinstance (by decide +kernel) (sa_cons (se_var 9) (sa_cons (se_tyv rfl T.n_list (by decide +kernel)) sa_nil))))) (sw_or1 (st_cmp (ne_S hr.units) (se_var 9) (se_fn T.f__law_order (I.i__law_order) hr (sa_cons (se_var 3) (sa_cons (se_var 4) (sa_cons (se_var 6) sa_nil)))) (nomark _))))) (sb_one (ss_ret se_bl)) sb_nil)
    (sb_cons (ss_if (st_w (sw_or (st_cmp (ne_S hr.units) (se_var 7) (se_lst (sa_cons (se_var 3) (sa_cons (se_var 4) (sa_cons (se_var 6) sa_nil)))) (nomark _)) (sw_or1 (st_not (st_val (se_blt (all_S rfl) rfl T.n_all (by decide +kernel) (sa_cons (se_lc (own := [("_law_row", 11)]) rfl nd (si_seq (se_var 9)) (blkOk_by (N := ["_law_script", "_law_whole", "_law_by", "_law_letters_here", "_law_days_here", "_law_gone_here", "_law_some", "_law_mine", "_law_again", "_law_found", "_law_both", "_law_row"]) (sc := defScope s_law) (by decide +kernel)) (fun _ _ _ _ _ => (sg_name 11 nd)) (fun _ _ _ _ _ => sts_nil) (fun _ _ _ _ _ => (se_blt isi_S rfl T.n_isinstance (by decide +kernel) (sa_cons (se_var 11) (sa_cons (se_tyv rfl T.n_tuple (by decide +kernel)) sa_nil))))) sa_nil))))))) (sb_one (ss_ret se_bl)) sb_nil)
    (sb_one (ss_expr (se_bm PySem.F.slot_list_append PySem.F.type_list_append append_S (se_var 9) (sa_cons (se_tup sa_nil) sa_nil))))))))
    (sb_cons (ss_sub (se_op mod_S (se_op fdiv_S (se_var 1) se_int) se_int) (se_ix (se_var 7) se_int) (se_op mod_S (se_var 1) se_int))
    (sb_cons (ss_expr (se_bm0 PySem.F.slot_list_reverse PySem.F.type_list_reverse reverse_S (se_ix (se_ix (se_ix (se_var 7) se_int) (se_neg se_int)) se_int)))
    (sb_one (ss_if (st_cmp (ne_S hr.units) (se_fn T.f_handed_out (I.i_handed_out) hr (sa_cons (se_ix (se_var 7) se_int) (sa_cons (se_ix (se_var 7) se_int) (sa_cons (se_ix (se_var 7) se_int) sa_nil)))) (se_fn T.f__law_order (I.i__law_order) hr (sa_cons (se_ix (se_var 7) se_int) (sa_cons (se_var 4) (sa_cons (se_ix (se_var 7) se_int) sa_nil)))) (nomark _)) (sb_one (ss_ret se_bl)) sb_nil)))))))))))
    (sb_cons (ss_par2 3 5 rfl nd (sa_cons (se_lst (sa_cons (se_tup (sa_cons (se_lst (sa_cons se_int (sa_cons se_int sa_nil))) (sa_cons (se_lst (sa_cons (se_tup (sa_cons se_str (sa_cons se_int sa_nil))) sa_nil)) sa_nil))) (sa_cons (se_tup (sa_cons (se_lst (sa_cons se_int sa_nil)) (sa_cons (se_lst (sa_cons (se_tup (sa_cons se_str (sa_cons se_int sa_nil))) sa_nil)) sa_nil))) (sa_cons (se_tup (sa_cons (se_lst (sa_cons se_int sa_nil)) (sa_cons (se_lst (sa_cons (se_tup (sa_cons se_str (sa_cons se_int (sa_cons se_int sa_nil)))) sa_nil)) sa_nil))) sa_nil)))) (sa_cons (se_op mul_S (se_lst (sa_cons se_non sa_nil)) se_int) sa_nil)))
    (sb_cons (ss_sub se_int (se_var 5) se_int)
    (sb_cons (ss_set 10 nd (se_lst (sa_cons (se_tup (sa_cons (se_lst (sa_cons se_int (sa_cons se_int sa_nil))) (sa_cons (se_lst (sa_cons (se_tup (sa_cons se_str (sa_cons se_int sa_nil))) sa_nil)) sa_nil))) (sa_cons (se_tup (sa_cons (se_lst (sa_cons se_int sa_nil)) (sa_cons (se_lst (sa_cons (se_tup (sa_cons se_str (sa_cons se_int sa_nil))) sa_nil)) sa_nil))) (sa_cons (se_tup (sa_cons (se_lst (sa_cons se_int sa_nil)) (sa_cons (se_lst (sa_cons (se_tup (sa_cons se_str (sa_cons se_int sa_nil))) sa_nil)) sa_nil))) sa_nil)))))
    (sb_cons (ss_sub se_int (se_var 5) se_int)
    (sb_cons (ss_if (st_cmp (ne_S hr.units) (se_fn T.f_handed_out (I.i_handed_out) hr (sa_cons (se_var 10) (sa_cons (se_op mul_S (se_lst (sa_cons se_non sa_nil)) se_int) (sa_cons (se_var 5) sa_nil)))) (se_lst (sa_cons (se_tup (sa_cons se_int (sa_cons se_int (sa_cons se_int sa_nil)))) (sa_cons (se_tup (sa_cons se_int (sa_cons se_int (sa_cons se_non sa_nil)))) (sa_cons (se_tup (sa_cons se_int (sa_cons se_int (sa_cons se_non sa_nil)))) sa_nil)))) (nomark _)) (sb_one (ss_ret se_bl)) sb_nil)
    (sb_cons (ss_sub se_non (se_var 5) se_int)
    (sb_one (ss_ret (se_cmp (eq_S hr.units) (se_fn T.f_handed_out (I.i_handed_out) hr (sa_cons (se_var 3) (sa_cons (se_op mul_S (se_lst (sa_cons se_non sa_nil)) se_int) (sa_cons (se_var 5) sa_nil)))) (se_lst (sa_cons (se_tup (sa_cons se_int (sa_cons se_int (sa_cons se_int sa_nil)))) (sa_cons (se_tup (sa_cons se_int (sa_cons se_int (sa_cons se_int sa_nil)))) sa_nil))) (nomark _))))))))))))
theorem ih_all (B : BMain mg base) (T : Tx K mg A0) : ∀ k, Ih P w K mg base A0 (2 * k) (fenv k)
  | 0 => ⟨fnok_zero, fnok_zero, fnok_zero, fnok_zero, fnok_zero, fnok_zero, fnok_zero, fnok_zero, fnok_zero, fnok_zero, fnok_zero, fnok_zero, fnok_zero, fnok_zero, fnok_zero, fnok_zero, fnok_zero, fnok_zero, fnok_zero, fnok_zero, fnok_zero, fnok_zero, fnok_zero, fnok_zero, fnok_zero, fnok_zero, fnok_zero, fnok_zero⟩
  | k + 1 => have I := ih_all B T k
    ⟨ok_is_whole T I, ok_is_day T I, ok_is_happening T I, ok_is_person T I, ok_is_term T I, ok_are_heirs B T I, ok_are_terms B T I, ok_is_letter T I, ok_are_letters B T I, ok_are_days B T I, ok_term_day T I, ok_letter_day T I, ok_letter_days T I, ok_in_order B T I, ok_first_heir T I, ok_handed_out T I, ok_check_letters T I, ok_check_days T I, ok__law_number T I, ok__law_term T I, ok__law_letter T I, ok__law_letters T I, ok__law_days T I, ok__law_copied T I, ok__law_dues T I, ok__law_gone T I, ok__law_order T I, ok_law T I⟩
end
end Q
set_option Elab.async false
set_option linter.all false
set_option maxRecDepth 100000
set_option maxHeartbeats 4000000
namespace Q
open PySem L2 Z
def lSort (n : Int) (kind : Int) : Int := if kind = 0 then n % 4 else if kind = 1 then 0 else if kind = 2 then 1 else n % 2
def lTerm (n at' kind : Int) : W :=
  if lSort n kind = 0 ∧ 0 < at' then .tup [.str "after", .int (if n / 4 / 40 % 2 = 0 then n / 4 % at' else at' - 1), .int (n / 4 / 80 % 21)]
  else if lSort n kind < 3 then .tup [.str "when", .int (n / 4 % 6), .int (n / 4 / 80 % 21)]
  else .tup [.str "day", .int (n / 4 % 61)]
theorem kind_cases {k : Int} (h0 : 0 ≤ k) (h1 : k < 4) : k = 0 ∨ k = 1 ∨ k = 2 ∨ k = 3 := by omega
theorem atI4 {α : Type} {a b c d : α} : atI [a, b, c, d] 0 = some a ∧ atI [a, b, c, d] 1 = some b ∧ atI [a, b, c, d] 2 = some c ∧ atI [a, b, c, d] 3 = some d := ⟨rfl, rfl, rfl, rfl⟩
theorem atI2 {α : Type} {a b : α} (z : Int) : atI [a, b] (z % 2) = some (if z % 2 = 0 then a else b) := by
  rcases (show z % 2 = 0 ∨ z % 2 = 1 by omega) with e | e <;> rw [e] <;> rfl
theorem law_term (F : Fenv) (n a k : Int) (h : AH) (h0 : 0 ≤ k) (h1 : k < 4) : runB 5 (c__law_term F) [.int n, .int a, .int k] h = .ok (lTerm n a k) h := by
  unfold lTerm
  rcases kind_cases h0 h1 with rfl | rfl | rfl | rfl
  all_goals
    simp [zE, zS, zO, zI, zL, zP, zB, c__law_term, atI4, atI2, lSort]
    try (by_cases ha : 0 < a)
    all_goals (try simp [*])
    all_goals (repeat' split)
    all_goals (first | rfl | (simp_all; done) | omega)
def lMix (c a w : Int) : Int := ((c + 977 * a) * 48271 + w) % 2147483647
def lMore (c a w : Int) : Int := lMix c a w * (lMix c a w + 31 * a + 7) * (lMix c a w + c + 5)
def lNum (c a w : Int) : Int := if 1000000000000000000 ≤ c then c else lMore c a w * (lMore c a w + 48271) / 1009
theorem mix_lo (c a w : Int) : 0 ≤ lMix c a w := Int.emod_nonneg _ (by decide)
theorem mix_hi (c a w : Int) : lMix c a w < 2147483647 := Int.emod_lt_of_pos _ (by decide)
theorem law_number (F : Fenv) (c a w : Int) (h : AH) (h0 : 0 ≤ a) (h1 : a ≤ 1000) (hc : Builtin.Int.intBits c ≤ 2000000) : runB 5 (c__law_number F) [.int c, .int a, .int w] h = .ok (.int (lNum c a w)) h := by
  simp [zE, zS, zO, zI, zL, zP, zB, c__law_number, oPow, oI]
  unfold lNum lMore
  rw [show ((c + 977 * a) * 48271 + w) % 2147483647 = lMix c a w from rfl]
  have m0 := mix_lo c a w
  have m1 := mix_hi c a w
  generalize lMix c a w = m at *
  by_cases hb : 1000000000000000000 ≤ c
  · rw [if_pos hb, if_pos hb]
  · rw [if_neg hb, if_neg hb]
    have b1 : IntMulOk 977 a := .of_left (by decide)
    have b2 : IntMulOk (c + 977 * a) 48271 := .of_right (by decide)
    have b3 : IntMulOk 31 a := .of_left (by decide)
    have b4 : IntMulOk m (m + 31 * a + 7) := .of_left (intBits_le_64 (by omega) (by omega))
    have hp0 : 0 ≤ m * (m + 31 * a + 7) := Int.mul_nonneg m0 (by omega)
    have hp1 : m * (m + 31 * a + 7) ≤ 2147483647 * 2147514654 := Int.mul_le_mul (by omega) (by omega) (by omega) (by omega)
    have q1 : Builtin.Int.intBits (m * (m + 31 * a + 7)) ≤ 64 := intBits_le_64 (by omega) (by omega)
    have b5 : IntMulOk (m * (m + 31 * a + 7)) (m + c + 5) := .of_left q1
    have q2 : Builtin.Int.intBits (m + c + 5) ≤ 2000002 := Nat.le_trans (intBits_add_le (intBits_add_le (intBits_le_64 (by omega) (by omega) : Builtin.Int.intBits m ≤ 64) hc) (show Builtin.Int.intBits 5 ≤ 64 by decide)) (by decide)
    have q3 : Builtin.Int.intBits (m * (m + 31 * a + 7) * (m + c + 5)) ≤ 2000066 := Nat.le_trans (intBits_mul_le q1 q2) (by decide)
    have q4 : Builtin.Int.intBits (m * (m + 31 * a + 7) * (m + c + 5) + 48271) ≤ 2000067 := Nat.le_trans (intBits_add_le q3 (show Builtin.Int.intBits 48271 ≤ 64 by decide)) (by decide)
    have b6 : IntMulOk (m * (m + 31 * a + 7) * (m + c + 5)) (m * (m + 31 * a + 7) * (m + c + 5) + 48271) := .of_le q3 q4 (by decide)
    rw [if_pos b1, if_pos b2, if_pos b3, if_pos b4, if_pos b5, if_pos b6]
end Q
set_option Elab.async false
set_option linter.all false
set_option maxRecDepth 100000
set_option maxHeartbeats 4000000
namespace Q
open PySem L2 Z
def lHeirs (n : Int) (m : Nat) : List W := (List.range m).map fun (i : Nat) => W.int ((n / 36 + 3 * (i : Int)) % 10)
def lCnt (n : Int) : Int := if n / 3 % 4 = 0 then 1 else if n / 3 % 4 = 1 then 2 else if n / 3 % 4 = 2 then 1 else 4
def lPow (i : Int) : Int := if i = 0 then 1 else if i = 1 then 7 else if i = 2 then 49 else 343
def lTerms (n a k : Int) (m : Nat) : List W := (List.range m).map fun (i : Nat) => lTerm (n / 12 / lPow i + (i : Int)) a k
theorem lHeirs_succ (n : Int) (m : Nat) : lHeirs n (m + 1) = lHeirs n m ++ [W.int ((n / 36 + 3 * (m : Int)) % 10)] := by simp [lHeirs, List.range_succ]
theorem lTerms_succ (n a k : Int) (m : Nat) : lTerms n a k (m + 1) = lTerms n a k m ++ [lTerm (n / 12 / lPow m + (m : Int)) a k] := by simp [lTerms, List.range_succ]
theorem lHeirs_len (n : Int) (m : Nat) : (lHeirs n m).length = m := by simp [lHeirs]
theorem lTerms_len (n a k : Int) (m : Nat) : (lTerms n a k m).length = m := by simp [lTerms]
theorem atIm {α : Type} {a b c d : α} (z : Int) : atI [a, b, c, d] (z % 4) = some (if z % 4 = 0 then a else if z % 4 = 1 then b else if z % 4 = 2 then c else d) := by
  rcases (show z % 4 = 0 ∨ z % 4 = 1 ∨ z % 4 = 2 ∨ z % 4 = 3 by omega) with e | e | e | e <;> rw [e] <;> rfl
theorem law_letter (F : Fenv) (hT : ∀ (n a k : Int) (h : AH), 0 ≤ k → k < 4 → F n__law_term [.int n, .int a, .int k] h = .ok (lTerm n a k) h) (n a k : Int) (h : AH) (h0 : 0 ≤ k) (h1 : k < 4) :
    runB 8 (c__law_letter F) [.int n, .int a, .int k] h = .ok (.tup [.ref h.length, .ref (h.length + 1)]) (h ++ [.lst (lHeirs n (1 + n % 3).toNat), .lst (lTerms n a k (lCnt n).toNat)]) := by
  have r1 : inRng (1 + n % 3) = true := by simp [inRng]; omega
  obtain ⟨σ1, g1, e1, t1, u1, rfl, rfl⟩ := loop_inv (stay := fun _ => true) (g := gNm 6) (body := l__law_letter_1 F) (xs := rngW 0 (1 + n % 3).toNat)
    (σ := [some (.int n), some (.int a), some (.int k), some (.ref h.length), some (.ref (h.length + 1)), some (.int (n / 12)), none, none]) (h := h ++ [.lst [], .lst []])
    (fun i σ g => ∃ t u, σ = [some (.int n), some (.int a), some (.int k), some (.ref h.length), some (.ref (h.length + 1)), some (.int (n / 12)), t, u] ∧ g = h ++ [.lst (lHeirs n i), .lst []])
    ⟨none, none, rfl, rfl⟩ (fun _ _ _ _ _ => rfl) (by
      rintro i x σ g hx ⟨t, u, rfl, rfl⟩
      obtain ⟨hi, rfl⟩ := rngW_get hx
      have hm : (i : Int) < 3 := by omega
      refine ⟨_, rfl, ?_⟩
      have e1 : (h ++ [AO.lst (lHeirs n i), AO.lst []])[h.length]? = some (.lst (lHeirs n i)) := get_at rfl
      have e2 : (lHeirs n i).length < 16777216 := by rw [lHeirs_len]; omega
      have e3 : IntMulOk 3 ((i : Nat) : Int) := .of_left (by decide)
      simp [zE, zS, zO, zI, zL, zP, zB, l__law_letter_1, isLst, listAt_of e1, oAppend, e1, e2, e3, set_at (h := h) rfl, lHeirs_succ])
  have r2 : inRng (lCnt n) = true := by unfold lCnt; (repeat' split) <;> decide
  obtain ⟨σ2, g2, e2, t2, rfl, rfl⟩ := loop_inv (stay := fun _ => true) (g := gNm 6) (body := l__law_letter_2 F) (xs := rngW 0 (lCnt n).toNat)
    (σ := [some (.int n), some (.int a), some (.int k), some (.ref h.length), some (.ref (h.length + 1)), some (.int (n / 12)), t1, u1]) (h := h ++ [.lst (lHeirs n (1 + n % 3).toNat), .lst []])
    (fun i σ g => ∃ t, σ = [some (.int n), some (.int a), some (.int k), some (.ref h.length), some (.ref (h.length + 1)), some (.int (n / 12)), t, u1] ∧ g = h ++ [.lst (lHeirs n (1 + n % 3).toNat), .lst (lTerms n a k i)])
    ⟨t1, rfl, rfl⟩ (fun _ _ _ _ _ => rfl) (by
      rintro i x σ g hx ⟨t, rfl, rfl⟩
      obtain ⟨hi, rfl⟩ := rngW_get hx
      have hm : (i : Int) < 4 := by
        have : lCnt n ≤ 4 := by unfold lCnt; (repeat' split) <;> decide
        omega
      refine ⟨_, rfl, ?_⟩
      have e1 : (h ++ [AO.lst (lHeirs n (1 + n % 3).toNat), AO.lst (lTerms n a k i)])[h.length + 1]? = some (.lst (lTerms n a k i)) := get_at2 rfl
      have e2 : (lTerms n a k i).length < 16777216 := by rw [lTerms_len]; omega
      have e4 : atI [W.int 1, W.int 7, W.int 49, W.int 343] ((i : Nat) : Int) = some (.int (lPow i)) := by
        rcases (show (i : Int) = 0 ∨ (i : Int) = 1 ∨ (i : Int) = 2 ∨ (i : Int) = 3 by omega) with e | e | e | e <;> rw [e] <;> rfl
      have e5 : 0 < lPow i ∧ lPow i < 1073741824 := by unfold lPow; (repeat' split) <;> decide
      simp [zE, zS, zO, zI, zL, zP, zB, l__law_letter_2, isLst, listAt_of e1, oAppend, e1, e2, e4, e5, hT _ _ _ _ h0 h1, set_at2 (h := h) rfl, lTerms_succ])
  have e6 : atI [W.int 1, W.int 2, W.int 1, W.int 4] (n / 3 % 4) = some (.int (lCnt n)) := by
    unfold lCnt
    rcases (show n / 3 % 4 = 0 ∨ n / 3 % 4 = 1 ∨ n / 3 % 4 = 2 ∨ n / 3 % 4 = 3 by omega) with e | e | e | e <;> rw [e] <;> rfl
  rw [rngW_length] at e1 e2
  simp [zE, zS, zO, zI, zL, zP, zB, c__law_letter, e6, r1, r2, stay_pure, Src.items, e1, e2]
end Q
set_option Elab.async false
set_option linter.all false
set_option maxRecDepth 100000
set_option maxHeartbeats 4000000
namespace Q
open PySem L2 Z
def lCells (ns : List Int) : List Int := if ns = [] then [5] else ns
def lWhole (ns : List Int) (by' : Int) : Int := (lCells ns).sum + by'
def lMany (ns : List Int) (by' most : Int) : Int := 1 + lNum (lWhole ns by') (by' + 1) 3 / 9 % most
def lKind (ns : List Int) (by' : Int) : Int := lNum (lWhole ns by') (by' + 1) 3 / 360 % 4
def lCell (ns : List Int) (i : Int) : Int := (lCells ns).getD (i % ((lCells ns).length : Int)).toNat 0
def lNo (ns : List Int) (by' i : Int) : Int := lNum (lCell ns (i + by') + i) (i + by') (lWhole ns by') / 3
theorem lNo_fold (ns : List Int) (b i : Int) : lNum (lCell ns (i + b) + i) (i + b) (lWhole ns b) / 3 = lNo ns b i := rfl
theorem cells_pos (ns : List Int) : 0 < (lCells ns).length := by
  unfold lCells
  split
  · decide
  · rename_i h; exact List.length_pos_iff.mpr h
theorem cells_at (ns : List Int) (i : Int) : atI ((lCells ns).map W.int) (i % ((lCells ns).length : Int)) = some (.int (lCell ns i)) := by
  have hp := cells_pos ns
  have h0 : 0 ≤ i % ((lCells ns).length : Int) := Int.emod_nonneg _ (by omega)
  have h1 : i % ((lCells ns).length : Int) < (lCells ns).length := Int.emod_lt_of_pos _ (by omega)
  unfold atI ixN lCell
  rw [List.length_map, if_pos h0, if_pos h1]
  have hl : (i % ((lCells ns).length : Int)).toNat < (lCells ns).length := by omega
  simp [hl, List.getD]
theorem cell_mem (ns : List Int) (i : Int) : lCell ns i ∈ lCells ns := by
  have hp := cells_pos ns
  have h0 : 0 ≤ i % ((lCells ns).length : Int) := Int.emod_nonneg _ (by omega)
  have h1 : i % ((lCells ns).length : Int) < (lCells ns).length := Int.emod_lt_of_pos _ (by omega)
  have hl : (i % ((lCells ns).length : Int)).toNat < (lCells ns).length := by omega
  unfold lCell
  simp [List.getD, hl]
/-- what the script is -/
structure Scr (ns : List Int) : Prop where
  len : ns.length ≤ 63
  bits : ∀ x ∈ ns, Builtin.Int.intBits x ≤ 1048576
theorem sum_bits {m : Nat} : ∀ (l : List Int), (∀ x ∈ l, Builtin.Int.intBits x ≤ m) → Builtin.Int.intBits l.sum ≤ m + l.length
  | [], _ => by simp [Builtin.Int.intBits]
  | a :: l, k => by
    rw [List.sum_cons]
    have := intBits_add_le (k a List.mem_cons_self) (sum_bits l fun x hx => k x (List.mem_cons_of_mem _ hx))
    refine Nat.le_trans this ?_
    simp
    omega
theorem Scr.cbits {ns : List Int} (S : Scr ns) : ∀ x ∈ lCells ns, Builtin.Int.intBits x ≤ 1048576 := fun x hx => by
  unfold lCells at hx
  split at hx
  · simp at hx; subst hx; decide
  · exact S.bits x hx
theorem Scr.clen {ns : List Int} (S : Scr ns) : (lCells ns).length ≤ 63 := by
  unfold lCells
  split
  · decide
  · exact S.len
theorem Scr.whole {ns : List Int} (S : Scr ns) {b : Int} (h0 : 0 ≤ b) (h1 : b ≤ 1000) : Builtin.Int.intBits (lWhole ns b) ≤ 2000000 :=
  Nat.le_trans (intBits_add_le (sum_bits _ S.cbits) (intBits_le_64 (by omega) (by omega) : Builtin.Int.intBits b ≤ 64)) (by have := S.clen; omega)
theorem Scr.cell {ns : List Int} (S : Scr ns) {i j : Int} (h0 : 0 ≤ i) (h1 : i ≤ 100000) : Builtin.Int.intBits (lCell ns j + i) ≤ 2000000 :=
  Nat.le_trans (intBits_add_le (S.cbits _ (cell_mem ns j)) (intBits_le_64 (by omega) (by omega) : Builtin.Int.intBits i ≤ 64)) (by decide)
theorem cut63 {ns : List Int} (h : ns.length ≤ 63) : cutW (ns.map W.int) none (some 63) = ns.map W.int := by
  have e : HT.sIx (ns.map W.int).length (ns.map W.int).length (some 63) = (ns.map W.int).length := by
    unfold HT.sIx
    simp
    omega
  unfold cutW
  rw [e]
  simp [HT.sIx]
  exact List.take_of_length_le (by simp)
theorem sum_ints (l : List Int) : optAll asInt (l.map W.int) = some l := by
  have := optAll_map (f := asInt) (g := W.int) (k := id) (fun c => rfl) l
  simpa using this
/-- the addresses and the objects of letters that were made one behind another, from b on -/
def lFound (b : Nat) (m : Nat) : List W := (List.range m).map fun (j : Nat) => W.tup [.ref (b + 2 * j), .ref (b + 2 * j + 1)]
def lObjs (no : Int → Int) (k : Int) (m : Nat) : AH := (List.range m).flatMap fun (j : Nat) => [AO.lst (lHeirs (no j) (1 + no j % 3).toNat), AO.lst (lTerms (no j) j k (lCnt (no j)).toNat)]
theorem lFound_succ (b m : Nat) : lFound b (m + 1) = lFound b m ++ [W.tup [.ref (b + 2 * m), .ref (b + 2 * m + 1)]] := by simp [lFound, List.range_succ]
theorem lFound_len (b m : Nat) : (lFound b m).length = m := by simp [lFound]
theorem lObjs_succ (no : Int → Int) (k : Int) (m : Nat) : lObjs no k (m + 1) = lObjs no k m ++ [AO.lst (lHeirs (no m) (1 + no m % 3).toNat), AO.lst (lTerms (no m) m k (lCnt (no m)).toNat)] := by
  simp [lObjs, List.range_succ]
theorem lObjs_len (no : Int → Int) (k : Int) (m : Nat) : (lObjs no k m).length = 2 * m := by
  induction m with
  | zero => rfl
  | succ m ih => rw [lObjs_succ, List.length_append, ih]; simp; omega
theorem law_letters (F : Fenv) (hN : ∀ (c a w : Int) (h : AH), 0 ≤ a → a ≤ 1000 → Builtin.Int.intBits c ≤ 2000000 → F n__law_number [.int c, .int a, .int w] h = .ok (.int (lNum c a w)) h)
    (hL : ∀ (n a k : Int) (h : AH), 0 ≤ k → k < 4 → F n__law_letter [.int n, .int a, .int k] h = .ok (.tup [.ref h.length, .ref (h.length + 1)]) (h ++ [.lst (lHeirs n (1 + n % 3).toNat), .lst (lTerms n a k (lCnt n).toNat)]))
    {ns : List Int} (S : Scr ns) {s : Nat} {h : AH} (hs : listAt h s = some (ns.map .int)) {b mo : Int} (b0 : 0 ≤ b) (b1 : b ≤ 10) (m0 : 0 < mo) (m1 : mo ≤ 40) :
    runB 9 (c__law_letters F) [.ref s, .int b, .int mo] h = .ok (.ref (h.length + 2)) (h ++ ([.lst [], .lst ((lCells ns).map .int), .lst (lFound (h.length + 3) (lMany ns b mo).toNat)] ++ lObjs (lNo ns b) (lKind ns b) (lMany ns b mo).toNat)) := by
  have hk0 : 0 ≤ lKind ns b := Int.emod_nonneg _ (by decide)
  have hk1 : lKind ns b < 4 := Int.emod_lt_of_pos _ (by decide)
  have q0 : 0 ≤ lNum (lWhole ns b) (b + 1) 3 / 9 % mo := Int.emod_nonneg _ (by omega)
  have q1 : lNum (lWhole ns b) (b + 1) 3 / 9 % mo < mo := Int.emod_lt_of_pos _ m0
  have r1 : inRng (lMany ns b mo) = true := by unfold lMany; simp [inRng]; omega
  have hm : lMany ns b mo ≤ 40 := by unfold lMany; omega
  obtain ⟨σ1, g1, e1, t1, rfl, rfl⟩ := loop_inv (stay := fun _ => true) (g := gNm 8) (body := l__law_letters_1 F) (xs := rngW 0 (lMany ns b mo).toNat)
    (σ := [some (.ref s), some (.int b), some (.int mo), some (.ref (h.length + 1)), some (.int (lWhole ns b)), some (.ref (h.length + 2)), some (.int (lMany ns b mo)), some (.int (lKind ns b)), none])
    (h := h ++ ([.lst [], .lst ((lCells ns).map .int), .lst []]))
    (fun i σ g => ∃ t, σ = [some (.ref s), some (.int b), some (.int mo), some (.ref (h.length + 1)), some (.int (lWhole ns b)), some (.ref (h.length + 2)), some (.int (lMany ns b mo)), some (.int (lKind ns b)), t] ∧
      g = h ++ ([.lst [], .lst ((lCells ns).map .int), .lst (lFound (h.length + 3) i)] ++ lObjs (lNo ns b) (lKind ns b) i))
    ⟨none, rfl, by simp [lFound, lObjs]⟩ (fun _ _ _ _ _ => rfl) (by
      rintro i x σ g hx ⟨t, rfl, rfl⟩
      obtain ⟨hi, rfl⟩ := rngW_get hx
      refine ⟨_, rfl, ?_⟩
      generalize hg : h ++ ([AO.lst [], AO.lst ((lCells ns).map W.int), AO.lst (lFound (h.length + 3) i)] ++ lObjs (lNo ns b) (lKind ns b) i) = g
      have hgl : g.length = h.length + 3 + 2 * i := by subst hg; simp [lObjs_len]; omega
      have e1 : g[h.length + 2]? = some (.lst (lFound (h.length + 3) i)) := by subst hg; simp [List.getElem?_append_right]
      have e2 : listAt g (h.length + 1) = some ((lCells ns).map .int) := by refine listAt_of ?_; subst hg; simp [List.getElem?_append_right]
      have e3 : ∀ (o1 o2 : AO), (g ++ [o1, o2])[h.length + 2]? = some (.lst (lFound (h.length + 3) i)) := fun o1 o2 => get_app e1
      have e4 : (lFound (h.length + 3) i).length < 16777216 := by rw [lFound_len]; omega
      have e5 := cells_at ns ((i : Int) + b)
      have e6 : (0 : Int) < ((lCells ns).length : Int) := by have := cells_pos ns; omega
      have e7 := hN (lCell ns ((i : Int) + b) + (i : Int)) ((i : Int) + b) (lWhole ns b) g (by omega) (by omega) (S.cell (by omega) (by omega))
      have e8 : (g ++ [AO.lst (lHeirs (lNo ns b i) (1 + lNo ns b i % 3).toNat), AO.lst (lTerms (lNo ns b i) i (lKind ns b) (lCnt (lNo ns b i)).toNat)]).set (h.length + 2) (AO.lst (lFound (h.length + 3) i ++ [W.tup [W.ref g.length, W.ref (g.length + 1)]])) =
          h ++ ([AO.lst [], AO.lst ((lCells ns).map W.int), AO.lst (lFound (h.length + 3) (i + 1))] ++ lObjs (lNo ns b) (lKind ns b) (i + 1)) := by
        rw [hgl, lFound_succ, lObjs_succ]
        subst hg
        rw [show h ++ ([AO.lst [], AO.lst ((lCells ns).map W.int), AO.lst (lFound (h.length + 3) i)] ++ lObjs (lNo ns b) (lKind ns b) i) = (h ++ [AO.lst [], AO.lst ((lCells ns).map W.int)]) ++ AO.lst (lFound (h.length + 3) i) :: lObjs (lNo ns b) (lKind ns b) i by simp]
        rw [List.append_assoc, List.cons_append, set_at (by simp)]
        simp
      simp [zE, zS, zO, zI, zL, zP, zB, l__law_letters_1, isLst, listAt_of e1, oIx_ref e2, bLen, e2, e5, e6, e7, hL _ _ _ _ hk0 hk1, oAppend, e3, e4, lNo_fold, cells_pos ns]
      exact ⟨_, ⟨rfl, by simpa using e8⟩, _, rfl⟩)
  rw [rngW_length] at e1
  have a1 : listAt (h ++ [AO.lst []]) s = some (ns.map .int) := listAt_app hs
  have a2 : listAt (h ++ [AO.lst []]) h.length = some [] := listAt_of get_new
  have a3 : listAt (h ++ [AO.lst [], AO.lst ((lCells ns).map W.int)]) (h.length + 1) = some ((lCells ns).map .int) := listAt_of (get_at2 rfl)
  have a4 := hN (lWhole ns b) (b + 1) 3 (h ++ [AO.lst [], AO.lst ((lCells ns).map W.int), AO.lst []]) (by omega) (by omega) (S.whole b0 (by omega))
  have a5 : (lCells ns).sum + b = lWhole ns b := rfl
  have a6 : 1 + lNum (lWhole ns b) (b + 1) 3 / 9 % mo = lMany ns b mo := rfl
  have a7 : lNum (lWhole ns b) (b + 1) 3 / 360 % 4 = lKind ns b := rfl
  have key : (xIf (bT (xOp (oEqD true) (xVar 0) (xLst aNil))) (xSl (xVar 0) pNone (pSome (xC (.int 63)))) (xLst (aCons (xC (.int 5)) aNil))) [some (.ref s), some (.int b), some (.int mo), none, none, none, none, none, none] h = .ok (.ref (h.length + 1)) (h ++ [.lst [], .lst ((lCells ns).map .int)]) := by
    simp [zE, zS, zO, zI, zL, zP, zB, ne_nil a1 a2]
    by_cases hn : ns = []
    · subst hn
      simp [lCells]
    · simp [hn, slK3_ref a1, cut63 S.len, lCells]
  simp [zE, zS, zO, zI, zL, zP, zB] at key
  simp [zE, zS, zO, zI, zL, zP, zB, c__law_letters, key, bSum, a3, sum_ints, a4, a5, a6, a7, m0, r1, stay_pure, Src.items, e1]
end Q
set_option Elab.async false
set_option linter.all false
set_option maxRecDepth 100000
set_option maxHeartbeats 4000000
namespace Q
open PySem L2 Z
def oW : Option Int → W
  | some i => .int i
  | none => .non
/-! ### terms and letters as data -/
inductive Tm where
  | day (d : Int) | when (e d : Int) | after (l d : Int)
def Tm.w : Tm → W
  | .day d => .tup [.str "day", .int d]
  | .when e d => .tup [.str "when", .int e, .int d]
  | .after l d => .tup [.str "after", .int l, .int d]
abbrev Lt := List Int × List Tm
/-- the letters of a list of pairs of lists -/
inductive RepI (h : AH) : List W → List Lt → Prop
  | nil : RepI h [] []
  | cons {a b : Nat} {hs : List Int} {ts : List Tm} {ws : List W} {L : List Lt} : h[a]? = some (.lst (hs.map .int)) → h[b]? = some (.lst (ts.map Tm.w)) → RepI h ws L → RepI h (.tup [.ref a, .ref b] :: ws) ((hs, ts) :: L)
theorem RepI.app {h g : AH} : ∀ {ws : List W} {L : List Lt}, RepI h ws L → RepI (h ++ g) ws L
  | _, _, .nil => .nil
  | _, _, .cons a b r => .cons (get_app a) (get_app b) (RepI.app r)
theorem RepI.len {h : AH} : ∀ {ws : List W} {L : List Lt}, RepI h ws L → ws.length = L.length
  | _, _, .nil => rfl
  | _, _, .cons _ _ r => congrArg (· + 1) r.len
theorem RepI.snoc {h : AH} {a b : Nat} {hs : List Int} {ts : List Tm} (ha : h[a]? = some (.lst (hs.map .int))) (hb : h[b]? = some (.lst (ts.map Tm.w))) : ∀ {ws : List W} {L : List Lt}, RepI h ws L → RepI h (ws ++ [.tup [.ref a, .ref b]]) (L ++ [(hs, ts)])
  | _, _, .nil => .cons ha hb .nil
  | _, _, .cons x y r => .cons x y (RepI.snoc ha hb r)
theorem RepI.get {h : AH} : ∀ {ws : List W} {L : List Lt} {i : Nat} {w : W}, RepI h ws L → ws[i]? = some w → ∃ a b hs ts, w = .tup [.ref a, .ref b] ∧ L[i]? = some (hs, ts) ∧ h[a]? = some (.lst (hs.map .int)) ∧ h[b]? = some (.lst (ts.map Tm.w))
  | _, _, _, _, .nil, e => by simp at e
  | _, _, 0, _, .cons a b r, e => by simp at e; subst e; exact ⟨_, _, _, _, rfl, rfl, a, b⟩
  | _, _, i + 1, w, .cons _ _ r, e => by
    obtain ⟨a, b, hs, ts, h1, h2, h3⟩ := RepI.get (i := i) (w := w) r (by simpa using e)
    exact ⟨a, b, hs, ts, h1, by simpa using h2, h3⟩
end Q
set_option Elab.async false
set_option linter.all false
set_option maxRecDepth 100000
set_option maxHeartbeats 4000000
namespace Q
open PySem L2 Z
def lDn (ns : List Int) (by' i : Int) : Int := lNum (lCell ns (i + by') + 11 * i) (i + by') (lWhole ns by') / 3
def lDk (ns : List Int) (by' : Int) : Int := lNum (lWhole ns by') (by' + 1) 3 / 1440 % 4
/-- a happening's day -/
def lDay (ns : List Int) (by' i : Int) : Option Int :=
  if lDk ns by' = 0 then some (lDn ns by' i % 61) else if lDk ns by' = 1 then (if 0 < lDn ns by' i / 61 % 4 then some (lDn ns by' i % 61) else none) else if lDk ns by' = 2 then none else some (lWhole ns by' % 61)
def lDays (ns : List Int) (by' : Int) (m : Nat) : List (Option Int) := (List.range m).map fun (i : Nat) => lDay ns by' i
theorem lDays_succ (ns : List Int) (b : Int) (m : Nat) : (lDays ns b (m + 1)).map oW = (lDays ns b m).map oW ++ [oW (lDay ns b m)] := by simp [lDays, List.range_succ]
theorem lDays_len (ns : List Int) (b : Int) (m : Nat) : (lDays ns b m).length = m := by simp [lDays]
theorem lDn_fold (ns : List Int) (b i : Int) : lNum (lCell ns (i + b) + 11 * i) (i + b) (lWhole ns b) / 3 = lDn ns b i := rfl
theorem law_days (F : Fenv) (hN : ∀ (c a w : Int) (h : AH), 0 ≤ a → a ≤ 1000 → Builtin.Int.intBits c ≤ 2000000 → F n__law_number [.int c, .int a, .int w] h = .ok (.int (lNum c a w)) h)
    {ns : List Int} (S : Scr ns) {s : Nat} {h : AH} (hs : listAt h s = some (ns.map .int)) {b : Int} (b0 : 0 ≤ b) (b1 : b ≤ 10) :
    runB 8 (c__law_days F) [.ref s, .int b] h = .ok (.ref (h.length + 2)) (h ++ [.lst [], .lst ((lCells ns).map .int), .lst ((lDays ns b 6).map oW)]) := by
  have hk0 : 0 ≤ lDk ns b := Int.emod_nonneg _ (by decide)
  have hk1 : lDk ns b < 4 := Int.emod_lt_of_pos _ (by decide)
  obtain ⟨σ1, g1, e1, t1, u1, rfl, rfl⟩ := loop_inv (stay := fun _ => true) (g := gNm 6) (body := l__law_days_1 F) (xs := rngW 0 6)
    (σ := [some (.ref s), some (.int b), some (.ref (h.length + 1)), some (.int (lWhole ns b)), some (.ref (h.length + 2)), some (.int (lDk ns b)), none, none])
    (h := h ++ ([.lst [], .lst ((lCells ns).map .int), .lst []]))
    (fun i σ g => ∃ t u, σ = [some (.ref s), some (.int b), some (.ref (h.length + 1)), some (.int (lWhole ns b)), some (.ref (h.length + 2)), some (.int (lDk ns b)), t, u] ∧
      g = h ++ [.lst [], .lst ((lCells ns).map .int), .lst ((lDays ns b i).map oW)])
    ⟨none, none, rfl, by simp [lDays]⟩ (fun _ _ _ _ _ => rfl) (by
      rintro i x σ g hx ⟨t, u, rfl, rfl⟩
      obtain ⟨hi, rfl⟩ := rngW_get hx
      refine ⟨_, rfl, ?_⟩
      have e1 : (h ++ [AO.lst [], AO.lst ((lCells ns).map W.int), AO.lst ((lDays ns b i).map oW)])[h.length + 2]? = some (.lst ((lDays ns b i).map oW)) := by simp [List.getElem?_append_right]
      have e2 : listAt (h ++ [AO.lst [], AO.lst ((lCells ns).map W.int), AO.lst ((lDays ns b i).map oW)]) (h.length + 1) = some ((lCells ns).map .int) := by refine listAt_of ?_; simp [List.getElem?_append_right]
      have e4 : (lDays ns b i).length < 16777216 := by rw [lDays_len]; omega
      have e5 := cells_at ns ((i : Int) + b)
      have e7 := fun g => hN (lCell ns ((i : Int) + b) + 11 * (i : Int)) ((i : Int) + b) (lWhole ns b) g (by omega) (by omega) (S.cell (by omega) (by omega))
      have e8 : IntMulOk 11 ((i : Nat) : Int) := .of_left (by decide)
      have e9 : ∀ p q r : W, atI [.int (lDn ns b i % 61), p, q, r] (lDk ns b) = some (if lDk ns b = 0 then .int (lDn ns b i % 61) else if lDk ns b = 1 then p else if lDk ns b = 2 then q else r) := fun p q r => by
        rcases kind_cases hk0 hk1 with e | e | e | e <;> rw [e] <;> rfl
      have e10 : (h ++ [AO.lst [], AO.lst ((lCells ns).map W.int), AO.lst ((lDays ns b i).map oW)]).set (h.length + 2) (AO.lst ((lDays ns b i).map oW ++ [oW (lDay ns b i)])) = h ++ [AO.lst [], AO.lst ((lCells ns).map W.int), AO.lst ((lDays ns b (i + 1)).map oW)] := by
        rw [lDays_succ, show h ++ [AO.lst [], AO.lst ((lCells ns).map W.int), AO.lst ((lDays ns b i).map oW)] = (h ++ [AO.lst [], AO.lst ((lCells ns).map W.int)]) ++ AO.lst ((lDays ns b i).map oW) :: [] by simp, set_at (by simp)]
        simp
      have e11 : (if lDk ns b = 0 then W.int (lDn ns b i % 61) else if lDk ns b = 1 then (if 0 < lDn ns b i / 61 % 4 then .int (lDn ns b i % 61) else .non) else if lDk ns b = 2 then .non else .int (lWhole ns b % 61)) = oW (lDay ns b i) := by
        unfold lDay
        (repeat' split) <;> rfl
      simp [zE, zS, zO, zI, zL, zP, zB, l__law_days_1, isLst, listAt_of e1, oIx_ref e2, bLen, e2, e5, e7, e8, cells_pos ns, lDn_fold, oAppend, e1, e4, e9]
      refine ⟨_, ?_, some (.int i), some (.int (lDn ns b i)), rfl⟩
      rw [lDays_succ, ← e11]
      by_cases hd : 0 < lDn ns b i / 61 % 4
      · rw [if_pos hd, if_pos hd]
      · rw [if_neg hd, if_neg hd])
  rw [rngW_length] at e1
  have a1 : listAt (h ++ [AO.lst []]) s = some (ns.map .int) := listAt_app hs
  have a2 : listAt (h ++ [AO.lst []]) h.length = some [] := listAt_of get_new
  have a3 : listAt (h ++ [AO.lst [], AO.lst ((lCells ns).map W.int)]) (h.length + 1) = some ((lCells ns).map .int) := listAt_of (get_at2 rfl)
  have a4 := hN (lWhole ns b) (b + 1) 3 (h ++ [AO.lst [], AO.lst ((lCells ns).map W.int), AO.lst []]) (by omega) (by omega) (S.whole b0 (by omega))
  have a5 : (lCells ns).sum + b = lWhole ns b := rfl
  have a7 : lNum (lWhole ns b) (b + 1) 3 / 1440 % 4 = lDk ns b := rfl
  have key : (xIf (bT (xOp (oEqD true) (xVar 0) (xLst aNil))) (xSl (xVar 0) pNone (pSome (xC (.int 63)))) (xLst (aCons (xC (.int 5)) aNil))) [some (.ref s), some (.int b), none, none, none, none, none, none] h = .ok (.ref (h.length + 1)) (h ++ [.lst [], .lst ((lCells ns).map .int)]) := by
    simp [zE, zS, zO, zI, zL, zP, zB, ne_nil a1 a2]
    by_cases hn : ns = []
    · subst hn
      simp [lCells]
    · simp [hn, slK3_ref a1, cut63 S.len, lCells]
  simp [zE, zS, zO, zI, zL, zP, zB] at key
  have r1 : inRng 6 = true := by decide
  simp [zE, zS, zO, zI, zL, zP, zB, c__law_days, key, bSum, a3, sum_ints, a4, a5, a7, r1, stay_pure, Src.items, e1]
end Q
set_option Elab.async false
set_option linter.all false
set_option maxRecDepth 100000
set_option maxHeartbeats 4000000
namespace Q
open PySem L2 Z
def addO (o : Option Int) (d : Int) : Option Int := o.map (· + d)
def tmDay (ds fo : List (Option Int)) : Tm → Option Int
  | .day d => some d
  | .when e d => addO (ds.getD e.toNat none) d
  | .after l d => addO (fo.getD l.toNat none) d
def later : Option Int → Option Int → Option Int
  | some a, some b => some (if b > a then b else a)
  | _, _ => none
def ltDay (ds fo : List (Option Int)) (ts : List Tm) (late : Option Int) : Option Int := ts.foldl (fun acc t => later acc (tmDay ds fo t)) late
def dueL (ds : List (Option Int)) (L : List Lt) (fo : List (Option Int)) : List (Option Int) := L.foldl (fun fo l => fo ++ [ltDay ds fo l.2 (some 0)]) fo
def dues (ds : List (Option Int)) (L : List Lt) : List (Option Int) := dueL ds L []
/-- a term of the letter at the place n -/
def okT (n : Nat) : Tm → Prop
  | .day d => 0 ≤ d ∧ d ≤ 60
  | .when e d => 0 ≤ e ∧ e < 6 ∧ 0 ≤ d ∧ d ≤ 20
  | .after l d => 0 ≤ l ∧ l < n ∧ 0 ≤ d ∧ d ≤ 20
def okL (n : Nat) (l : Lt) : Prop := (1 ≤ l.1.length ∧ l.1.length ≤ 3 ∧ l.1.Nodup ∧ ∀ x ∈ l.1, 0 ≤ x ∧ x < 10) ∧ 1 ≤ l.2.length ∧ l.2.length ≤ 4 ∧ ∀ t ∈ l.2, okT n t
/-- letters, the first at the place n -/
def okFrom : Nat → List Lt → Prop
  | _, [] => True
  | n, l :: L => okL n l ∧ okFrom (n + 1) L
theorem atO {xs : List (Option Int)} {e : Int} (h0 : 0 ≤ e) (h1 : e < xs.length) : atI (xs.map oW) e = some (oW (xs.getD e.toNat none)) := by
  unfold atI ixN
  rw [List.length_map, if_pos h0, if_pos h1]
  have hl : e.toNat < xs.length := by omega
  simp [hl, List.getD]
theorem sOk : PyData.strOk "after" = true ∧ PyData.strOk "day" = true ∧ PyData.strOk "when" = true := by decide +kernel
theorem sNe : (("after" : Str) = "day") = False ∧ (("when" : Str) = "day") = False ∧ (("day" : Str) = "after") = False ∧ (("when" : Str) = "after") = False ∧ (("day" : Str) = "when") = False ∧ (("after" : Str) = "when") = False := by
  refine ⟨?_, ?_, ?_, ?_, ?_, ?_⟩ <;> exact eq_false (by decide +kernel)
theorem at3 {α : Type} {a b c : α} : atI [a, b, c] 0 = some a ∧ atI [a, b, c] 1 = some b ∧ atI [a, b, c] 2 = some c ∧ atI [a, b, c] (-1) = some c := ⟨rfl, rfl, rfl, rfl⟩
theorem at2 {α : Type} {a b : α} : atI [a, b] 0 = some a ∧ atI [a, b] 1 = some b ∧ atI [a, b] (-1) = some b := ⟨rfl, rfl, rfl⟩
/-- strings that are compared -/
theorem zT (B : Bool) (h : AH) : oEqD B (.str "after") (.str "after") h = .ok (.bl (!B)) h ∧ oEqD B (.str "day") (.str "day") h = .ok (.bl (!B)) h ∧ oEqD B (.str "when") (.str "when") h = .ok (.bl (!B)) h ∧ oEqD B (.str "day") (.str "after") h = .ok (.bl B) h ∧ oEqD B (.str "when") (.str "after") h = .ok (.bl B) h ∧
    oEqD B (.str "after") (.str "day") h = .ok (.bl B) h ∧ oEqD B (.str "when") (.str "day") h = .ok (.bl B) h ∧ oEqD B (.str "after") (.str "when") h = .ok (.bl B) h ∧ oEqD B (.str "day") (.str "when") h = .ok (.bl B) h := by
  obtain ⟨a, d, w⟩ := sOk
  refine ⟨?_, ?_, ?_, ?_, ?_, ?_, ?_, ?_, ?_⟩
  all_goals (rw [eq_str (by assumption) (by assumption)]; simp [sNe])
theorem dues_turn (F : Fenv) {h : AH} {p q f : Nat} {hs : W} {b : Nat} {ds fo : List (Option Int)} {n : Nat} (hn : fo.length = n) (hd : ds.length = 6) (hf : listAt h f = some (fo.map oW)) (hq : listAt h q = some (ds.map oW)) {x0 : Option W} (late : Option Int) (t : Tm) (ht : okT n t) (y z u v : Option W) :
    ∃ y' z' u', l__law_dues_1 F [some (.ref p), some (.ref q), some (.ref f), x0, some (.ref b), some (oW late), some t.w, y, z, u] h = .ok (.nx [some (.ref p), some (.ref q), some (.ref f), x0, some (.ref b), some (oW (later late (tmDay ds fo t))), some t.w, y', z', u']) h := by
  cases t with
  | day d =>
    cases late with
    | none => simp [zE, zS, zO, zI, zL, zP, zB, zT, l__law_dues_1, Tm.w, oW, at2, later]
    | some a => simp [zE, zS, zO, zI, zL, zP, zB, zT, l__law_dues_1, Tm.w, oW, at2, later, tmDay, bMax]
  | when e d =>
    obtain ⟨h0, h1, h2, h3⟩ := ht
    have e1 := atO (xs := ds) h0 (by omega)
    have e2 : tmDay ds fo (.when e d) = addO (ds.getD e.toNat none) d := rfl
    rw [e2]
    generalize ds.getD e.toNat none = o at e1 ⊢
    cases late <;> cases o <;> simp [zE, zS, zO, zI, zL, zP, zB, zT, l__law_dues_1, Tm.w, oW, at3, later, oIx_ref hq, e1, addO, bMax]
  | after l d =>
    obtain ⟨h0, h1, h2, h3⟩ := ht
    have e1 := atO (xs := fo) h0 (by omega)
    have e2 : tmDay ds fo (.after l d) = addO (fo.getD l.toNat none) d := rfl
    rw [e2]
    generalize fo.getD l.toNat none = o at e1 ⊢
    cases late <;> cases o <;> simp [zE, zS, zO, zI, zL, zP, zB, zT, l__law_dues_1, Tm.w, oW, at3, later, oIx_ref hf, e1, addO, bMax]
theorem okFrom_get : ∀ {L : List Lt} {n i : Nat} {l : Lt}, okFrom n L → L[i]? = some l → okL (n + i) l
  | [], _, _, _, _, e => by simp at e
  | x :: L, n, 0, l, ok, e => by simp at e; subst e; exact ok.1
  | x :: L, n, i + 1, l, ok, e => by
    have := okFrom_get (n := n + 1) (i := i) ok.2 (by simpa using e)
    rw [show n + (i + 1) = n + 1 + i by omega]
    exact this
theorem dueL_snoc (ds : List (Option Int)) (L : List Lt) (l : Lt) : dueL ds (L ++ [l]) [] = dueL ds L [] ++ [ltDay ds (dueL ds L []) l.2 (some 0)] := by simp [dueL]
theorem dueL_len (ds : List (Option Int)) : ∀ (L : List Lt) (fo : List (Option Int)), (dueL ds L fo).length = fo.length + L.length
  | [], fo => rfl
  | l :: L, fo => by
    show (dueL ds L (fo ++ [ltDay ds fo l.2 (some 0)])).length = _
    rw [dueL_len ds L]; simp; omega
theorem take_succ' {α : Type} {L : List α} {i : Nat} {l : α} (e : L[i]? = some l) : L.take (i + 1) = L.take i ++ [l] := by
  rw [List.take_add_one, e]; rfl
theorem dues_inner (F : Fenv) {h : AH} {p q f : Nat} {b : Nat} {ds fo : List (Option Int)} {n : Nat} (hn : fo.length = n) (hd : ds.length = 6) (hf : listAt h f = some (fo.map oW)) (hq : listAt h q = some (ds.map oW)) {x0 : Option W} {stay : AH → Bool} (hst : stay h = true) :
    ∀ (ts : List Tm) (late : Option Int) (x y z u : Option W), (∀ t ∈ ts, okT n t) → ∃ x' y' z' u', loopS stay (gNm 6) (l__law_dues_1 F) (ts.map Tm.w) [some (.ref p), some (.ref q), some (.ref f), x0, some (.ref b), some (oW late), x, y, z, u] h =
      .ok (.nx [some (.ref p), some (.ref q), some (.ref f), x0, some (.ref b), some (oW (ltDay ds fo ts late)), x', y', z', u']) h
  | [], late, x, y, z, u, _ => ⟨x, y, z, u, by simp [loopS, hst, ltDay]⟩
  | t :: ts, late, x, y, z, u, ok => by
    obtain ⟨y1, z1, u1, e⟩ := dues_turn F (p := p) (b := b) (hs := .non) hn hd hf hq (x0 := x0) late t (ok t List.mem_cons_self) y z u none
    obtain ⟨x', y', z', u', e'⟩ := dues_inner F hn hd hf hq hst ts (later late (tmDay ds fo t)) (some t.w) y1 z1 u1 fun t ht => ok t (List.mem_cons_of_mem _ ht)
    refine ⟨x', y', z', u', ?_⟩
    rw [List.map_cons]
    unfold loopS
    simp only [hst, if_true, zS, zL, e, Res.bind_ok]
    exact e'
theorem law_dues (F : Fenv) {h : AH} {p q : Nat} {ws : List W} {L : List Lt} {ds : List (Option Int)} (hp : listAt h p = some ws) (R : RepI h ws L) (hq : listAt h q = some (ds.map oW)) (hd : ds.length = 6) (ok : okFrom 0 L) (hL : L.length ≤ 100) :
    runB 10 (c__law_dues F) [.ref p, .ref q] h = .ok (.ref h.length) (h ++ [.lst ((dues ds L).map oW)]) := by
  have hlen := R.len
  obtain ⟨σ1, g1, e1, a1, b1, c1, d1, x1, y1, z1, rfl, rfl⟩ := loop_inv (stay := (Src.seq p ws).stay) (g := gTp [gNm 3, gNm 4]) (body := l__law_dues_2 F) (xs := ws)
    (σ := [some (.ref p), some (.ref q), some (.ref h.length), none, none, none, none, none, none, none]) (h := h ++ [.lst []])
    (fun i σ g => ∃ a b c d x y z, σ = [some (.ref p), some (.ref q), some (.ref h.length), a, b, c, d, x, y, z] ∧ g = h ++ [.lst ((dueL ds (L.take i) []).map oW)])
    ⟨none, none, none, none, none, none, none, rfl, by simp [dueL]⟩ (fun i σ g _ iv => by
      obtain ⟨_, _, _, _, _, _, _, _, rfl⟩ := iv
      exact decide_eq_true (listAt_app hp)) (by
      rintro i x σ g hx ⟨a, b, c, d, y, z, u, rfl, rfl⟩
      obtain ⟨ha, hb, hs, ts, rfl, hl, r1, r2⟩ := R.get hx
      have okl := okFrom_get ok hl
      rw [Nat.zero_add] at okl
      have hi : i < L.length := get_lt hl
      generalize hfo : dueL ds (L.take i) [] = fo
      have fl : fo.length = i := by subst hfo; rw [dueL_len]; simp; omega
      have k1 : (h ++ [AO.lst (fo.map oW)])[h.length]? = some (.lst (fo.map oW)) := get_new
      have k2 : listAt (h ++ [AO.lst (fo.map oW)]) hb = some (ts.map Tm.w) := listAt_of (get_app r2)
      obtain ⟨x', y', z', u', e⟩ := dues_inner F (p := p) (b := hb) (x0 := some (.ref ha)) fl hd (listAt_of k1) (listAt_app (g := [AO.lst (fo.map oW)]) hq) (stay := (Src.seq hb (ts.map Tm.w)).stay) (decide_eq_true k2) ts (some 0) d y z u okl.2.2.2
      have k3 : fo.length < 16777216 := by omega
      refine ⟨_, rfl, _, _, ?_, some (.ref ha), some (.ref hb), some (oW (ltDay ds fo ts (some 0))), x', y', z', u', rfl, rfl⟩
      rw [take_succ' hl, dueL_snoc, hfo]
      rw [show oW (some 0) = W.int 0 from rfl] at e
      simp [zE, zS, zO, zI, zL, zP, zB, l__law_dues_2, iSeqK_ref k2, Src.items, e, isLst, listAt_of k1, oAppend, k1, k3])
  rw [hlen, List.take_length] at e1
  simp [zE, zS, zO, zI, zL, zP, zB, c__law_dues, iSeqK_ref (listAt_app (g := [AO.lst []]) hp), Src.items, e1, dues]
end Q
set_option Elab.async false
set_option linter.all false
set_option maxRecDepth 100000
set_option maxHeartbeats 4000000
namespace Q
open PySem L2 Z
def lTm (n a k : Int) : Tm :=
  if lSort n k = 0 ∧ 0 < a then .after (if n / 4 / 40 % 2 = 0 then n / 4 % a else a - 1) (n / 4 / 80 % 21)
  else if lSort n k < 3 then .when (n / 4 % 6) (n / 4 / 80 % 21)
  else .day (n / 4 % 61)
theorem lTm_w (n a k : Int) : lTerm n a k = (lTm n a k).w := by
  unfold lTerm lTm
  (repeat' split) <;> rfl
theorem lTm_ok (n k : Int) (j : Nat) : okT j (lTm n j k) := by
  unfold lTm
  split
  · rename_i h
    have h1 : 0 ≤ n / 4 % (j : Int) := Int.emod_nonneg _ (by omega)
    have h2 : n / 4 % (j : Int) < j := Int.emod_lt_of_pos _ (by omega)
    show _ ∧ _
    split <;> refine ⟨?_, ?_, ?_, ?_⟩ <;> omega
  · split
    · refine ⟨?_, ?_, ?_, ?_⟩ <;> omega
    · refine ⟨?_, ?_⟩ <;> omega
def lHs (n : Int) (m : Nat) : List Int := (List.range m).map fun (i : Nat) => (n / 36 + 3 * (i : Int)) % 10
def lTs (n a k : Int) (m : Nat) : List Tm := (List.range m).map fun (i : Nat) => lTm (n / 12 / lPow i + (i : Int)) a k
theorem lHs_w (n : Int) (m : Nat) : lHeirs n m = (lHs n m).map .int := by simp [lHeirs, lHs, List.map_map, Function.comp_def]
theorem lTs_w (n a k : Int) (m : Nat) : lTerms n a k m = (lTs n a k m).map Tm.w := by
  simp [lTerms, lTs, List.map_map, Function.comp_def, lTm_w]
def lLt (no : Int → Int) (k : Int) (j : Nat) : Lt := (lHs (no j) (1 + no j % 3).toNat, lTs (no j) j k (lCnt (no j)).toNat)
def lLs (no : Int → Int) (k : Int) (m : Nat) : List Lt := (List.range m).map fun (j : Nat) => lLt no k j
def objs (L : List Lt) : AH := L.flatMap fun l => [AO.lst (l.1.map .int), AO.lst (l.2.map Tm.w)]
theorem lObjs_eq (no : Int → Int) (k : Int) (m : Nat) : lObjs no k m = objs (lLs no k m) := by
  unfold lObjs objs lLs
  rw [List.flatMap_map]
  congr 1
  funext j
  simp [lLt, lHs_w, lTs_w]
theorem lLs_len (no : Int → Int) (k : Int) (m : Nat) : (lLs no k m).length = m := by simp [lLs]
theorem lLs_succ (no : Int → Int) (k : Int) (m : Nat) : lLs no k (m + 1) = lLs no k m ++ [lLt no k m] := by simp [lLs, List.range_succ]
theorem lLt_ok (no : Int → Int) (k : Int) (j : Nat) : okL j (lLt no k j) := by
  have h1 : 0 ≤ no j % 3 := Int.emod_nonneg _ (by decide)
  have h2 : no j % 3 < 3 := Int.emod_lt_of_pos _ (by decide)
  have hc : 1 ≤ lCnt (no j) ∧ lCnt (no j) ≤ 4 := by unfold lCnt; (repeat' split) <;> decide
  refine ⟨⟨?_, ?_, ?_, ?_⟩, ?_, ?_, ?_⟩
  · simp [lLt, lHs]; omega
  · simp [lLt, lHs]; omega
  · show (lHs (no j) _).Nodup
    unfold lHs
    have : (1 + no j % 3).toNat ≤ 3 := by omega
    generalize (1 + no j % 3).toNat = m at this
    rcases (show m = 0 ∨ m = 1 ∨ m = 2 ∨ m = 3 by omega) with e | e | e | e <;> subst e <;> simp [List.range_succ] <;> omega
  · intro x hx
    simp [lLt, lHs] at hx
    obtain ⟨i, _, rfl⟩ := hx
    omega
  · simp [lLt, lTs]; omega
  · simp [lLt, lTs]; omega
  · intro t ht
    simp only [lLt, lTs, List.mem_map] at ht
    obtain ⟨i, _, rfl⟩ := ht
    exact lTm_ok _ _ _
theorem okFrom_snoc : ∀ {L : List Lt} {n : Nat} {l : Lt}, okFrom n L → okL (n + L.length) l → okFrom n (L ++ [l])
  | [], n, l, _, k => ⟨k, trivial⟩
  | x :: L, n, l, ok, k => ⟨ok.1, okFrom_snoc ok.2 (by rw [show n + 1 + L.length = n + (x :: L).length by simp; omega]; exact k)⟩
theorem lLs_ok (no : Int → Int) (k : Int) : ∀ m, okFrom 0 (lLs no k m)
  | 0 => trivial
  | m + 1 => by
    rw [lLs_succ]
    exact okFrom_snoc (lLs_ok no k m) (by rw [lLs_len, Nat.zero_add]; exact lLt_ok no k m)
theorem objs_snoc (L : List Lt) (l : Lt) : objs (L ++ [l]) = objs L ++ [AO.lst (l.1.map .int), AO.lst (l.2.map Tm.w)] := by simp [objs]
theorem objs_len : ∀ L : List Lt, (objs L).length = 2 * L.length
  | [] => rfl
  | l :: L => by show (([AO.lst (l.1.map .int), AO.lst (l.2.map Tm.w)] ++ objs L) : AH).length = _; rw [List.length_append, objs_len L]; simp; omega
end Q
set_option Elab.async false
set_option linter.all false
set_option maxRecDepth 100000
set_option maxHeartbeats 4000000
namespace Q
open PySem L2 Z
/-! ### data of letters and days -/
def oD : Option Int → PyData
  | some i => .int i
  | none => .none
def Tm.d : Tm → PyData
  | .day d => .tuple [.str "day", .int d]
  | .when e d => .tuple [.str "when", .int e, .int d]
  | .after l d => .tuple [.str "after", .int l, .int d]
def ltD (l : Lt) : PyData := .tuple [.list (l.1.map .int), .list (l.2.map Tm.d)]
def opsD (os : List (Option Int)) : PyData := .list (os.map oD)
def lettersD (L : List Lt) : PyData := .list (L.map ltD)
theorem dat_oW {h : AH} {n : Nat} (o : Option Int) : dat h (n + 1) (oW o) = some (oD o) := by cases o <;> rfl
theorem dat_tm {h : AH} {n : Nat} (t : Tm) : dat h (n + 2) t.w = some t.d := by cases t <;> rfl
theorem dat_list {h : AH} {n a : Nat} {xs : List W} {ds : List PyData} (e : listAt h a = some xs) (k : optAll (dat h n) xs = some ds) : dat h (n + 1) (.ref a) = some (.list ds) := by
  show (match listAt h a with | some xs => (optAll (dat h n) xs).map PyData.list | none => none) = _
  rw [e]
  dsimp only
  rw [k]
  rfl
theorem dat_tup {h : AH} {n : Nat} {xs : List W} {ds : List PyData} (k : optAll (dat h n) xs = some ds) : dat h (n + 1) (.tup xs) = some (.tuple ds) := by
  show (optAll (dat h n) xs).map PyData.tuple = _
  rw [k]; rfl
theorem dat_ops {h : AH} {n a : Nat} {os : List (Option Int)} (e : listAt h a = some (os.map oW)) : dat h (n + 2) (.ref a) = some (opsD os) :=
  dat_list e (optAll_map (f := dat h (n + 1)) (g := oW) (k := oD) (fun c => dat_oW c) os)
theorem dat_int {h : AH} {n a : Nat} {ns : List Int} (e : listAt h a = some (ns.map .int)) : dat h (n + 2) (.ref a) = some (.list (ns.map .int)) :=
  dat_list e (optAll_map (f := dat h (n + 1)) (g := W.int) (k := PyData.int) (fun c => rfl) ns)
theorem dat_tms {h : AH} {n a : Nat} {ts : List Tm} (e : listAt h a = some (ts.map Tm.w)) : dat h (n + 3) (.ref a) = some (.list (ts.map Tm.d)) :=
  dat_list e (optAll_map (f := dat h (n + 2)) (g := Tm.w) (k := Tm.d) (fun c => dat_tm c) ts)
theorem optAll_rep {h : AH} {n : Nat} : ∀ {ws : List W} {L : List Lt}, RepI h ws L → optAll (dat h (n + 4)) ws = some (L.map ltD)
  | _, _, .nil => rfl
  | _, _, .cons (a := a) (b := b) (hs := hs) (ts := ts) x y r => by
    have e1 : dat h (n + 4) (.tup [.ref a, .ref b]) = some (ltD (hs, ts)) := dat_tup (by
      unfold optAll optAll optAll
      rw [dat_int (n := n + 1) (listAt_of x), dat_tms (n := n) (listAt_of y)])
    unfold optAll
    rw [e1, optAll_rep r]
    rfl
theorem dat_letters {h : AH} {n a : Nat} {ws : List W} {L : List Lt} (e : listAt h a = some ws) (r : RepI h ws L) : dat h (n + 5) (.ref a) = some (lettersD L) := dat_list e (optAll_rep r)
theorem oD_can (o : Option Int) : (oD o).canLay0 = true := by cases o <;> rfl
theorem Tm.d_can (t : Tm) : t.d.canLay0 = true := by
  obtain ⟨a, d, w⟩ := sOk
  cases t <;> simp [Tm.d, PyData.canLay0, PyData.canLayAll0, a, d, w]
theorem can_list {ds : List PyData} (k : ∀ d ∈ ds, d.canLay0 = true) : (PyData.list ds).canLay0 = true := canAll k
theorem can_tup {ds : List PyData} (k : ∀ d ∈ ds, d.canLay0 = true) : (PyData.tuple ds).canLay0 = true := canAll k
theorem can_map {α : Type} {f : α → PyData} (k : ∀ a, (f a).canLay0 = true) (l : List α) : (PyData.list (l.map f)).canLay0 = true := can_list fun d hd => by obtain ⟨i, _, rfl⟩ := List.mem_map.mp hd; exact k i
theorem opsD_can (os : List (Option Int)) : (opsD os).canLay0 = true := can_map oD_can os
theorem ltD_can (l : Lt) : (ltD l).canLay0 = true := can_tup fun d hd => by
  rcases List.mem_cons.mp hd with rfl | hd
  · exact can_ints _
  · rcases List.mem_cons.mp hd with rfl | hd
    · exact can_map Tm.d_can _
    · cases hd
theorem lettersD_can (L : List Lt) : (lettersD L).canLay0 = true := can_map ltD_can L
/-! ### letters that stand in a block: the list at b, its lists behind it -/
structure Blk (h : AH) (b : Nat) (L : List Lt) : Prop where
  top : h[b]? = some (.lst (lFound (b + 1) L.length))
  hs : ∀ (j : Nat) (l : Lt), L[j]? = some l → h[b + 1 + 2 * j]? = some (.lst (l.1.map .int))
  ts : ∀ (j : Nat) (l : Lt), L[j]? = some l → h[b + 2 + 2 * j]? = some (.lst (l.2.map Tm.w))
theorem Blk.app {h g : AH} {b : Nat} {L : List Lt} (B : Blk h b L) : Blk (h ++ g) b L := ⟨get_app B.top, fun j l e => get_app (B.hs j l e), fun j l e => get_app (B.ts j l e)⟩
theorem Blk.set {h : AH} {b n : Nat} {o : AO} {L : List Lt} (B : Blk h b L) (hn : n < b ∨ b + 2 * L.length < n) : Blk (h.set n o) b L :=
  ⟨get_set_ne B.top (by omega), fun j l e => get_set_ne (B.hs j l e) (by have := get_lt e; omega), fun j l e => get_set_ne (B.ts j l e) (by have := get_lt e; omega)⟩
theorem repI_of {h : AH} : ∀ {ws : List W} {L : List Lt}, ws.length = L.length → (∀ (j : Nat) (l : Lt), L[j]? = some l → ∃ a b, ws[j]? = some (.tup [.ref a, .ref b]) ∧ h[a]? = some (.lst (l.1.map .int)) ∧ h[b]? = some (.lst (l.2.map Tm.w))) → RepI h ws L
  | [], [], _, _ => .nil
  | w :: ws, l :: L, e, k => by
    obtain ⟨a, b, e1, e2, e3⟩ := k 0 l rfl
    cases e1
    exact .cons (hs := l.1) (ts := l.2) e2 e3 (repI_of (by simpa using e) fun j l' q => by simpa using k (j + 1) l' (by simpa using q))
theorem Blk.rep {h : AH} {b : Nat} {L : List Lt} (B : Blk h b L) : RepI h (lFound (b + 1) L.length) L :=
  repI_of (lFound_len _ _) fun j l e => ⟨b + 1 + 2 * j, b + 1 + 2 * j + 1, by simp [lFound, get_lt e], B.hs j l e, by rw [show b + 1 + 2 * j + 1 = b + 2 + 2 * j by omega]; exact B.ts j l e⟩
theorem Blk.at {h : AH} {b : Nat} {L : List Lt} (B : Blk h b L) : listAt h b = some (lFound (b + 1) L.length) := listAt_of B.top
theorem Blk.dat {h : AH} {b n : Nat} {L : List Lt} (B : Blk h b L) : dat h (n + 5) (.ref b) = some (lettersD L) := dat_letters B.at B.rep
theorem Blk.lt {h : AH} {b : Nat} {L : List Lt} (B : Blk h b L) : b + 2 * L.length < h.length := by
  have h1 := get_lt B.top
  cases hL : L.length with
  | zero => omega
  | succ m =>
    have hm : m < L.length := by omega
    have := get_lt (B.ts m L[m] (List.getElem?_eq_getElem hm))
    omega
theorem objs_get : ∀ {L : List Lt} {j : Nat} {l : Lt}, L[j]? = some l → (objs L)[2 * j]? = some (.lst (l.1.map .int)) ∧ (objs L)[2 * j + 1]? = some (.lst (l.2.map Tm.w))
  | [], _, _, e => by simp at e
  | x :: L, 0, l, e => by simp at e; subst e; exact ⟨rfl, rfl⟩
  | x :: L, j + 1, l, e => by
    have := objs_get (L := L) (j := j) (l := l) (by simpa using e)
    rw [show 2 * (j + 1) = 2 * j + 1 + 1 by omega]
    exact this
/-- a block that was just made -/
theorem blk_new {h g : AH} {b : Nat} {L : List Lt} (hb : b = h.length) : Blk (h ++ ([AO.lst (lFound (b + 1) L.length)] ++ objs L) ++ g) b L := by
  subst hb
  refine .app ⟨by simp, fun j l e => ?_, fun j l e => ?_⟩
  · rw [List.getElem?_append_right (by omega), show h.length + 1 + 2 * j - h.length = 2 * j + 1 by omega]
    simpa using (objs_get e).1
  · rw [List.getElem?_append_right (by omega), show h.length + 2 + 2 * j - h.length = 2 * j + 1 + 1 by omega]
    simpa using (objs_get e).2
/-- days as they may be handed in -/
def okDs (ds : List (Option Int)) : Prop := ds.length = 6 ∧ ∀ d, some d ∈ ds → 0 ≤ d ∧ d ≤ 60
end Q
set_option Elab.async false
set_option linter.all false
set_option maxRecDepth 100000
set_option maxHeartbeats 4000000
namespace Q
open PySem L2 Z
theorem lDay_ok (ns : List Int) (b i : Int) {d : Int} (e : lDay ns b i = some d) : 0 ≤ d ∧ d ≤ 60 := by
  unfold lDay at e
  (repeat' split at e) <;> (first | cases e | skip) <;> omega
theorem lDays_ok (ns : List Int) (b : Int) : okDs (lDays ns b 6) := ⟨lDays_len _ _ _, fun d hd => by
  obtain ⟨i, _, e⟩ := List.mem_map.mp hd
  exact lDay_ok ns b i e⟩
end Q
set_option Elab.async false
set_option linter.all false
set_option maxRecDepth 100000
set_option maxHeartbeats 4000000
namespace Q
open PySem L2 Z
/-! ### days that are no later -/
def leO : Option Int → Option Int → Prop
  | some a, some b => a ≤ b
  | none, none => True
  | _, _ => False
theorem leO.refl : ∀ a, leO a a
  | some a => Int.le_refl a
  | none => trivial
theorem leO.none_iff : ∀ {a b}, leO a b → (a = none ↔ b = none)
  | some _, some _, _ => by simp
  | none, none, _ => by simp
  | some _, none, h => h.elim
  | none, some _, h => h.elim
theorem leO.later : ∀ {a a' b b'}, leO a a' → leO b b' → leO (Q.later a b) (Q.later a' b')
  | some a, some a', some b, some b', h1, h2 => by
    have h1 : a ≤ a' := h1
    have h2 : b ≤ b' := h2
    show (if b > a then b else a) ≤ (if b' > a' then b' else a')
    split <;> split <;> omega
  | some _, some _, none, none, _, _ => trivial
  | none, none, some _, some _, _, _ => trivial
  | none, none, none, none, _, _ => trivial
  | some _, none, _, _, h, _ => h.elim
  | none, some _, _, _, h, _ => h.elim
  | some _, some _, some _, none, _, h => h.elim
  | some _, some _, none, some _, _, h => h.elim
  | none, none, some _, none, _, h => h.elim
  | none, none, none, some _, _, h => h.elim
def leL (xs ys : List (Option Int)) : Prop := xs.length = ys.length ∧ ∀ i, leO (xs.getD i none) (ys.getD i none)
theorem leL.refl (xs : List (Option Int)) : leL xs xs := ⟨rfl, fun _ => leO.refl _⟩
theorem leL.snoc {xs ys : List (Option Int)} {a b : Option Int} (h : leL xs ys) (k : leO a b) : leL (xs ++ [a]) (ys ++ [b]) := by
  refine ⟨by simp [h.1], fun i => ?_⟩
  have hl := h.1
  rcases Nat.lt_trichotomy i xs.length with hi | hi | hi
  · have hi' : i < ys.length := by omega
    have := h.2 i
    simp only [List.getD, List.getElem?_append_left hi, List.getElem?_append_left hi'] at this ⊢
    exact this
  · subst hi
    have e1 : (xs ++ [a])[xs.length]? = some a := by simp
    have e2 : (ys ++ [b])[xs.length]? = some b := by rw [hl]; simp
    simp only [List.getD, e1, e2]
    exact k
  · have e1 : (xs ++ [a])[i]? = none := List.getElem?_eq_none (by simp; omega)
    have e2 : (ys ++ [b])[i]? = none := List.getElem?_eq_none (by simp; omega)
    simp only [List.getD, e1, e2]
    exact trivial
/-! ### terms in another turn -/
theorem dues_len (ds : List (Option Int)) (L : List Lt) : (dues ds L).length = L.length := by unfold dues; rw [dueL_len]; simp
end Q
set_option Elab.async false
set_option linter.all false
set_option maxRecDepth 100000
set_option maxHeartbeats 4000000
namespace Q
open PySem L2 Z
theorem is_whole_int (F : Fenv) (i a b : Int) (h : AH) : runB 3 (c_is_whole F) [.int i, .int a, .int b] h = .ok (.bl (decide (a ≤ i ∧ i ≤ b))) h := by
  simp [zE, zS, zO, zI, zL, zP, zB, zK, c_is_whole]
  by_cases h1 : a ≤ i <;> simp [h1]
section
variable (F : Fenv) (hW : ∀ (i a b : Int) (h : AH), F n_is_whole [.int i, .int a, .int b] h = .ok (.bl (decide (a ≤ i ∧ i ≤ b))) h)
include hW
theorem is_day_int (i : Int) (h : AH) : runB 1 (c_is_day F) [.int i] h = .ok (.bl (decide (0 ≤ i ∧ i ≤ 60))) h := by
  simp [zE, zS, zO, zI, zL, zP, zB, c_is_day, hW]
theorem is_happening_int (i : Int) (h : AH) : runB 1 (c_is_happening F) [.int i] h = .ok (.bl (decide (0 ≤ i ∧ i ≤ 5))) h := by
  simp [zE, zS, zO, zI, zL, zP, zB, c_is_happening, hW]
theorem is_person_int (i : Int) (h : AH) : runB 1 (c_is_person F) [.int i] h = .ok (.bl (decide (0 ≤ i ∧ i ≤ 9))) h := by
  simp [zE, zS, zO, zI, zL, zP, zB, c_is_person, hW]
theorem is_term_ok (hD : ∀ (i : Int) (h : AH), F n_is_day [.int i] h = .ok (.bl (decide (0 ≤ i ∧ i ≤ 60))) h) (hH : ∀ (i : Int) (h : AH), F n_is_happening [.int i] h = .ok (.bl (decide (0 ≤ i ∧ i ≤ 5))) h)
    (t : Tm) (n : Nat) (h : AH) (ht : okT n t) : runB 2 (c_is_term F) [t.w, .int n] h = .ok (.bl true) h := by
  have i2 : ∀ z : W, oIn true (.int 2) (.tup [.int 2, .int 3]) h = .ok (.bl false) h := fun _ => by simp [oIn, listOrTup, flatW, inW, eqWW]
  have i3 : ∀ z : W, oIn true (.int 3) (.tup [.int 2, .int 3]) h = .ok (.bl false) h := fun _ => by simp [oIn, listOrTup, flatW, inW, eqWW]
  cases t with
  | day d => simp [zE, zS, zO, zI, zL, zP, zB, zK, zT, c_is_term, Tm.w, at2, bLen, i2 .non, hD, ht.1, ht.2]
  | when e d =>
    obtain ⟨h0, h1, h2, h3⟩ := ht
    have h1' : e ≤ 5 := by omega
    simp [zE, zS, zO, zI, zL, zP, zB, zK, zT, c_is_term, Tm.w, at3, bLen, i3 .non, hW, hH, h0, h1', h2, h3]
  | after l d =>
    obtain ⟨h0, h1, h2, h3⟩ := ht
    have h1' : l ≤ (n : Int) - 1 := by omega
    simp [zE, zS, zO, zI, zL, zP, zB, zK, zT, c_is_term, Tm.w, at3, bLen, i3 .non, hW, hH, h0, h1', h2, h3]
end
theorem are_heirs_ok (F : Fenv) (hP : ∀ (i : Int) (h : AH), F n_is_person [.int i] h = .ok (.bl (decide (0 ≤ i ∧ i ≤ 9))) h) {h : AH} {a : Nat} {hs : List Int} (e : h[a]? = some (.lst (hs.map .int))) (h1 : 1 ≤ hs.length) (h2 : hs.length ≤ 3) (hn : hs.Nodup) (hr : ∀ x ∈ hs, 0 ≤ x ∧ x < 10) :
    runB 2 (c_are_heirs F) [.ref a] h = .ok (.bl true) h := by
  have el := listAt_of e
  have b1 : (1 : Int) ≤ hs.length := by omega
  have b2 : (hs.length : Int) ≤ 3 := by omega
  have lp : loopG (Src.seq a (hs.map W.int)).stay (gNm 1) (e_are_heirs_1 F) [some (.ref a), none] (hs.map W.int) h = .ok (.bl true) h := by
    rw [loopG_all (p := fun _ => true) (decide_eq_true el)]
    · simp
    · intro x hx
      obtain ⟨i, hi, rfl⟩ := List.mem_map.mp hx
      have r1 := (hr i hi).1
      have r2 : i ≤ 9 := by have := (hr i hi).2; omega
      exact ⟨[some (.ref a), some (.int i)], rfl, by simp [zE, zS, zL, e_are_heirs_1, hP, r1, r2]⟩
  have ls : xLenSet (xVar 0) [some (.ref a), none] h = .ok (.int (nD hs).length) h := lenSet_ref (by simp [zE, zL]) el (by omega)
  rw [nD_nodup hn] at ls
  simp [zE, zS, zO, zI, zL, zP, zB, zK, zG, c_are_heirs, isi_ref el, bLen, el, b1, b2, iSeqK_ref el, Src.items, lp, ls]
theorem are_terms_ok (F : Fenv) {n : Nat} (hT : ∀ (t : Tm) (h : AH), okT n t → F n_is_term [t.w, .int n] h = .ok (.bl true) h) {h : AH} {b : Nat} {ts : List Tm} (e : h[b]? = some (.lst (ts.map Tm.w))) (h1 : 1 ≤ ts.length) (h2 : ts.length ≤ 4) (hr : ∀ t ∈ ts, okT n t) :
    runB 3 (c_are_terms F) [.ref b, .int n] h = .ok (.bl true) h := by
  have el := listAt_of e
  have b1 : (1 : Int) ≤ ts.length := by omega
  have b2 : (ts.length : Int) ≤ 4 := by omega
  have lp : loopG (Src.seq b (ts.map Tm.w)).stay (gNm 2) (e_are_terms_1 F) [some (.ref b), some (.int n), none] (ts.map Tm.w) h = .ok (.bl true) h := by
    rw [loopG_all (p := fun _ => true) (decide_eq_true el)]
    · simp
    · intro x hx
      obtain ⟨t, ht, rfl⟩ := List.mem_map.mp hx
      exact ⟨[some (.ref b), some (.int n), some t.w], rfl, by simp [zE, zS, zL, e_are_terms_1, hT t h (hr t ht)]⟩
  simp [zE, zS, zO, zI, zL, zP, zB, zK, zG, c_are_terms, isi_ref el, bLen, el, b1, b2, iSeqK_ref el, Src.items, lp]
theorem is_letter_ok (F : Fenv) {n : Nat} {h : AH} {a b : Nat} (hH : F n_are_heirs [.ref a] h = .ok (.bl true) h) (hT : F n_are_terms [.ref b, .int n] h = .ok (.bl true) h) :
    runB 4 (c_is_letter F) [.tup [.ref a, .ref b], .int n] h = .ok (.bl true) h := by
  simp [zE, zS, zO, zI, zL, zP, zB, zK, c_is_letter, bLen, hH, hT]
theorem are_letters_ok (F : Fenv) {h : AH} {p : Nat} {ws : List W} {L : List Lt} (hp : listAt h p = some ws) (R : RepI h ws L) (ok : okFrom 0 L) (h1 : 1 ≤ L.length) (h2 : L.length ≤ 40)
    (hL : ∀ (n a b : Nat) (hs : List Int) (ts : List Tm), h[a]? = some (.lst (hs.map .int)) → h[b]? = some (.lst (ts.map Tm.w)) → okL n (hs, ts) → F n_is_letter [.tup [.ref a, .ref b], .int n] h = .ok (.bl true) h) :
    runB 3 (c_are_letters F) [.ref p] h = .ok (.bl true) h := by
  have hl := R.len
  have b1 : (1 : Int) ≤ ws.length := by omega
  have b2 : (ws.length : Int) ≤ 40 := by omega
  have lp : loopG (Src.enum p ws).stay (gTp [gNm 1, gNm 2]) (e_are_letters_1 F) [some (.ref p), none, none] (numW ws) h = .ok (.bl true) h := by
    rw [loopG_all (p := fun _ => true) (decide_eq_true hp)]
    · simp
    · intro x hx
      obtain ⟨i, hi⟩ := List.mem_iff_getElem?.mp hx
      obtain ⟨w, hw, rfl⟩ := numW_at hi
      obtain ⟨a, b, hs, ts, rfl, hl', r1, r2⟩ := R.get hw
      have okl := okFrom_get ok hl'
      rw [Nat.zero_add] at okl
      refine ⟨[some (.ref p), some (.int i), some (.tup [.ref a, .ref b])], rfl, ?_⟩
      simp [zE, zS, zL, e_are_letters_1, hL i a b hs ts r1 r2 okl]
  simp [zE, zS, zO, zI, zL, zP, zB, zK, zG, c_are_letters, isi_ref hp, bLen, hp, b1, b2, enK_ref hp, Src.items, lp]
end Q
set_option Elab.async false
set_option linter.all false
set_option maxRecDepth 100000
set_option maxHeartbeats 4000000
namespace Q
open PySem L2 Z
theorem term_day_ok (F : Fenv) {h : AH} {q f : Nat} {ds fo : List (Option Int)} {n : Nat} (hn : fo.length = n) (hd : ds.length = 6) (hf : listAt h f = some (fo.map oW)) (hq : listAt h q = some (ds.map oW)) (t : Tm) (ht : okT n t) :
    runB 4 (c_term_day F) [t.w, .ref q, .ref f] h = .ok (oW (tmDay ds fo t)) h := by
  cases t with
  | day d => simp [zE, zS, zO, zI, zL, zP, zB, zT, c_term_day, Tm.w, at2, tmDay, oW]
  | when e d =>
    obtain ⟨h0, h1, h2, h3⟩ := ht
    have e1 := atO (xs := ds) h0 (by omega)
    have e2 : tmDay ds fo (.when e d) = addO (ds.getD e.toNat none) d := rfl
    rw [e2]
    generalize ds.getD e.toNat none = o at e1 ⊢
    cases o <;> simp [zE, zS, zO, zI, zL, zP, zB, zT, c_term_day, Tm.w, oW, at3, oIx_ref hq, e1, addO]
  | after l d =>
    obtain ⟨h0, h1, h2, h3⟩ := ht
    have e1 := atO (xs := fo) h0 (by omega)
    have e2 : tmDay ds fo (.after l d) = addO (fo.getD l.toNat none) d := rfl
    rw [e2]
    generalize fo.getD l.toNat none = o at e1 ⊢
    cases o <;> simp [zE, zS, zO, zI, zL, zP, zB, zT, c_term_day, Tm.w, oW, at3, oIx_ref hf, e1, addO]
theorem later_none (o : Option Int) : later none o = none := by cases o <;> rfl
theorem ltDay_none (ds fo : List (Option Int)) : ∀ ts : List Tm, ltDay ds fo ts none = none
  | [] => rfl
  | t :: ts => by
    show ltDay ds fo ts (later none (tmDay ds fo t)) = none
    rw [later_none]; exact ltDay_none ds fo ts
theorem letter_day_loop (F : Fenv) {h : AH} {q f : Nat} {ds fo : List (Option Int)} {n : Nat} {stay : AH → Bool} (hst : stay h = true) {w0 : W}
    (hT : ∀ t : Tm, okT n t → F n_term_day [t.w, .ref q, .ref f] h = .ok (oW (tmDay ds fo t)) h) :
    ∀ (ts : List Tm) (late : Int) (x y : Option W), (∀ t ∈ ts, okT n t) →
      (∃ d x' y', ltDay ds fo ts (some late) = some d ∧ loopS stay (gNm 4) (l_letter_day_1 F) (ts.map Tm.w) [some w0, some (.ref q), some (.ref f), some (.int late), x, y] h = .ok (.nx [some w0, some (.ref q), some (.ref f), some (.int d), x', y']) h) ∨
      (ltDay ds fo ts (some late) = none ∧ loopS stay (gNm 4) (l_letter_day_1 F) (ts.map Tm.w) [some w0, some (.ref q), some (.ref f), some (.int late), x, y] h = .ok (.rt .non) h)
  | [], late, x, y, _ => .inl ⟨late, x, y, rfl, by simp [loopS, hst]⟩
  | t :: ts, late, x, y, ok => by
    have e := hT t (ok t List.mem_cons_self)
    have ok' : ∀ t ∈ ts, okT n t := fun u hu => ok u (List.mem_cons_of_mem _ hu)
    cases hd : tmDay ds fo t with
    | none =>
      refine .inr ⟨?_, ?_⟩
      · show ltDay ds fo ts (later (some late) (tmDay ds fo t)) = none
        rw [hd]; exact ltDay_none ds fo ts
      · rw [hd] at e
        rw [List.map_cons]
        unfold loopS
        simp [hst, zE, zS, zO, zI, zL, zP, zB, l_letter_day_1, e, oW]
    | some d =>
      rw [hd] at e
      have hs : ltDay ds fo (t :: ts) (some late) = ltDay ds fo ts (some (if d > late then d else late)) := by
        show ltDay ds fo ts (later (some late) (tmDay ds fo t)) = _
        rw [hd]; rfl
      have st : l_letter_day_1 F [some w0, some (.ref q), some (.ref f), some (.int late), some t.w, y] h = .ok (.nx [some w0, some (.ref q), some (.ref f), some (.int (if d > late then d else late)), some t.w, some (.int d)]) h := by
        simp [zE, zS, zO, zI, zL, zP, zB, l_letter_day_1, e, oW, bMax]
      rw [hs, List.map_cons]
      unfold loopS
      simp only [hst, if_true, zS, zL, st, Res.bind_ok]
      exact letter_day_loop F hst hT ts _ _ _ ok'
theorem letter_day_ok (F : Fenv) {h : AH} {q f a b : Nat} {ds fo : List (Option Int)} {n : Nat} {ts : List Tm} (hb : h[b]? = some (.lst (ts.map Tm.w))) (ok : ∀ t ∈ ts, okT n t)
    (hT : ∀ t : Tm, okT n t → F n_term_day [t.w, .ref q, .ref f] h = .ok (oW (tmDay ds fo t)) h) :
    runB 6 (c_letter_day F) [.tup [.ref a, .ref b], .ref q, .ref f] h = .ok (oW (ltDay ds fo ts (some 0))) h := by
  have el := listAt_of hb
  rcases letter_day_loop F (stay := (Src.seq b (ts.map Tm.w)).stay) (decide_eq_true el) (w0 := .tup [.ref a, .ref b]) hT ts 0 none none ok with ⟨d, x', y', e1, e2⟩ | ⟨e1, e2⟩
  · rw [e1]
    simp [zE, zS, zO, zI, zL, zP, zB, c_letter_day, at2, iSeqK_ref el, Src.items, e2, oW]
  · rw [e1]
    simp [zE, zS, zO, zI, zL, zP, zB, c_letter_day, at2, iSeqK_ref el, Src.items, e2, oW]
theorem letter_days_ok (F : Fenv) {h : AH} {p q : Nat} {ws : List W} {L : List Lt} {ds : List (Option Int)} (hp : listAt h p = some ws) (R : RepI h ws L) (hL : L.length ≤ 100)
    (hT : ∀ (i a b : Nat) (hs : List Int) (ts : List Tm) (fo : List (Option Int)), L[i]? = some (hs, ts) → h[b]? = some (.lst (ts.map Tm.w)) → fo.length = i → F n_letter_day [.tup [.ref a, .ref b], .ref q, .ref h.length] (h ++ [.lst (fo.map oW)]) = .ok (oW (ltDay ds fo ts (some 0))) (h ++ [.lst (fo.map oW)])) :
    runB 4 (c_letter_days F) [.ref p, .ref q] h = .ok (.ref h.length) (h ++ [.lst ((dues ds L).map oW)]) := by
  have hlen := R.len
  obtain ⟨σ1, g1, e1, a1, rfl, rfl⟩ := loop_inv (stay := (Src.seq p ws).stay) (g := gNm 3) (body := l_letter_days_1 F) (xs := ws)
    (σ := [some (.ref p), some (.ref q), some (.ref h.length), none]) (h := h ++ [.lst []])
    (fun i σ g => ∃ a, σ = [some (.ref p), some (.ref q), some (.ref h.length), a] ∧ g = h ++ [.lst ((dueL ds (L.take i) []).map oW)])
    ⟨none, rfl, by simp [dueL]⟩ (fun i σ g _ iv => by
      obtain ⟨_, _, rfl⟩ := iv
      exact decide_eq_true (listAt_app hp)) (by
      rintro i x σ g hx ⟨a, rfl, rfl⟩
      obtain ⟨ha, hb, hs, ts, rfl, hl, r1, r2⟩ := R.get hx
      have hi : i < L.length := get_lt hl
      generalize hfo : dueL ds (L.take i) [] = fo
      have fl : fo.length = i := by subst hfo; rw [dueL_len]; simp; omega
      have k1 : (h ++ [AO.lst (fo.map oW)])[h.length]? = some (.lst (fo.map oW)) := get_new
      have e := hT i ha hb hs ts fo hl r2 fl
      have k3 : fo.length < 16777216 := by omega
      refine ⟨_, rfl, _, _, ?_, some (.tup [.ref ha, .ref hb]), rfl, rfl⟩
      rw [take_succ' hl, dueL_snoc, hfo]
      simp [zE, zS, zO, zI, zL, zP, zB, l_letter_days_1, e, isLst, listAt_of k1, oAppend, k1, k3])
  rw [hlen, List.take_length] at e1
  simp [zE, zS, zO, zI, zL, zP, zB, c_letter_days, iSeqK_ref (listAt_app (g := [AO.lst []]) hp), Src.items, e1, dues]
theorem check_letters_ok (F : Fenv) {h : AH} {p : Nat} (e : F n_are_letters [.ref p] h = .ok (.bl true) h) : runB 1 (c_check_letters F) [.ref p] h = .ok .non h := by
  simp [zE, zS, zO, zI, zL, zP, zB, c_check_letters, e]
/-- letters are letters, so many calls deep -/
theorem w_fenv (j : Nat) (i a b : Int) (h : AH) : fenv (j + 1) n_is_whole [.int i, .int a, .int b] h = .ok (.bl (decide (a ≤ i ∧ i ≤ b))) h := is_whole_int (fenv j) i a b h
theorem d_fenv (j : Nat) (i : Int) (h : AH) : fenv (j + 2) n_is_day [.int i] h = .ok (.bl (decide (0 ≤ i ∧ i ≤ 60))) h := is_day_int (fenv (j + 1)) (w_fenv j) i h
theorem letters_fenv (k : Nat) {h : AH} {p : Nat} {ws : List W} {L : List Lt} (hp : listAt h p = some ws) (R : RepI h ws L) (ok : okFrom 0 L) (h1 : 1 ≤ L.length) (h2 : L.length ≤ 40) : fenv (k + 7) n_check_letters [.ref p] h = .ok .non h := by
  have hh : ∀ j (i : Int) (h : AH), fenv (j + 2) n_is_happening [.int i] h = .ok (.bl (decide (0 ≤ i ∧ i ≤ 5))) h := fun j => is_happening_int (fenv (j + 1)) (w_fenv j)
  have pp : ∀ j (i : Int) (h : AH), fenv (j + 2) n_is_person [.int i] h = .ok (.bl (decide (0 ≤ i ∧ i ≤ 9))) h := fun j => is_person_int (fenv (j + 1)) (w_fenv j)
  have t : ∀ j (n : Nat) (t : Tm) (h : AH), okT n t → fenv (j + 3) n_is_term [t.w, .int n] h = .ok (.bl true) h := fun j n t h ht => is_term_ok (fenv (j + 2)) (w_fenv (j + 1)) (d_fenv j) (hh j) t n h ht
  have lt : ∀ j (h : AH) (n a b : Nat) (hs : List Int) (ts : List Tm), h[a]? = some (.lst (hs.map .int)) → h[b]? = some (.lst (ts.map Tm.w)) → okL n (hs, ts) → fenv (j + 5) n_is_letter [.tup [.ref a, .ref b], .int n] h = .ok (.bl true) h := fun j h n a b hs ts ea eb okl =>
    is_letter_ok (fenv (j + 4)) (are_heirs_ok (fenv (j + 3)) (pp (j + 1)) ea okl.1.1 okl.1.2.1 okl.1.2.2.1 okl.1.2.2.2) (are_terms_ok (fenv (j + 3)) (t j n) eb okl.2.1 okl.2.2.1 okl.2.2.2)
  exact check_letters_ok (fenv (k + 6)) (are_letters_ok (fenv (k + 5)) hp R ok h1 h2 (lt k h))
theorem ldays_fenv (k : Nat) {h : AH} {p q : Nat} {ws : List W} {L : List Lt} {ds : List (Option Int)} (hp : listAt h p = some ws) (R : RepI h ws L) (hq : listAt h q = some (ds.map oW)) (hd : ds.length = 6) (ok : okFrom 0 L) (hL : L.length ≤ 40) :
    fenv (k + 3) n_letter_days [.ref p, .ref q] h = .ok (.ref h.length) (h ++ [.lst ((dues ds L).map oW)]) := letter_days_ok (fenv (k + 2)) hp R (by omega) fun i a b hs ts fo hl hb hf => by
    have okl := okFrom_get ok hl
    rw [Nat.zero_add] at okl
    exact letter_day_ok (fenv (k + 1)) (n := i) (get_app hb) okl.2.2.2 fun t ht => term_day_ok (fenv k) hf hd (listAt_of get_new) (listAt_app hq) t ht
end Q
set_option Elab.async false
set_option linter.all false
set_option maxRecDepth 100000
set_option maxHeartbeats 4000000
namespace Q
open PySem L2 Z
theorem are_days_ok (F : Fenv) (hD : ∀ (i : Int) (h : AH), F n_is_day [.int i] h = .ok (.bl (decide (0 ≤ i ∧ i ≤ 60))) h) {h : AH} {q : Nat} {ds : List (Option Int)} (hq : listAt h q = some (ds.map oW)) (ok : okDs ds) :
    runB 3 (c_are_days F) [.ref q, .int 6] h = .ok (.bl true) h := by
  have hl : (ds.length : Int) = 6 := by have := ok.1; omega
  have lp : loopG (Src.seq q (ds.map oW)).stay (gNm 2) (e_are_days_1 F) [some (.ref q), some (.int 6), none] (ds.map oW) h = .ok (.bl true) h := by
    rw [loopG_all (p := fun _ => true) (decide_eq_true hq)]
    · simp
    · intro x hx
      obtain ⟨o, ho, rfl⟩ := List.mem_map.mp hx
      refine ⟨[some (.ref q), some (.int 6), some (oW o)], rfl, ?_⟩
      cases o with
      | none => simp [zE, zS, zL, e_are_days_1, oW]
      | some d => simp [zE, zS, zL, e_are_days_1, oW, hD, ok.2 d ho]
  simp [zE, zS, zO, zI, zL, zP, zB, zK, zG, c_are_days, isi_ref hq, bLen, hq, hl, iSeqK_ref hq, Src.items, lp]
theorem check_days_ok (F : Fenv) {h : AH} {q : Nat} (e : F n_are_days [.ref q, .int 6] h = .ok (.bl true) h) : runB 1 (c_check_days F) [.ref q] h = .ok .non h := by
  simp [zE, zS, zO, zI, zL, zP, zB, c_check_days, e]
end Q
set_option Elab.async false
set_option linter.all false
set_option maxRecDepth 100000
set_option maxHeartbeats 4000000
namespace Q
open PySem L2 Z
/-- what the program's due_days tells, so many calls deep -/
theorem days_fenv (k : Nat) {h : AH} {q : Nat} {ds : List (Option Int)} (hq : listAt h q = some (ds.map oW)) (okd : okDs ds) : fenv (k + 4) n_check_days [.ref q] h = .ok .non h :=
  check_days_ok (fenv (k + 3)) (are_days_ok (fenv (k + 2)) (d_fenv k) hq okd)
end Q
set_option Elab.async false
set_option linter.all false
set_option maxRecDepth 100000
set_option maxHeartbeats 4000000
namespace Q
open PySem L2 Z
/-- the letters of a turn -/
def tLs (ns : List Int) (b mo : Int) : List Lt := lLs (lNo ns b) (lKind ns b) (lMany ns b mo).toNat
theorem tLs_len (ns : List Int) (b mo : Int) : (tLs ns b mo).length = (lMany ns b mo).toNat := lLs_len _ _ _
theorem many_le {ns : List Int} {b mo : Int} (m0 : 0 < mo) : 1 ≤ (lMany ns b mo).toNat ∧ (lMany ns b mo).toNat ≤ mo.toNat := by
  have q0 : 0 ≤ lNum (lWhole ns b) (b + 1) 3 / 9 % mo := Int.emod_nonneg _ (by omega)
  have q1 : lNum (lWhole ns b) (b + 1) 3 / 9 % mo < mo := Int.emod_lt_of_pos _ m0
  unfold lMany
  omega
theorem letters_blk {ns : List Int} {b mo : Int} {h g : AH} : Blk (h ++ ([.lst [], .lst ((lCells ns).map .int), .lst (lFound (h.length + 3) (lMany ns b mo).toNat)] ++ lObjs (lNo ns b) (lKind ns b) (lMany ns b mo).toNat) ++ g) (h.length + 2) (tLs ns b mo) := by
  have := blk_new (h := h ++ [.lst [], .lst ((lCells ns).map .int)]) (g := g) (b := h.length + 2) (L := tLs ns b mo) (by simp)
  rw [tLs_len] at this
  rw [lObjs_eq, show lLs (lNo ns b) (lKind ns b) (lMany ns b mo).toNat = tLs ns b mo from rfl]
  simpa using this
/-- the start of a turn -/
theorem seq_step {f g : XS} {σ σ' : SW} {h h' : AH} {r : Res Fl} (e : f σ h = .ok (.nx σ') h') (k : g σ' h' = r) : sSeq f g σ h = r := by rw [zS.2.1, e]; exact k
end Q
set_option Elab.async false
set_option linter.all false
set_option maxRecDepth 100000
set_option maxHeartbeats 4000000
namespace Q
open PySem L2 Z
theorem law_copied (F : Fenv) {h : AH} {p : Nat} {ws : List W} {L : List Lt} (hp : listAt h p = some ws) (R : RepI h ws L) (hL : L.length ≤ 100) :
    runB 3 (c__law_copied F) [.ref p] h = .ok (.ref h.length) (h ++ ([.lst (lFound (h.length + 1) L.length)] ++ objs L)) := by
  have hlen := R.len
  obtain ⟨g1, e1, rfl⟩ := comp_inv (stay := (Src.seq p ws).stay) (g := gTp [gNm 1, gNm 2]) (t := yYes) (el := e__law_copied_1 F) (xs := ws) (n := h.length)
    (σ := [some (.ref p), none, none]) (h := h ++ [.lst []])
    (fun i g => g = h ++ ([.lst (lFound (h.length + 1) i)] ++ objs (L.take i)))
    (by simp [lFound, objs]) (fun i g _ iv => by
      subst iv
      exact decide_eq_true (listAt_app hp)) (by
      rintro i x g hx rfl
      obtain ⟨ha, hb, hs, ts, rfl, hl, r1, r2⟩ := R.get hx
      have hi : i < L.length := get_lt hl
      generalize hg : h ++ ([AO.lst (lFound (h.length + 1) i)] ++ objs (L.take i)) = g
      have gl : g.length = h.length + 1 + 2 * i := by subst hg; simp [objs_len]; omega
      have k1 : listAt g ha = some (hs.map .int) := by subst hg; exact listAt_of (get_app r1)
      have k2 : listAt (g ++ [AO.lst (hs.map .int)]) hb = some (ts.map Tm.w) := by subst hg; exact listAt_app (listAt_of (get_app r2))
      have k3 : (g ++ [AO.lst (hs.map .int), AO.lst (ts.map Tm.w)])[h.length]? = some (.lst (lFound (h.length + 1) i)) := by subst hg; simp [List.getElem?_append_right]
      have k4 : (lFound (h.length + 1) i).length < sizeLine := by rw [lFound_len, sizeLine_eq]; omega
      refine ⟨[some (.ref p), some (.ref ha), some (.ref hb)], rfl, true, g, rfl, (fun z => nomatch z), fun _ => ⟨.tup [.ref g.length, .ref (g.length + 1)], g ++ [.lst (hs.map .int), .lst (ts.map Tm.w)], _, ?_, k3, k4, ?_⟩⟩
      · simp [zE, zS, zO, zI, zL, zP, zB, e__law_copied_1, bList, k1, k2]
      · rw [take_succ' hl, objs_snoc, gl, lFound_succ]
        subst hg
        rw [show h ++ ([AO.lst (lFound (h.length + 1) i)] ++ objs (L.take i)) ++ [AO.lst (hs.map W.int), AO.lst (ts.map Tm.w)] = h ++ AO.lst (lFound (h.length + 1) i) :: (objs (L.take i) ++ [AO.lst (hs.map W.int), AO.lst (ts.map Tm.w)]) by simp, set_at rfl]
        simp)
  rw [hlen, List.take_length] at e1
  simp [zE, zS, zO, zI, zL, zP, zB, c__law_copied, iSeqK_ref hp, Src.items, wpW, e1]
end Q
set_option Elab.async false
set_option linter.all false
set_option maxRecDepth 100000
set_option maxHeartbeats 4000000
namespace Q
open PySem L2 Z
/-! ### what stays: all ahead of lo, and from hi on -/
structure Fr (lo hi : Nat) (h h' : AH) : Prop where
  len : h.length ≤ h'.length
  get : ∀ j : Nat, j < h.length → (j < lo ∨ hi ≤ j) → h'[j]? = h[j]?
theorem Fr.refl {lo hi : Nat} {h : AH} : Fr lo hi h h := ⟨Nat.le_refl _, fun _ _ _ => rfl⟩
theorem Fr.trans {lo hi : Nat} {h h1 h2 : AH} (a : Fr lo hi h h1) (b : Fr lo hi h1 h2) : Fr lo hi h h2 :=
  ⟨Nat.le_trans a.len b.len, fun j hj k => by rw [b.get j (Nat.lt_of_lt_of_le hj a.len) k, a.get j hj k]⟩
theorem Fr.app {lo hi : Nat} {h h1 g : AH} (a : Fr lo hi h h1) : Fr lo hi h (h1 ++ g) :=
  ⟨by rw [List.length_append]; have := a.len; omega, fun j hj k => by rw [List.getElem?_append_left (Nat.lt_of_lt_of_le hj a.len), a.get j hj k]⟩
theorem fr_app {lo hi : Nat} {h g : AH} : Fr lo hi h (h ++ g) := Fr.refl.app
theorem Fr.set {lo hi : Nat} {h h1 : AH} (a : Fr lo hi h h1) {m : Nat} {o : AO} (hm : h.length ≤ m ∨ (lo ≤ m ∧ m < hi)) : Fr lo hi h (h1.set m o) :=
  ⟨by rw [List.length_set]; exact a.len, fun j hj k => by rw [List.getElem?_set_ne (by omega), a.get j hj k]⟩
theorem Fr.at {lo hi : Nat} {h h1 : AH} (a : Fr lo hi h h1) {j : Nat} {o : AO} (e : h[j]? = some o) (k : j < lo ∨ hi ≤ j) : h1[j]? = some o := by
  rw [a.get j (get_lt e) k]; exact e
theorem Fr.lst {lo hi : Nat} {h h1 : AH} (a : Fr lo hi h h1) {j : Nat} {xs : List W} (e : listAt h j = some xs) (k : j < lo ∨ hi ≤ j) : listAt h1 j = some xs := by
  unfold listAt at e ⊢
  have hj : j < h.length := by
    rcases Nat.lt_or_ge j h.length with q | q
    · exact q
    · rw [List.getElem?_eq_none q] at e; cases e
  rw [a.get j hj k]; exact e
/-- the lists within the letters -/
def inn (ws : List W) : List Nat := ws.flatMap fun w => match w with
  | .tup [.ref a, .ref b] => [a, b]
  | _ => []
theorem RepI.keep {h h' : AH} {ws : List W} {L : List Lt} (k : ∀ a ∈ inn ws, h'[a]? = h[a]?) (r : RepI h ws L) : RepI h' ws L := by
  induction r with
  | nil => exact .nil
  | @cons a b hs ts ws L ha hb r ih =>
    refine .cons ?_ ?_ (ih fun x hx => k x ?_)
    · rw [k a (by simp [inn])]; exact ha
    · rw [k b (by simp [inn])]; exact hb
    · simp only [inn, List.flatMap_cons, List.mem_append] at hx ⊢; exact .inr hx
theorem RepI.lt {h : AH} : ∀ {ws : List W} {L : List Lt}, RepI h ws L → ∀ a ∈ inn ws, a < h.length
  | _, _, .nil, a, k => by simp [inn] at k
  | _, _, .cons ha hb r, x, k => by
    simp only [inn, List.flatMap_cons, List.mem_append, List.mem_cons, List.not_mem_nil, or_false] at k
    rcases k with (rfl | rfl) | k
    · exact get_lt ha
    · exact get_lt hb
    · exact RepI.lt r x k
theorem RepI.fr {lo hi : Nat} {h h' : AH} {ws : List W} {L : List Lt} (r : RepI h ws L) (f : Fr lo hi h h') (k : ∀ a ∈ inn ws, a < lo ∨ hi ≤ a) : RepI h' ws L :=
  r.keep fun a ha => f.get a (r.lt a ha) (k a ha)
theorem Blk.fr {lo hi b : Nat} {h h' : AH} {L : List Lt} (B : Blk h b L) (f : Fr lo hi h h') (k : b + 2 * L.length < lo ∨ hi ≤ b) : Blk h' b L :=
  ⟨f.at B.top (by omega), fun j l e => f.at (B.hs j l e) (by have := get_lt e; omega), fun j l e => f.at (B.ts j l e) (by have := get_lt e; omega)⟩
def okG (gone : List (Option Int)) : Prop := gone.length = 10 ∧ ∀ d, some d ∈ gone → 0 ≤ d ∧ d ≤ 60
theorem gk {h g : AH} (i : Nat) : (h ++ g)[h.length + i]? = g[i]? := by rw [List.getElem?_append_right (by omega)]; congr 1; omega
theorem sk {h g : AH} (i : Nat) (o : AO) : (h ++ g).set (h.length + i) o = h ++ g.set i o := by rw [List.set_append_right _ _ (by omega)]; congr 2; omega
theorem eq_lists {h : AH} {a b : Nat} {ws : List W} {ds : List PyData} (ea : listAt h a = some ws) (eb : listAt h b = some ws) (k : optAll (dat h 8) ws = some ds) (c : ∀ d ∈ ds, d.canLay0 = true) (B : Bool) : oEqD B (.ref a) (.ref b) h = .ok (.bl (!B)) h :=
  eq_same (dat_list ea k) (dat_list eb k) (can_list c) B
end Q
set_option Elab.async false
set_option linter.all false
set_option maxRecDepth 100000
set_option maxHeartbeats 4000000
namespace Q
open PySem L2 Z
def numF (i : Nat) (ws : List W) : List W := (ws.zipIdx i).map fun p => W.tup [.int (p.2 : Nat), p.1]
theorem numF_cons (i : Nat) (w : W) (ws : List W) : numF i (w :: ws) = .tup [.int (i : Nat), w] :: numF (i + 1) ws := by simp [numF]
/-! ### the letters that have days, in order -/
def prs : Nat → List (Option Int) → List (List Int)
  | _, [] => []
  | i, none :: xs => prs (i + 1) xs
  | i, some x :: xs => [x, (i : Int)] :: prs (i + 1) xs
theorem prs_len : ∀ (xs : List (Option Int)) (i : Nat), (prs i xs).length ≤ xs.length
  | [], _ => Nat.le_refl _
  | none :: xs, i => Nat.le_succ_of_le (prs_len xs (i + 1))
  | some x :: xs, i => Nat.succ_le_succ (prs_len xs (i + 1))
theorem prs_mem : ∀ {xs : List (Option Int)} {i : Nat} {k : List Int}, k ∈ prs i xs → ∃ (j : Nat) (x : Int), xs[j]? = some (some x) ∧ k = [x, ((i + j : Nat) : Int)]
  | [], _, _, h => nomatch h
  | none :: xs, i, k, h => by
    obtain ⟨j, x, e, rfl⟩ := prs_mem (xs := xs) (i := i + 1) h
    exact ⟨j + 1, x, by simpa using e, by rw [show i + 1 + j = i + (j + 1) by omega]⟩
  | some y :: xs, i, k, h => by
    rcases List.mem_cons.mp h with rfl | h
    · exact ⟨0, y, rfl, rfl⟩
    · obtain ⟨j, x, e, rfl⟩ := prs_mem (xs := xs) (i := i + 1) h
      exact ⟨j + 1, x, by simpa using e, by rw [show i + 1 + j = i + (j + 1) by omega]⟩
theorem srt_mem {ks : List (List Int)} {k : List Int} : k ∈ srtI ks ↔ k ∈ ks := (List.mergeSort_perm ks leI).mem_iff
theorem srt_len (ks : List (List Int)) : (srtI ks).length = ks.length := (List.mergeSort_perm ks leI).length_eq
theorem tup_opt : ∀ {ks : List (List Int)}, (∀ k ∈ ks, k ≠ []) → optAll tupI (ks.map tupW) = some ks
  | [], _ => rfl
  | k :: ks, h => by
    have ih := tup_opt (ks := ks) fun k' hk => h k' (List.mem_cons_of_mem _ hk)
    have h1 := h k List.mem_cons_self
    have : tupI (tupW k) = some k := by
      unfold tupI tupW
      simp only
      rw [sum_ints]
      cases k with
      | nil => exact absurd rfl h1
      | cons n ns => rfl
    rw [List.map_cons]
    unfold optAll
    rw [this, ih]
theorem prs_ne {i : Nat} {xs : List (Option Int)} : ∀ k ∈ prs i xs, k ≠ [] := fun k hk => by
  obtain ⟨j, x, _, rfl⟩ := prs_mem hk
  simp
theorem srtK_prs {h : AH} {i : Nat} {xs : List (Option Int)} (hl : xs.length < 64) : srtK ((prs i xs).map tupW) h = .ok (.ref h.length) (h ++ [.lst ((srtI (prs i xs)).map tupW)]) := by
  unfold srtK
  rw [tup_opt prs_ne]
  have := prs_len xs i
  simp only
  rw [if_pos (by omega)]
theorem numW_F (xs : List W) : numW xs = numF 0 xs := rfl
theorem order_loop (F : Fenv) {h : AH} {stay : AH → Bool} (hst : stay h = true) (v0 : Option W) : ∀ (xs : List (Option Int)) (i : Nat) (acc : List W), loopK stay (gTp [gNm 1, gNm 2]) (bT (xNotN (xVar 2))) (e_in_order_1 F) [v0, none, none] srtK (numF i (xs.map oW)) acc h = srtK (acc ++ (prs i xs).map tupW) h
  | [], i, acc => by
    show (if stay h = true then srtK acc h else .bad) = _
    rw [if_pos hst]; simp [prs]
  | o :: xs, i, acc => by
    rw [List.map_cons, numF_cons]
    unfold loopK
    rw [if_pos hst]
    have b2 : (gTp [gNm 1, gNm 2]).run (.tup [.int (i : Nat), oW o]) [v0, none, none] = some [v0, some (.int (i : Nat)), some (oW o)] := rfl
    rw [b2]
    cases o with
    | none =>
      have t : bT (xNotN (xVar 2)) [v0, some (.int (i : Nat)), some (oW none)] h = .ok false h := by simp [zE, zS, zL, zP, zB, oW]
      simp only [t, Res.noexc_ok, Res.bind_ok, Bool.false_eq_true, if_false]
      exact order_loop F hst v0 xs (i + 1) acc
    | some x =>
      have t : bT (xNotN (xVar 2)) [v0, some (.int (i : Nat)), some (oW (some x))] h = .ok true h := by simp [zE, zS, zL, zP, zB, oW]
      have e : e_in_order_1 F [v0, some (.int (i : Nat)), some (oW (some x))] h = .ok (tupW [x, (i : Int)]) h := by simp [zE, zS, zL, zP, zB, e_in_order_1, oW, tupW]
      simp only [t, e, Res.noexc_ok, Res.bind_ok, if_true]
      rw [order_loop F hst v0 xs (i + 1)]
      simp [prs]
theorem in_order_ok (F : Fenv) {h : AH} {d : Nat} {D : List (Option Int)} (hd : listAt h d = some (D.map oW)) (hl : D.length < 64) : runB 3 (c_in_order F) [.ref d] h = .ok (.ref h.length) (h ++ [.lst ((srtI (prs 0 D)).map tupW)]) := by
  have e1 : xSortG (iEn (aCons (xVar 0) aNil)) (gTp [gNm 1, gNm 2]) (bT (xNotN (xVar 2))) (e_in_order_1 F) [1, 2] [some (.ref d), none, none] h = .ok (.ref h.length) (h ++ [.lst ((srtI (prs 0 D)).map tupW)]) := by
    unfold xSortG
    have : iEn (aCons (xVar 0) aNil) [some (.ref d), none, none] h = .ok (.enum d (D.map oW)) h := by simp [zE, zS, zL, zP, zB, zG, enK_ref hd]
    rw [this, Res.bind_ok]
    have ln : (Src.enum d (D.map oW)).items.length = D.length := by simp [Src.items, numW]
    rw [ln, if_pos (by omega)]
    show loopK (Src.enum d (D.map oW)).stay _ _ _ [some (.ref d), none, none] srtK (numW (D.map oW)) [] h = _
    rw [numW_F, order_loop F (decide_eq_true hd), List.nil_append, srtK_prs hl]
  show runB 3 (sRet _) _ h = _
  rw [zS.2.2.2.2.2.2.2.2.2.2.2.2.2.2.2.2.2.2.2.2.2.2.2.2.1]
  simp [zS, zL, zP, e1]
/-! ### to whom a letter goes -/
def heirV (gone : List (Option Int)) (day : Int) (hs : List Int) : Option Int := hs.find? fun x => match gone.getD x.toNat none with
  | none => true
  | some d => decide (day < d)
theorem first_heir_ok (F : Fenv) {h : AH} {a b g : Nat} {hs : List Int} {gone : List (Option Int)} (ha : h[a]? = some (.lst (hs.map .int))) (hr : ∀ x ∈ hs, 0 ≤ x ∧ x < 10) (hg : listAt h g = some (gone.map oW)) (lg : gone.length = 10) (day : Int) :
    runB 4 (c_first_heir F) [.tup [.ref a, .ref b], .ref g, .int day] h = .ok (oW (heirV gone day hs)) h := by
  have key : ∀ (ys : List Int) (v3 : Option W), (∀ x ∈ ys, 0 ≤ x ∧ x < 10) → (∃ v3', heirV gone day ys = none ∧ loopS (Src.seq a (hs.map .int)).stay (gNm 3) (l_first_heir_1 F) (ys.map .int) [some (.tup [.ref a, .ref b]), some (.ref g), some (.int day), v3] h = .ok (.nx [some (.tup [.ref a, .ref b]), some (.ref g), some (.int day), v3']) h) ∨
      (∃ x, heirV gone day ys = some x ∧ loopS (Src.seq a (hs.map .int)).stay (gNm 3) (l_first_heir_1 F) (ys.map .int) [some (.tup [.ref a, .ref b]), some (.ref g), some (.int day), v3] h = .ok (.rt (.int x)) h) := by
    have hst : (Src.seq a (hs.map .int)).stay h = true := decide_eq_true (listAt_of ha)
    intro ys
    induction ys with
    | nil => intro v3 _; exact .inl ⟨v3, rfl, by unfold loopS; simp [hst]⟩
    | cons x ys ih =>
      intro v3 hy
      have hx := hy x List.mem_cons_self
      have ix : oIx (.ref g) (.int x) h = .ok (oW (gone.getD x.toNat none)) h := by
        rw [oIx_ref hg, atO hx.1 (by omega)]; rfl
      have b2 : (gNm 3).run (.int x) [some (.tup [.ref a, .ref b]), some (.ref g), some (.int day), v3] = some [some (.tup [.ref a, .ref b]), some (.ref g), some (.int day), some (.int x)] := rfl
      unfold heirV
      rw [List.map_cons, List.find?_cons]
      cases ho : gone.getD x.toNat none with
      | none =>
        rw [ho] at ix
        have e1 : l_first_heir_1 F [some (.tup [.ref a, .ref b]), some (.ref g), some (.int day), some (.int x)] h = .ok (.rt (.int x)) h := by simp [zE, zS, zL, zP, zB, l_first_heir_1, ix, oW]
        refine .inr ⟨x, rfl, ?_⟩
        unfold loopS
        rw [if_pos hst, b2]
        simp only [e1, Res.bind_ok]
      | some d =>
        rw [ho] at ix
        by_cases hd : day < d
        · have e1 : l_first_heir_1 F [some (.tup [.ref a, .ref b]), some (.ref g), some (.int day), some (.int x)] h = .ok (.rt (.int x)) h := by simp [zE, zS, zO, zL, zP, zB, l_first_heir_1, ix, oW, hd]
          refine .inr ⟨x, by simp [hd], ?_⟩
          unfold loopS
          rw [if_pos hst, b2]
          simp only [e1, Res.bind_ok]
        · have e1 : l_first_heir_1 F [some (.tup [.ref a, .ref b]), some (.ref g), some (.int day), some (.int x)] h = .ok (.nx [some (.tup [.ref a, .ref b]), some (.ref g), some (.int day), some (.int x)]) h := by simp [zE, zS, zO, zL, zP, zB, l_first_heir_1, ix, oW, hd]
          simp only [hd, decide_false]
          rcases ih (some (.int x)) (fun y hy' => hy y (List.mem_cons_of_mem _ hy')) with ⟨v3', q1, q2⟩ | ⟨z, q1, q2⟩
          · refine .inl ⟨v3', q1, ?_⟩
            unfold loopS
            rw [if_pos hst, b2]
            simp only [e1, Res.bind_ok]
            exact q2
          · refine .inr ⟨z, q1, ?_⟩
            unfold loopS
            rw [if_pos hst, b2]
            simp only [e1, Res.bind_ok]
            exact q2
  rcases key hs none hr with ⟨v3', q1, q2⟩ | ⟨x, q1, q2⟩
  · rw [q1]; simp [zE, zS, zO, zI, zL, zP, zB, c_first_heir, at2, iSeqK_ref (listAt_of ha), Src.items, q2, oW]
  · rw [q1]; simp [zE, zS, zO, zI, zL, zP, zB, c_first_heir, at2, iSeqK_ref (listAt_of ha), Src.items, q2, oW]
theorem let_ix2 {h : AH} {p : Nat} {ws : List W} {L : List Lt} (hp : listAt h p = some ws) (R : RepI h ws L) {n : Nat} {hs : List Int} {ts : List Tm} (hn : L[n]? = some (hs, ts)) : ∃ a b, oIx (.ref p) (.int (n : Int)) h = .ok (.tup [.ref a, .ref b]) h ∧ h[a]? = some (.lst (hs.map .int)) ∧ h[b]? = some (.lst (ts.map Tm.w)) := by
  have hl := R.len
  have hlt := get_lt hn
  obtain ⟨a, b, hs', ts', e1, e2, e3, e4⟩ := R.get (List.getElem?_eq_getElem (show n < ws.length by omega))
  rw [hn] at e2
  cases e2
  refine ⟨a, b, ?_, e3, e4⟩
  rw [oIx_ref hp]
  have : atI ws (n : Int) = some (.tup [.ref a, .ref b]) := by
    unfold atI ixN
    rw [if_pos (by omega), if_pos (by omega)]
    simp only [Int.toNat_natCast, Option.bind_some]
    rw [List.getElem?_eq_getElem (show n < ws.length by omega), e1]
  rw [this]; rfl
/-- a row of what is handed out -/
def rowW (gone : List (Option Int)) (L : List Lt) (k : List Int) : W := match k with
  | [d, n] => .tup [.int d, .int n, oW (heirV gone d ((L.getD n.toNat ([], [])).1))]
  | _ => .non
def outW (gone ds : List (Option Int)) (L : List Lt) : List W := (srtI (prs 0 (dues ds L))).map (rowW gone L)
def HandOk (φ : List W → AH → Res W) : Prop := ∀ (h : AH) (p q g : Nat) (ws : List W) (L : List Lt) (ds gone : List (Option Int)), listAt h p = some ws → RepI h ws L → listAt h q = some (ds.map oW) → okDs ds → okFrom 0 L → 1 ≤ L.length → L.length ≤ 40 → listAt h g = some (gone.map oW) → gone.length = 10 → (∀ d, some d ∈ gone → 0 ≤ d ∧ d ≤ 60) →
  ∃ G r, φ [.ref p, .ref q, .ref g] h = .ok (.ref r) (h ++ G) ∧ (h ++ G)[r]? = some (.lst (outW gone ds L)) ∧ h.length ≤ r
theorem are_days10_ok (F : Fenv) (hD : ∀ (i : Int) (h : AH), F n_is_day [.int i] h = .ok (.bl (decide (0 ≤ i ∧ i ≤ 60))) h) {h : AH} {q : Nat} {ds : List (Option Int)} (hq : listAt h q = some (ds.map oW)) (hl0 : ds.length = 10) (ok : ∀ d, some d ∈ ds → 0 ≤ d ∧ d ≤ 60) :
    runB 3 (c_are_days F) [.ref q, .int 10] h = .ok (.bl true) h := by
  have hl : (ds.length : Int) = 10 := by omega
  have lp : loopG (Src.seq q (ds.map oW)).stay (gNm 2) (e_are_days_1 F) [some (.ref q), some (.int 10), none] (ds.map oW) h = .ok (.bl true) h := by
    rw [loopG_all (p := fun _ => true) (decide_eq_true hq)]
    · simp
    · intro x hx
      obtain ⟨o, ho, rfl⟩ := List.mem_map.mp hx
      refine ⟨[some (.ref q), some (.int 10), some (oW o)], rfl, ?_⟩
      cases o with
      | none => simp [zE, zS, zL, e_are_days_1, oW]
      | some d => simp [zE, zS, zL, e_are_days_1, oW, hD, ok d ho]
  simp [zE, zS, zO, zI, zL, zP, zB, zK, zG, c_are_days, isi_ref hq, bLen, hq, hl, iSeqK_ref hq, Src.items, lp]
theorem hand_fenv (k : Nat) : HandOk (fenv (k + 8) n_handed_out) := by
  intro h p q g ws L ds gone hp R hq okd ok h1 h2 hg lg og
  have e1 := letters_fenv k hp R ok h1 h2
  have e2 : fenv (k + 7) n_check_days [.ref q] h = .ok .non h := days_fenv (k + 3) hq okd
  have e3 : fenv (k + 7) n_are_days [.ref g, .int 10] h = .ok (.bl true) h := are_days10_ok (fenv (k + 6)) (d_fenv (k + 4)) hg lg og
  have e4 : fenv (k + 7) n_letter_days [.ref p, .ref q] h = .ok (.ref h.length) (h ++ [.lst ((dues ds L).map oW)]) := ldays_fenv (k + 4) hp R hq okd.1 ok h2
  obtain ⟨D, hD⟩ : ∃ D, dues ds L = D := ⟨_, rfl⟩
  have lD : D.length = L.length := by rw [← hD, dues_len]
  rw [hD] at e4
  obtain ⟨h3, hE3⟩ : ∃ h3, h ++ [AO.lst (D.map oW)] = h3 := ⟨_, rfl⟩
  have k3 : listAt h3 h.length = some (D.map oW) := by rw [← hE3]; exact listAt_of get_new
  have e5 : fenv (k + 7) n_in_order [.ref h.length] h3 = .ok (.ref h3.length) (h3 ++ [.lst ((srtI (prs 0 D)).map tupW)]) := in_order_ok (fenv (k + 6)) k3 (by omega)
  rw [hE3] at e4
  obtain ⟨h4, hE4⟩ : ∃ h4, h3 ++ [AO.lst ((srtI (prs 0 D)).map tupW)] = h4 := ⟨_, rfl⟩
  rw [hE4] at e5
  have k4 : listAt h4 h3.length = some ((srtI (prs 0 D)).map tupW) := by rw [← hE4]; exact listAt_of get_new
  have up : ∀ {i : Nat} {xs : List W}, listAt h i = some xs → listAt h4 i = some xs := fun e => by rw [← hE4, ← hE3]; exact listAt_app (listAt_app e)
  have R4 : RepI h4 ws L := by rw [← hE4, ← hE3]; exact R.app.app
  have sl := srt_len (prs 0 D)
  have pl := prs_len D 0
  have e6 := lc_map (stay := (Src.seq h3.length ((srtI (prs 0 D)).map tupW)).stay) (g := gTp [gNm 4, gNm 5]) (e := e_handed_out_1 (fenv (k + 7))) (σ := [some (.ref p), some (.ref q), some (.ref g), some (.ref h.length), none, none]) (xs := (srtI (prs 0 D)).map tupW) (h := h4)
    (fun w => match w with | .tup [.int d, .int n] => rowW gone L [d, n] | w => w) (by rw [List.length_map]; omega) (fun acc => decide_eq_true (listAt_app k4)) (fun x hx => by
      obtain ⟨kk, hk, rfl⟩ := List.mem_map.mp hx
      obtain ⟨j, d, ej, rfl⟩ := prs_mem (srt_mem.mp hk)
      rw [Nat.zero_add]
      have hj : j < L.length := by have := get_lt ej; omega
      obtain ⟨⟨hs, ts⟩, el⟩ : ∃ l, L[j]? = some l := ⟨_, List.getElem?_eq_getElem hj⟩
      have okl := okFrom_get ok el
      refine ⟨[some (.ref p), some (.ref q), some (.ref g), some (.ref h.length), some (.int d), some (.int (j : Int))], rfl, fun acc => ?_⟩
      obtain ⟨a, b, i1, i2, i3⟩ := let_ix2 (listAt_app (g := [.lst acc]) (up hp)) R4.app el
      have f1 : fenv (k + 7) n_first_heir [.tup [.ref a, .ref b], .ref g, .int d] (h4 ++ [.lst acc]) = .ok (oW (heirV gone d hs)) (h4 ++ [.lst acc]) := first_heir_ok (fenv (k + 6)) i2 okl.1.2.2.2 (listAt_app (up hg)) lg d
      have v : rowW gone L [d, (j : Int)] = .tup [.int d, .int (j : Int), oW (heirV gone d hs)] := by
        unfold rowW
        simp only [Int.toNat_natCast]
        rw [List.getD_eq_getElem?_getD, el]; rfl
      show e_handed_out_1 (fenv (k + 7)) _ _ = .ok (rowW gone L [d, (j : Int)]) _
      rw [v]
      generalize h4 ++ [AO.lst acc] = hh at i1 f1
      simp [zE, zS, zL, zP, e_handed_out_1, i1, f1])
  have ev : ((srtI (prs 0 D)).map tupW).map (fun w => match w with | .tup [.int d, .int n] => rowW gone L [d, n] | w => w) = outW gone ds L := by
    unfold outW
    rw [hD, List.map_map]
    refine List.map_congr_left fun kk hk => ?_
    obtain ⟨j, d, ej, rfl⟩ := prs_mem (srt_mem.mp hk)
    rfl
  rw [ev] at e6
  refine ⟨[AO.lst (D.map oW), .lst ((srtI (prs 0 D)).map tupW), .lst (outW gone ds L)], h4.length, ?_, ?_, ?_⟩
  · have fin : h ++ [AO.lst (D.map oW), .lst ((srtI (prs 0 D)).map tupW), .lst (outW gone ds L)] = h4 ++ [.lst (outW gone ds L)] := by rw [← hE4, ← hE3]; simp
    rw [fin]
    generalize outW gone ds L = OW at e6 ⊢
    show runB 6 (c_handed_out (fenv (k + 7))) [.ref p, .ref q, .ref g] h = _
    simp [zE, zS, zO, zI, zL, zP, zB, zG, c_handed_out, e1, e2, e3, e4, e5, iSeqK_ref k4, Src.items, e6]
  · have fin : h ++ [AO.lst (D.map oW), .lst ((srtI (prs 0 D)).map tupW), .lst (outW gone ds L)] = h4 ++ [.lst (outW gone ds L)] := by rw [← hE4, ← hE3]; simp
    rw [fin]; exact get_new
  · rw [← hE4, ← hE3]; simp
end Q
set_option Elab.async false
set_option linter.all false
set_option maxRecDepth 100000
set_option maxHeartbeats 4000000
namespace Q
open PySem L2 Z
def sm60 (o : Option Int) : List Int := match o with
  | none => []
  | some x => [if x < 60 then x else 60]
theorem law_gone (F : Fenv) (hN : ∀ (c a w : Int) (h : AH), 0 ≤ a → a ≤ 1000 → Builtin.Int.intBits c ≤ 2000000 → F n__law_number [.int c, .int a, .int w] h = .ok (.int (lNum c a w)) h)
    {ns : List Int} (S : Scr ns) {s d : Nat} {h : AH} (hs : listAt h s = some (ns.map .int)) {D : List (Option Int)} (hd : listAt h d = some (D.map oW)) (hD : D.length ≤ 40) {b : Int} (b0 : 0 ≤ b) (b1 : b ≤ 10) :
    ∃ G r gs, runB 10 (c__law_gone F) [.ref s, .int b, .ref d] h = .ok (.ref r) (h ++ G) ∧ (h ++ G)[r]? = some (.lst (gs.map oW)) ∧ okG gs ∧ h.length ≤ r := by
  obtain ⟨ms0, hm0⟩ : ∃ ms0 : List Int, (D.flatMap sm60) = ms0 := ⟨_, rfl⟩
  have filt : ∀ (D : List (Option Int)), ((D.map oW).filter fun w => match w with | .non => false | _ => true).map (fun w => match w with | .int x => W.int (if x < 60 then x else 60) | w => w) = (D.flatMap sm60).map .int := by
    intro D
    induction D with
    | nil => rfl
    | cons o D ih =>
      cases o with
      | none => simpa [oW, sm60] using ih
      | some x => simp only [List.map_cons, oW, List.filter_cons, if_true, List.flatMap_cons, sm60, List.map_append, List.map_nil, List.cons_append, List.nil_append]; rw [ih]
  have len0 : ms0.length ≤ 40 := by
    have : ∀ (D : List (Option Int)), (D.flatMap sm60).length ≤ D.length := by
      intro D
      induction D with
      | nil => simp
      | cons o D ih => cases o <;> simp [sm60] at * <;> omega
    have := this D
    rw [hm0] at this
    omega
  -- the heap ahead of the loop
  have H0 : ∀ gs : List (Option Int), ∃ g, h ++ [AO.lst [], .lst ((lCells ns).map .int), .lst (gs.map oW), .lst (ms0.map .int), .lst [.int 30], .lst ((ms0 ++ [30]).map .int)] = g := fun _ => ⟨_, rfl⟩
  have pl : 0 < (ms0 ++ [30]).length := by simp
  obtain ⟨σ1, g1, e1, t7, t8, t9, gs, rfl, gl, gok, rfl⟩ := loop_inv (stay := fun _ => true) (g := gNm 7) (body := l__law_gone_2 F) (xs := rngW 0 10)
    (σ := [some (.ref s), some (.int b), some (.ref d), some (.ref (h.length + 1)), some (.int (lWhole ns b)), some (.ref (h.length + 2)), some (.ref (h.length + 5)), none, none, none])
    (h := h ++ [AO.lst [], .lst ((lCells ns).map .int), .lst [], .lst (ms0.map .int), .lst [.int 30], .lst ((ms0 ++ [30]).map .int)])
    (fun i σ g => ∃ t7 t8 t9 gs, σ = [some (.ref s), some (.int b), some (.ref d), some (.ref (h.length + 1)), some (.int (lWhole ns b)), some (.ref (h.length + 2)), some (.ref (h.length + 5)), t7, t8, t9] ∧ gs.length = i ∧ (∀ x : Int, some x ∈ gs → 0 ≤ x ∧ x ≤ 60) ∧
      g = h ++ [AO.lst [], .lst ((lCells ns).map .int), .lst (gs.map oW), .lst (ms0.map .int), .lst [.int 30], .lst ((ms0 ++ [30]).map .int)])
    ⟨none, none, none, [], rfl, rfl, fun x hx => by simp at hx, rfl⟩ (fun _ _ _ _ _ => rfl) (by
      rintro i x σ g hx ⟨t7, t8, t9, gs, rfl, gl, gok, rfl⟩
      obtain ⟨hi, rfl⟩ := rngW_get hx
      obtain ⟨g, hg⟩ := H0 gs
      have k1 : listAt g (h.length + 1) = some ((lCells ns).map .int) := by rw [← hg]; exact listAt_of (gk 1)
      have k2 : g[h.length + 2]? = some (.lst (gs.map oW)) := by rw [← hg]; exact gk 2
      have k5 : listAt g (h.length + 5) = some ((ms0 ++ [30]).map .int) := by rw [← hg]; exact listAt_of (gk 5)
      have c1 := cells_at ns ((i : Int) + b)
      have c2 : (0 : Int) < ((lCells ns).length : Int) := by have := cells_pos ns; omega
      have c3 := hN (lCell ns ((i : Int) + b) + 17 * (i : Int)) ((i : Int) + b) (lWhole ns b) g (by omega) (by omega) (S.cell (by omega) (by omega))
      obtain ⟨m, hm⟩ : ∃ m, lNum (lCell ns ((i : Int) + b) + 17 * (i : Int)) ((i : Int) + b) (lWhole ns b) / 3 = m := ⟨_, rfl⟩
      have mu : IntMulOk 17 ((i : Nat) : Int) := .of_left (by decide)
      obtain ⟨N, hN'⟩ : ∃ N : Nat, (ms0 ++ [30]).length = N := ⟨_, rfl⟩
      have N0 : 0 < N := by omega
      have q0 : 0 ≤ m / 4 % (N : Int) := Int.emod_nonneg _ (by omega)
      have q1 : m / 4 % (N : Int) < N := Int.emod_lt_of_pos _ (by omega)
      obtain ⟨j, hj⟩ : ∃ j : Nat, (j : Int) = m / 4 % (N : Int) := ⟨(m / 4 % (N : Int)).toNat, by omega⟩
      obtain ⟨y, hy⟩ : ∃ y, (ms0 ++ [30])[j]? = some y := ⟨_, List.getElem?_eq_getElem (by omega)⟩
      have ix : oIx (.ref (h.length + 5)) (.int (m / 4 % (N : Int))) g = .ok (.int y) g := by
        rw [oIx_ref k5, ← hj]
        have : atI ((ms0 ++ [30]).map W.int) (j : Int) = some (.int y) := by
          unfold atI
          rw [List.length_map, ixN_nat (by omega), Option.bind_some, List.getElem?_map, hy]; rfl
        rw [this]; rfl
      obtain ⟨z, hz⟩ : ∃ z : Int, (if (if y + m / 160 % 3 - 1 > 0 then y + m / 160 % 3 - 1 else 0) < 60 then (if y + m / 160 % 3 - 1 > 0 then y + m / 160 % 3 - 1 else 0) else 60) = z := ⟨_, rfl⟩
      have z0 : 0 ≤ z := by rw [← hz]; split <;> split <;> omega
      have z1 : z ≤ 60 := by rw [← hz]; split <;> omega
      have u0 : 0 ≤ m / 480 % 61 := Int.emod_nonneg _ (by decide)
      have u1 : m / 480 % 61 < 61 := Int.emod_lt_of_pos _ (by decide)
      obtain ⟨o, ho⟩ : ∃ o : Option Int, (if m % 4 = 0 then none else if m % 4 = 1 then some z else if m % 4 = 2 then some (m / 480 % 61) else some 0) = o := ⟨_, rfl⟩
      have at4 : atI [W.non, .int z, .int (m / 480 % 61), .int 0] (m % 4) = some (oW o) := by
        rw [atIm, ← ho]
        congr 1
        split
        · rfl
        · split
          · rfl
          · split <;> rfl
      have ook : ∀ x : Int, some x = o → 0 ≤ x ∧ x ≤ 60 := fun x hx => by
        rw [← ho] at hx
        split at hx
        · cases hx
        · split at hx
          · cases hx; omega
          · split at hx
            · cases hx; omega
            · cases hx; omega
      have sz : gs.length < 16777216 := by omega
      have fin : g.set (h.length + 2) (.lst (gs.map oW ++ [oW o])) = h ++ [AO.lst [], .lst ((lCells ns).map .int), .lst ((gs ++ [o]).map oW), .lst (ms0.map .int), .lst [.int 30], .lst ((ms0 ++ [30]).map .int)] := by
        rw [← hg, sk]; simp
      refine ⟨_, rfl, [some (.ref s), some (.int b), some (.ref d), some (.ref (h.length + 1)), some (.int (lWhole ns b)), some (.ref (h.length + 2)), some (.ref (h.length + 5)), some (.int (i : Int)), some (.int m), some (.int z)], _, ?_, some (.int (i : Int)), some (.int m), some (.int z), gs ++ [o], rfl, by simp [gl], fun x hx => ?_, rfl⟩
      · rw [hg, ← fin]
        have q : isLst g (.ref (h.length + 2)) = true := by simp [isLst, listAt_of k2]
        have e5 : ((ms0.length : Nat) : Int) + 1 = (N : Int) := by have : ms0.length + 1 = N := by simpa using hN'
                                                                   omega
        have cp := cells_pos ns
        have P1 : l__law_gone_2 F [some (.ref s), some (.int b), some (.ref d), some (.ref (h.length + 1)), some (.int (lWhole ns b)), some (.ref (h.length + 2)), some (.ref (h.length + 5)), some (.int (i : Int)), t8, t9] g = .ok (.nx [some (.ref s), some (.int b), some (.ref d), some (.ref (h.length + 1)), some (.int (lWhole ns b)), some (.ref (h.length + 2)), some (.ref (h.length + 5)), some (.int (i : Int)), some (.int m), some (.int z)]) (g.set (h.length + 2) (.lst (gs.map oW ++ [oW o]))) := by
          unfold l__law_gone_2
          refine seq_step (σ' := [some (.ref s), some (.int b), some (.ref d), some (.ref (h.length + 1)), some (.int (lWhole ns b)), some (.ref (h.length + 2)), some (.ref (h.length + 5)), some (.int (i : Int)), some (.int m), t9]) (h' := g) ?_ ?_
          · simp [zE, zS, zO, zI, zL, zP, zB, bLen, k1, oIx_ref k1, c1, c2, cp, mu, c3, hm]
          refine seq_step (σ' := [some (.ref s), some (.int b), some (.ref d), some (.ref (h.length + 1)), some (.int (lWhole ns b)), some (.ref (h.length + 2)), some (.ref (h.length + 5)), some (.int (i : Int)), some (.int m), some (.int z)]) (h' := g) ?_ ?_
          · have l5 : bLen [.ref (h.length + 5)] g = .ok (.int (N : Int)) g := by simp [bLen, k5, hN'.symm]
            have N0' : (0 : Int) < (N : Int) := by omega
            simp only [zE, zS, zO, zI, zL, zP, zB, l5, N0', ix, bMin, bMax, List.getElem?_cons_succ, List.getElem?_cons_zero]
            rw [if_pos (by decide), if_pos trivial, if_pos (by decide), if_pos (by decide), hz]
          · simp [zE, zS, zO, zI, zL, zP, zB, q, at4, oAppend, k2, sz]
        simpa using P1
      · rcases List.mem_append.mp hx with q | q
        · exact gok x q
        · exact ook x (List.mem_singleton.mp q))
  rw [rngW_length] at gl
  refine ⟨[AO.lst [], .lst ((lCells ns).map .int), .lst (gs.map oW), .lst (ms0.map .int), .lst [.int 30], .lst ((ms0 ++ [30]).map .int)], h.length + 2, gs, ?_, gk 2, ⟨gl, gok⟩, by omega⟩
  have a1 : listAt (h ++ [AO.lst []]) s = some (ns.map .int) := listAt_app hs
  have a2 : listAt (h ++ [AO.lst []]) h.length = some [] := listAt_of get_new
  have a3 : listAt (h ++ [AO.lst [], AO.lst ((lCells ns).map W.int)]) (h.length + 1) = some ((lCells ns).map .int) := listAt_of (get_at2 rfl)
  have a5 : (lCells ns).sum + b = lWhole ns b := rfl
  have key : (xIf (bT (xOp (oEqD true) (xVar 0) (xLst aNil))) (xSl (xVar 0) pNone (pSome (xC (.int 63)))) (xLst (aCons (xC (.int 5)) aNil))) [some (.ref s), some (.int b), some (.ref d), none, none, none, none, none, none, none] h = .ok (.ref (h.length + 1)) (h ++ [.lst [], .lst ((lCells ns).map .int)]) := by
    simp [zE, zS, zO, zI, zL, zP, zB, ne_nil a1 a2]
    by_cases hn : ns = []
    · subst hn
      simp [lCells]
    · simp [hn, slK3_ref a1, cut63 S.len, lCells]
  obtain ⟨h3, hE3⟩ : ∃ h3, h ++ [AO.lst [], .lst ((lCells ns).map .int), .lst []] = h3 := ⟨_, rfl⟩
  have l3 : h3.length = h.length + 3 := by rw [← hE3]; simp
  have hd3 : listAt h3 d = some (D.map oW) := by rw [← hE3]; exact listAt_app hd
  have lc := lc_filter (stay := (Src.seq d (D.map oW)).stay) (g := gNm 9) (t := bT (xNotN (xVar 9))) (e := e__law_gone_1 F) (σ := [some (.ref s), some (.int b), some (.ref d), some (.ref (h.length + 1)), some (.int (lWhole ns b)), some (.ref (h.length + 2)), none, none, none, none]) (xs := D.map oW) (h := h3)
    (fun w => match w with | .non => false | _ => true) (fun w => match w with | .int x => W.int (if x < 60 then x else 60) | w => w) (by rw [List.length_map]; omega) (fun acc => decide_eq_true (listAt_app hd3)) (fun x hx => by
      obtain ⟨o, _, rfl⟩ := List.mem_map.mp hx
      refine ⟨[some (.ref s), some (.int b), some (.ref d), some (.ref (h.length + 1)), some (.int (lWhole ns b)), some (.ref (h.length + 2)), none, none, none, some (oW o)], rfl, fun acc => ?_⟩
      cases o with
      | none => exact ⟨by simp [zE, zL, oW], fun z => by simp [oW] at z⟩
      | some x => exact ⟨by simp [zE, zL, oW], fun _ => by simp [zE, zS, zL, zP, zB, e__law_gone_1, oW, bMin]⟩)
  rw [filt D, hm0] at lc
  have ad : oAdd (.ref (h.length + 3)) (.ref (h.length + 4)) (h ++ [AO.lst [], .lst ((lCells ns).map .int), .lst [], .lst (ms0.map .int), .lst [.int 30]]) = .ok (.ref (h.length + 5)) (h ++ [AO.lst [], .lst ((lCells ns).map .int), .lst [], .lst (ms0.map .int), .lst [.int 30], .lst ((ms0 ++ [30]).map .int)]) := by
    have x1 : (h ++ [AO.lst [], .lst ((lCells ns).map .int), .lst [], .lst (ms0.map .int), .lst [.int 30]])[h.length + 3]? = some (.lst (ms0.map .int)) := gk 3
    have x2 : (h ++ [AO.lst [], .lst ((lCells ns).map .int), .lst [], .lst (ms0.map .int), .lst [.int 30]])[h.length + 4]? = some (.lst [.int 30]) := gk 4
    simp only [oAdd, x1, x2]
    rw [if_pos (by rw [sizeLine_eq]; simp; omega)]
    simp
  have r1 : inRng 10 = true := by decide
  have t10 : ((10 : Int).toNat) = 10 := rfl
  have P : c__law_gone F (startW 10 [.ref s, .int b, .ref d]) h = .ok (.rt (.ref (h.length + 2))) (h ++ [AO.lst [], .lst ((lCells ns).map .int), .lst (gs.map oW), .lst (ms0.map .int), .lst [.int 30], .lst ((ms0 ++ [30]).map .int)]) := by
    unfold c__law_gone
    refine seq_step (σ' := [some (.ref s), some (.int b), some (.ref d), some (.ref (h.length + 1)), none, none, none, none, none, none]) (h' := h ++ [.lst [], .lst ((lCells ns).map .int)]) ?_ ?_
    · unfold sSet sAsg
      rw [show startW 10 [.ref s, .int b, .ref d] = [some (.ref s), some (.int b), some (.ref d), none, none, none, none, none, none, none] from rfl, key]; rfl
    refine seq_step (σ' := [some (.ref s), some (.int b), some (.ref d), some (.ref (h.length + 1)), some (.int (lWhole ns b)), some (.ref (h.length + 2)), none, none, none, none]) (h' := h3) ?_ ?_
    · simp [zE, zS, zO, zI, zL, zP, zB, bSum, a3, sum_ints, a5, hE3]
    refine seq_step (σ' := [some (.ref s), some (.int b), some (.ref d), some (.ref (h.length + 1)), some (.int (lWhole ns b)), some (.ref (h.length + 2)), some (.ref (h.length + 5)), none, none, none]) (h' := h ++ [AO.lst [], .lst ((lCells ns).map .int), .lst [], .lst (ms0.map .int), .lst [.int 30], .lst ((ms0 ++ [30]).map .int)]) ?_ ?_
    · rw [l3, ← hE3] at lc
      have e3 : h ++ [AO.lst [], AO.lst ((lCells ns).map .int), AO.lst []] ++ [AO.lst (ms0.map .int)] = h ++ [AO.lst [], .lst ((lCells ns).map .int), .lst [], .lst (ms0.map .int)] := by simp
      rw [e3] at lc
      rw [← hE3] at hd3 ⊢
      have lx : (h ++ [AO.lst [], AO.lst ((lCells ns).map .int), AO.lst []]).length = h.length + 3 := by simp
      simp [zE, zS, zO, zI, zL, zP, zB, iSeqK_ref hd3, Src.items, wpW] at lc ⊢
      rw [lc]
      simp [zE, zS, zO, zI, zL, zP, zB, ad]
    refine seq_step (σ' := _) (h' := _) (Eq.trans ?_ e1) ?_
    · simp [zE, zS, zO, zI, zL, zP, zB, r1, stay_pure, Src.items, t10]
    · simp [zE, zS, zO, zI, zL, zP, zB]
  rw [zS.2.2.2.2.2.2.2.2.2.2.2.2.2.2.2.2.2.2.2.2.2.2.2.2.1, P]
  rfl
end Q
set_option Elab.async false
set_option linter.all false
set_option maxRecDepth 100000
set_option maxHeartbeats 4000000
namespace Q
open PySem L2 Z
/-! ### the same order, day by day -/
theorem lex2 (a b c d : Int) : HT.lexLt [a, b] [c, d] = (decide (a < c) || (decide (a = c) && decide (b < d))) := by
  unfold HT.lexLt HT.lexLt HT.lexLt
  by_cases h1 : a < c
  · simp [h1]; omega
  · by_cases h2 : a = c
    · subst h2; simp; omega
    · simp [h1, h2]
def hd (k : List Int) : Int := k.headD 0
def somes (D : List (Option Int)) : List Int := D.filterMap id
theorem prs_hd : ∀ (D : List (Option Int)) (i : Nat), (prs i D).map hd = somes D
  | [], _ => rfl
  | none :: D, i => prs_hd D (i + 1)
  | some x :: D, i => by show x :: (prs (i + 1) D).map hd = x :: somes D; rw [prs_hd D (i + 1)]
theorem part_perm : ∀ (ds : List Int) (P : List (List Int)), ds.Nodup → (∀ k ∈ P, hd k ∈ ds) → (ds.flatMap fun d => P.filter fun k => decide (hd k = d)).Perm P
  | [], P, _, h => by
    have : P = [] := List.eq_nil_iff_forall_not_mem.mpr fun k hk => nomatch h k hk
    subst this; exact .nil
  | d :: ds, P, nd, h => by
    obtain ⟨n1, n2⟩ := List.nodup_cons.mp nd
    have ih := part_perm ds (P.filter fun k => !decide (hd k = d)) n2 fun k hk => by
      obtain ⟨h1, h2⟩ := List.mem_filter.mp hk
      rcases List.mem_cons.mp (h k h1) with z | z
      · simp [z] at h2
      · exact z
    have e : (ds.flatMap fun d' => P.filter fun k => decide (hd k = d')) = ds.flatMap fun d' => (P.filter fun k => !decide (hd k = d)).filter fun k => decide (hd k = d') := by
      have : ∀ (es : List Int), (∀ x ∈ es, x ≠ d) → (es.flatMap fun d' => P.filter fun k => decide (hd k = d')) = es.flatMap fun d' => (P.filter fun k => !decide (hd k = d)).filter fun k => decide (hd k = d') := by
        intro es
        induction es with
        | nil => intro _; rfl
        | cons x es ih2 =>
          intro hx
          rw [List.flatMap_cons, List.flatMap_cons, ih2 fun y hy => hx y (List.mem_cons_of_mem _ hy), List.filter_filter]
          congr 1
          refine List.filter_congr fun k _ => ?_
          have := hx x List.mem_cons_self
          by_cases hk : hd k = x
          · simp [hk, this]
          · simp [hk]
      exact this ds fun x hx z => n1 (z ▸ hx)
    rw [List.flatMap_cons, e]
    refine (ih.append_left _).trans ?_
    exact List.filter_append_perm _ P
theorem prs_pair : ∀ (D : List (Option Int)) (i : Nat), (prs i D).Pairwise fun a b => a.getD 1 0 < b.getD 1 0
  | [], _ => .nil
  | none :: D, i => prs_pair D (i + 1)
  | some x :: D, i => by
    refine List.pairwise_cons.mpr ⟨fun b hb => ?_, prs_pair D (i + 1)⟩
    obtain ⟨j, y, _, rfl⟩ := prs_mem hb
    simp
    omega
def ordP (D : List (Option Int)) : List (List Int) := (srtZ (nD (somes D))).flatMap fun d => (prs 0 D).filter fun k => decide (hd k = d)
theorem step_mem {σ : List Int} {v k : Int} : k ∈ PyProof.Rows.step_dedup σ v ↔ k ∈ σ ∨ k = v := by
  unfold PyProof.Rows.step_dedup
  split
  · rename_i h
    obtain ⟨x, h1, h2⟩ := List.any_eq_true.mp h
    rw [eq_of_beq h2] at h1
    exact ⟨.inl, fun z => z.elim id fun e => e ▸ h1⟩
  · simp
theorem nD_mem {ns : List Int} {k : Int} : k ∈ nD ns ↔ k ∈ ns := by
  unfold nD
  have : ∀ (ns σ : List Int), k ∈ ns.foldl PyProof.Rows.step_dedup σ ↔ k ∈ σ ∨ k ∈ ns := by
    intro ns
    induction ns with
    | nil => intro σ; simp
    | cons n ns ih => intro σ; rw [List.foldl_cons, ih, step_mem]; simp [or_assoc]
  simpa using this ns []
theorem nD_nodup' (ns : List Int) : (nD ns).Nodup := by
  unfold nD
  have : ∀ (ns σ : List Int), σ.Nodup → (ns.foldl PyProof.Rows.step_dedup σ).Nodup := by
    intro ns
    induction ns with
    | nil => intro σ h; exact h
    | cons n ns ih =>
      intro σ h
      rw [List.foldl_cons]
      refine ih _ ?_
      unfold PyProof.Rows.step_dedup
      split
      · exact h
      · rename_i hn
        refine List.nodup_append.mpr ⟨h, by simp, fun a ha b hb => ?_⟩
        rw [List.mem_singleton.mp hb]
        intro e
        subst e
        exact hn (List.any_eq_true.mpr ⟨a, ha, by simp⟩)
  exact this ns [] List.nodup_nil
theorem nD_len (ns : List Int) : (nD ns).length ≤ ns.length := by
  unfold nD
  have : ∀ (ns σ : List Int), (ns.foldl PyProof.Rows.step_dedup σ).length ≤ σ.length + ns.length := by
    intro ns
    induction ns with
    | nil => intro σ; simp
    | cons n ns ih =>
      intro σ
      rw [List.foldl_cons]
      have h1 := ih (PyProof.Rows.step_dedup σ n)
      have h2 : (PyProof.Rows.step_dedup σ n).length ≤ σ.length + 1 := by unfold PyProof.Rows.step_dedup; split <;> simp
      simp only [List.length_cons]; omega
  simpa using this ns []
theorem ord_eq (D : List (Option Int)) : ordP D = srtI (prs 0 D) := by
  have sp := srtZ_perm (nD (somes D))
  have so := srtZ_sorted (nD (somes D))
  have nd : (srtZ (nD (somes D))).Nodup := sp.nodup_iff.mpr (nD_nodup' _)
  refine srtI_eq (part_perm _ _ nd fun k hk => ?_) ?_
  · refine sp.mem_iff.mpr (nD_mem.mpr ?_)
    rw [← prs_hd D 0]
    exact List.mem_map_of_mem hk
  · unfold ordP
    refine List.pairwise_flatMap.mpr ⟨fun d _ => ?_, ?_⟩
    · refine List.Pairwise.imp_of_mem ?_ ((prs_pair D 0).filter _)
      intro a b ha hb hab
      obtain ⟨ha1, ha2⟩ := List.mem_filter.mp ha
      obtain ⟨hb1, hb2⟩ := List.mem_filter.mp hb
      obtain ⟨i, x, _, rfl⟩ := prs_mem ha1
      obtain ⟨j, y, _, rfl⟩ := prs_mem hb1
      simp [hd] at ha2 hb2 hab
      rw [lex2]
      simp
      omega
    · have lt : (srtZ (nD (somes D))).Pairwise (· < ·) := by
        refine List.Pairwise.imp₂ (R := (· ≤ ·)) (S := (· ≠ ·)) ?_ so nd
        intro a b h1 h2
        omega
      refine lt.imp fun {d e} hde => ?_
      intro a ha b hb
      obtain ⟨ha1, ha2⟩ := List.mem_filter.mp ha
      obtain ⟨hb1, hb2⟩ := List.mem_filter.mp hb
      obtain ⟨i, x, _, rfl⟩ := prs_mem ha1
      obtain ⟨j, y, _, rfl⟩ := prs_mem hb1
      simp [hd] at ha2 hb2
      rw [lex2]
      simp
      omega
end Q
set_option Elab.async false
set_option linter.all false
set_option maxRecDepth 100000
set_option maxHeartbeats 4000000
namespace Q
open PySem L2 Z
theorem fr_ext {h h' : AH} (f : Fr 0 0 h h') : ∃ g, h' = h ++ g := by
  refine ⟨h'.drop h.length, ?_⟩
  refine List.ext_getElem? fun j => ?_
  rcases Nat.lt_or_ge j h.length with q | q
  · rw [List.getElem?_append_left q, f.get j q (.inr (Nat.zero_le _))]
  · rw [List.getElem?_append_right q, List.getElem?_drop]; congr 1; omega
theorem acons_ok {e : XE} {r : XA} {σ : SW} {h h1 h2 : AH} {x : W} {xs : List W} (e1 : e σ h = .ok x h1) (e2 : r σ h1 = .ok xs h2) : aCons e r σ h = .ok (x :: xs) h2 := by
  show (e σ h).bind (fun x h1 => (r σ h1).bind fun xs h2 => .ok (x :: xs) h2) = _
  rw [e1, Res.bind_ok, e2, Res.bind_ok]
theorem tup_ok {t : XA} {σ : SW} {h h1 : AH} {xs : List W} (e : t σ h = .ok xs h1) (hl : xs.length ≤ 1000) : xTup t σ h = .ok (.tup xs) h1 := by
  rw [zE.2.2.2.2.2.2.2.2.2.2.2.2.2.2.2.2.2.2.2.2.2.2.2.2.2.2.2.2.2.2.2.2.2.1, e]
  simp only [zE]
  rw [if_pos (by rw [sizeLine_eq]; omega)]
theorem app_any {σ : SW} {g g' : AH} {a r : Nat} {e : XE} {w : W} {rows : List W} (ha : σ[a]? = some (some (.ref r))) (h1 : isLst g (.ref r) = true) (he : e σ g = .ok w g') (hr : g'[r]? = some (.lst rows)) (hl : rows.length < 16777216) :
    sExpr (xBM oAppend (xVar a) (aCons e aNil)) σ g = .ok (.nx σ) (g'.set r (.lst (rows ++ [w]))) := by
  simp only [zE, zS, ha, h1, if_true, he, oAppend, hr]
  rw [if_pos (by rw [sizeLine_eq]; exact hl)]
  rfl
def pH (gone : List (Option Int)) (day x : Int) : Bool := match gone.getD x.toNat none with
  | none => true
  | some d => decide (day < d)
theorem heir_find (gone : List (Option Int)) (day : Int) (hs : List Int) : heirV gone day hs = (hs.filter (pH gone day)).head? := by
  show hs.find? (pH gone day) = _
  rw [List.head?_filter]
def pHw (gone : List (Option Int)) (day : Int) (w : W) : Bool := match w with
  | .int x => pH gone day x
  | _ => false
theorem filt_w (gone : List (Option Int)) (day : Int) : ∀ hs : List Int, ((hs.map W.int).filter (pHw gone day)).map id = (hs.filter (pH gone day)).map .int
  | [] => rfl
  | x :: hs => by
    have ih := filt_w gone day hs
    rw [List.map_cons, List.filter_cons, List.filter_cons, show pHw gone day (.int x) = pH gone day x from rfl]
    cases pH gone day x with
    | true => rw [if_pos rfl, if_pos rfl, List.map_cons, List.map_cons, ih]; rfl
    | false => rw [if_neg (by simp), if_neg (by simp)]; exact ih
theorem pH_none {gone : List (Option Int)} {day x : Int} (h : gone.getD x.toNat none = none) : pH gone day x = true := by unfold pH; rw [h]
theorem pH_some {gone : List (Option Int)} {day x d : Int} (h : gone.getD x.toNat none = some d) : pH gone day x = decide (day < d) := by unfold pH; rw [h]
theorem prs_snoc : ∀ (D : List (Option Int)) (o : Option Int) (i : Nat), prs i (D ++ [o]) = prs i D ++ (match o with | none => [] | some x => [[x, ((i + D.length : Nat) : Int)]])
  | [], none, i => rfl
  | [], some x, i => rfl
  | none :: D, o, i => by
    have := prs_snoc D o (i + 1)
    simp only [List.cons_append, prs, this, List.length_cons]
    cases o <;> simp; omega
  | some y :: D, o, i => by
    have := prs_snoc D o (i + 1)
    simp only [List.cons_append, prs, this, List.length_cons]
    cases o <;> simp; omega
section
variable (F : Fenv) {h0 : AH} {p q g f dd : Nat} {ws : List W} {L : List Lt} {gone D : List (Option Int)}
  (hp : listAt h0 p = some ws) (R : RepI h0 ws L) (hg : listAt h0 g = some (gone.map oW)) (lg : gone.length = 10) (hD : listAt h0 dd = some (D.map oW)) (lD : D.length = L.length) (lL : L.length ≤ 40) (ok : okFrom 0 L)
  (pf : p ≠ f) (gf : g ≠ f) (df : dd ≠ f) (inf : ∀ a ∈ inn ws, a ≠ f)
include hp R hg lg hD lD lL ok pf gf df inf in
theorem order_in (day : Int) {g1 : AH} (fr : Fr f (f + 1) h0 g1) {rows : List W} (hf : g1[f]? = some (.lst rows)) (hr : rows.length ≤ 100000) (v1 v6 v7 v8 v9 v10 : Option W) :
    ∃ g2 w6 w7 w8 w9, l__law_order_4 F [some (.ref p), v1, some (.ref g), some (.ref f), some (.ref dd), some (.int day), v6, v7, v8, v9, none] g1 = .ok (.nx [some (.ref p), v1, some (.ref g), some (.ref f), some (.ref dd), some (.int day), w6, w7, w8, w9, none]) g2 ∧ Fr f (f + 1) h0 g2 ∧ g2[f]? = some (.lst (rows ++ ((prs 0 D).filter fun k => decide (hd k = day)).map (rowW gone L))) := by
  have rl := R.len
  obtain ⟨σ', g2, e, w6, w7, w8, w9, rfl, fr2, hf2⟩ := loop_inv (stay := (Src.enum p ws).stay) (g := gTp [gNm 6, gTp [gNm 7, gNm 8]]) (body := l__law_order_3 F) (xs := numW ws)
    (σ := [some (.ref p), v1, some (.ref g), some (.ref f), some (.ref dd), some (.int day), v6, v7, v8, v9, none]) (h := g1)
    (fun i σ g2 => ∃ w6 w7 w8 w9, σ = [some (.ref p), v1, some (.ref g), some (.ref f), some (.ref dd), some (.int day), w6, w7, w8, w9, none] ∧ Fr f (f + 1) h0 g2 ∧ g2[f]? = some (.lst (rows ++ ((prs 0 (D.take i)).filter fun k => decide (hd k = day)).map (rowW gone L))))
    ⟨v6, v7, v8, v9, rfl, fr, by simpa [prs] using hf⟩ (fun i σ g2 _ iv => by
      obtain ⟨_, _, _, _, _, fr2, _⟩ := iv
      exact decide_eq_true (fr2.lst hp (by omega))) (by
      rintro i x σ g1 hx ⟨v6, v7, v8, v9, rfl, fr, hf⟩
      obtain ⟨w, hw, rfl⟩ := numW_at hx
      obtain ⟨a, b, hs, ts, rfl, el, ea, eb⟩ := R.get hw
      have il : i < L.length := get_lt el
      obtain ⟨o, eo⟩ : ∃ o, D[i]? = some o := ⟨_, List.getElem?_eq_getElem (by omega)⟩
      have okl := okFrom_get ok el
      have ain : a ∈ inn ws := by
        unfold inn
        exact List.mem_flatMap.mpr ⟨_, List.mem_of_getElem? hw, by simp⟩
      have ea1 : g1[a]? = some (.lst (hs.map .int)) := fr.at ea (by have := inf a ain; omega)
      have hg1 := fr.lst hg (j := g) (by omega)
      have hD1 := fr.lst hD (j := dd) (by omega)
      have ix : oIx (.ref dd) (.int (i : Int)) g1 = .ok (oW o) g1 := by
        rw [oIx_ref hD1, atO (by omega) (by omega)]
        rw [List.getD_eq_getElem?_getD, Int.toNat_natCast, eo]; rfl
      have eq : oEqD false (oW o) (.int day) g1 = .ok (.bl (decide (o = some day))) g1 := by
        cases o with
        | none => simp [zO, oW]
        | some z => simp [zO, oW]
      have run : (gTp [gNm 6, gTp [gNm 7, gNm 8]]).run (.tup [.int (i : Int), .tup [.ref a, .ref b]]) [some (.ref p), v1, some (.ref g), some (.ref f), some (.ref dd), some (.int day), v6, v7, v8, v9, none] = some [some (.ref p), v1, some (.ref g), some (.ref f), some (.ref dd), some (.int day), some (.int (i : Int)), some (.ref a), some (.ref b), v9, none] := rfl
      refine ⟨_, run, ?_⟩
      have tk := take_succ' eo
      have dt : (D.take i).length = i := by simp; omega
      by_cases hod : o = some day
      · subst hod
        have rw1 : ((prs 0 (D.take (i + 1))).filter fun k => decide (hd k = day)).map (rowW gone L) = ((prs 0 (D.take i)).filter fun k => decide (hd k = day)).map (rowW gone L) ++ [rowW gone L [day, (i : Int)]] := by
          rw [tk, prs_snoc, List.filter_append, List.map_append, dt]
          simp [hd]
        rw [rw1]
        have row : rowW gone L [day, (i : Int)] = .tup [.int day, .int (i : Int), oW (heirV gone day hs)] := by
          unfold rowW
          simp only [Int.toNat_natCast]
          rw [List.getD_eq_getElem?_getD, el]; rfl
        rw [row]
        have lc := lc_filter (stay := (Src.seq a (hs.map .int)).stay) (g := gNm 10) (t := yOr (bT (xIsN (xOp oIx (xVar 2) (xVar 10)))) (bT (xOp oLt (xVar 5) (xOp oIx (xVar 2) (xVar 10))))) (e := e__law_order_2 F) (σ := [some (.ref p), v1, some (.ref g), some (.ref f), some (.ref dd), some (.int day), some (.int (i : Int)), some (.ref a), some (.ref b), v9, none]) (xs := hs.map .int) (h := g1)
          (pHw gone day) id (by rw [List.length_map]; have : hs.length ≤ 3 := okl.1.2.1; omega) (fun acc => decide_eq_true (listAt_app (listAt_of ea1))) (fun x hx => by
            obtain ⟨y, hy, rfl⟩ := List.mem_map.mp hx
            have yr := okl.1.2.2.2 y hy
            refine ⟨[some (.ref p), v1, some (.ref g), some (.ref f), some (.ref dd), some (.int day), some (.int (i : Int)), some (.ref a), some (.ref b), v9, some (.int y)], rfl, fun acc => ⟨?_, fun _ => by simp [zE, zL, e__law_order_2]⟩⟩
            have iy : oIx (.ref g) (.int y) (g1 ++ [.lst acc]) = .ok (oW (gone.getD y.toNat none)) (g1 ++ [.lst acc]) := by
              rw [oIx_ref (listAt_app hg1), atO yr.1 (by omega)]; rfl
            show _ = Res.ok (pH gone day y) _
            cases hz : gone.getD y.toNat none with
            | none => rw [hz] at iy; rw [pH_none hz]; simp [zE, zL, iy, oW]
            | some e => rw [hz] at iy; rw [pH_some hz]; simp [zE, zO, zL, iy, oW])
        rw [filt_w] at lc
        obtain ⟨fs, hfs⟩ : ∃ fs, hs.filter (pH gone day) = fs := ⟨_, rfl⟩
        rw [hfs] at lc
        obtain ⟨g2, hG2⟩ : ∃ g2, g1 ++ [AO.lst (fs.map .int)] = g2 := ⟨_, rfl⟩
        rw [hG2] at lc
        obtain ⟨g3, hG3⟩ : ∃ g3, g2 ++ [AO.lst []] = g3 := ⟨_, rfl⟩
        have l2 : listAt g3 g1.length = some (fs.map .int) := by rw [← hG3, ← hG2]; exact listAt_app (listAt_of get_new)
        have l3 : listAt g3 g2.length = some [] := by rw [← hG3]; exact listAt_of get_new
        have nn := ne_nil l2 l3
        have f3 : g3[f]? = some (.lst (rows ++ ((prs 0 (D.take i)).filter fun k => decide (hd k = day)).map (rowW gone L))) := by rw [← hG3, ← hG2]; exact get_app (get_app hf)
        have f2 : g2[f]? = some (.lst (rows ++ ((prs 0 (D.take i)).filter fun k => decide (hd k = day)).map (rowW gone L))) := by rw [← hG2]; exact get_app hf
        generalize hRR : rows ++ ((prs 0 (D.take i)).filter fun k => decide (hd k = day)).map (rowW gone L) = RR at f2 f3
        have ql : isLst g2 (.ref f) = true := by simp [isLst, listAt_of f2]
        have RRl : RR.length < 16777216 := by
          rw [← hRR, List.length_append, List.length_map]
          have a1 := List.length_filter_le (fun k => decide (hd k = day)) (prs 0 (D.take i))
          have a2 := prs_len (D.take i) 0
          omega
        have hv : xIf (bT (xOp (oEqD true) (xVar 9) (xLst aNil))) (xOp oIx (xVar 9) (xC (.int 0))) (xC .non) [some (.ref p), v1, some (.ref g), some (.ref f), some (.ref dd), some (.int day), some (.int (i : Int)), some (.ref a), some (.ref b), some (.ref g1.length), none] g2 = .ok (oW (heirV gone day hs)) g3 := by
          rw [heir_find, hfs]
          cases fs with
          | nil => simp [zE, zL, zP, hG3, nn, oW]
          | cons y fs =>
            have : oIx (.ref g1.length) (.int 0) g3 = .ok (.int y) g3 := by
              rw [oIx_ref l2]
              have : atI ((y :: fs).map W.int) 0 = some (.int y) := by
                unfold atI
                have := ixN_nat (m := ((y :: fs).map W.int).length) (i := 0) (by simp)
                rw [show ((0 : Nat) : Int) = 0 from rfl] at this
                rw [this]; rfl
              rw [this]; rfl
            simp [zE, zL, zP, hG3, nn, this, oW]
        refine ⟨[some (.ref p), v1, some (.ref g), some (.ref f), some (.ref dd), some (.int day), some (.int (i : Int)), some (.ref a), some (.ref b), some (.ref g1.length), none], g3.set f (.lst (RR ++ [.tup [.int day, .int (i : Int), oW (heirV gone day hs)]])), ?_, _, _, _, _, rfl, ?_, ?_⟩
        · unfold l__law_order_3
          have c1 : bT (xOp (oEqD false) (xOp oIx (xVar 4) (xVar 6)) (xVar 5)) [some (.ref p), v1, some (.ref g), some (.ref f), some (.ref dd), some (.int day), some (.int (i : Int)), some (.ref a), some (.ref b), v9, none] g1 = .ok true g1 := by
            simp [zE, zL, ix, eq]
          rw [zS.2.2.2.2.2.2.2.2.2.2.2.2.2.1, c1]
          rw [zS.2.2.2.2.2.2.2.2.2.2.2.2.2.2.1, if_pos rfl]
          refine seq_step (σ' := [some (.ref p), v1, some (.ref g), some (.ref f), some (.ref dd), some (.int day), some (.int (i : Int)), some (.ref a), some (.ref b), some (.ref g1.length), none]) (h' := g2) ?_ ?_
          · simp [zE, zS, zO, zI, zL, zP, zB, iSeqK_ref (listAt_of ea1), Src.items, wpW, lc]
          · exact app_any rfl ql (tup_ok (acons_ok rfl (acons_ok rfl (acons_ok hv rfl))) (by simp)) f3 RRl
        · rw [← hG3, ← hG2]; exact fr.app.app.set (by omega)
        · rw [← List.append_assoc, hRR]; exact get_set f3
      · have rw1 : ((prs 0 (D.take (i + 1))).filter fun k => decide (hd k = day)) = ((prs 0 (D.take i)).filter fun k => decide (hd k = day)) := by
          rw [tk, prs_snoc, List.filter_append]
          cases o with
          | none => simp
          | some z =>
            have : ¬ z = day := fun e => hod (by rw [e])
            simp [hd, this]
        rw [rw1]
        refine ⟨[some (.ref p), v1, some (.ref g), some (.ref f), some (.ref dd), some (.int day), some (.int (i : Int)), some (.ref a), some (.ref b), v9, none], g1, ?_, _, _, _, _, rfl, fr, hf⟩
        simp [zE, zS, zL, zP, zB, l__law_order_3, ix, eq, hod])
  have nl : (numW ws).length = L.length := by simp [numW, rl]
  rw [nl, List.take_of_length_le (by omega)] at hf2
  refine ⟨g2, w6, w7, w8, w9, ?_, fr2, hf2⟩
  have hp1 := fr.lst hp (j := p) (by omega)
  simp [zE, zS, zL, zP, zB, zG, l__law_order_4, enK_ref hp1, Src.items, e]
end
end Q
set_option Elab.async false
set_option linter.all false
set_option maxRecDepth 100000
set_option maxHeartbeats 4000000
namespace Q
open PySem L2 Z
theorem some_filt : ∀ D : List (Option Int), ((D.map oW).filter fun w => match w with | .non => false | _ => true).map id = (somes D).map .int
  | [] => rfl
  | none :: D => by simpa [oW, somes] using some_filt D
  | some x :: D => by
    have := some_filt D
    simp only [List.map_cons, oW, List.filter_cons, if_true, somes, List.filterMap_cons, id] at this ⊢
    rw [this]
theorem somes_len (D : List (Option Int)) : (somes D).length ≤ D.length := List.length_filterMap_le _ _
def OrdOk (φ : List W → AH → Res W) : Prop := ∀ (h : AH) (p q g : Nat) (ws : List W) (L : List Lt) (ds gone : List (Option Int)), listAt h p = some ws → RepI h ws L → listAt h q = some (ds.map oW) → ds.length = 6 → okFrom 0 L → L.length ≤ 40 → listAt h g = some (gone.map oW) → gone.length = 10 →
  ∃ G, φ [.ref p, .ref q, .ref g] h = .ok (.ref h.length) (h ++ G) ∧ (h ++ G)[h.length]? = some (.lst (outW gone ds L))
theorem lst_lt {h : AH} {n : Nat} {xs : List W} (e : listAt h n = some xs) : n < h.length := by
  rcases Nat.lt_or_ge n h.length with q | q
  · exact q
  · unfold listAt at e; rw [List.getElem?_eq_none q] at e; cases e
theorem order_ok (F : Fenv) (hU : ∀ (h : AH) (p q : Nat) (ws : List W) (L : List Lt) (ds : List (Option Int)), listAt h p = some ws → RepI h ws L → listAt h q = some (ds.map oW) → ds.length = 6 → okFrom 0 L → L.length ≤ 100 → F n__law_dues [.ref p, .ref q] h = .ok (.ref h.length) (h ++ [.lst ((dues ds L).map oW)])) : OrdOk (runB 11 (c__law_order F)) := by
  intro h p q g ws L ds gone hp R hq hd6 ok lL hg lg
  have e1 := hU (h ++ [.lst []]) p q ws L ds (listAt_app hp) R.app (listAt_app hq) hd6 ok (by omega)
  obtain ⟨D, hD⟩ : ∃ D, dues ds L = D := ⟨_, rfl⟩
  have lD : D.length = L.length := by rw [← hD, dues_len]
  rw [hD] at e1
  obtain ⟨h1, hE1⟩ : ∃ h1, h ++ [AO.lst []] ++ [AO.lst (D.map oW)] = h1 := ⟨_, rfl⟩
  have l0 : (h ++ [AO.lst []]).length = h.length + 1 := by simp
  rw [hE1, l0] at e1
  have d1 : listAt h1 (h.length + 1) = some (D.map oW) := by rw [← hE1, ← l0]; exact listAt_of get_new
  have lc := lc_filter (stay := (Src.seq (h.length + 1) (D.map oW)).stay) (g := gNm 10) (t := bT (xNotN (xVar 10))) (e := e__law_order_1 F) (σ := [some (.ref p), some (.ref q), some (.ref g), some (.ref h.length), some (.ref (h.length + 1)), none, none, none, none, none, none]) (xs := D.map oW) (h := h1)
    (fun w => match w with | .non => false | _ => true) id (by rw [List.length_map]; omega) (fun acc => decide_eq_true (listAt_app d1)) (fun x hx => by
      obtain ⟨o, _, rfl⟩ := List.mem_map.mp hx
      refine ⟨[some (.ref p), some (.ref q), some (.ref g), some (.ref h.length), some (.ref (h.length + 1)), none, none, none, none, none, some (oW o)], rfl, fun acc => ⟨?_, fun _ => by simp [zE, zL, e__law_order_1]⟩⟩
      cases o <;> simp [zE, zL, oW])
  rw [some_filt D] at lc
  obtain ⟨h2, hE2⟩ : ∃ h2, h1 ++ [AO.lst ((somes D).map .int)] = h2 := ⟨_, rfl⟩
  rw [hE2] at lc
  have s2 : listAt h2 h1.length = some ((somes D).map .int) := by rw [← hE2]; exact listAt_of get_new
  have sl := somes_len D
  have nl := nD_len (somes D)
  have st := srtS_at s2 (by omega) (by omega)
  obtain ⟨days, hds⟩ : ∃ days, srtZ (nD (somes D)) = days := ⟨_, rfl⟩
  rw [hds] at st
  obtain ⟨h3, hE3⟩ : ∃ h3, h2 ++ [AO.lst (days.map .int)] = h3 := ⟨_, rfl⟩
  rw [hE3] at st
  have k3 : listAt h3 h2.length = some (days.map .int) := by rw [← hE3]; exact listAt_of get_new
  have dl : days.length ≤ 40 := by rw [← hds, (srtZ_perm _).length_eq]; omega
  have up : ∀ {n : Nat} {xs : List W}, listAt h n = some xs → listAt h3 n = some xs := fun e => by rw [← hE3, ← hE2, ← hE1]; exact listAt_app (listAt_app (listAt_app (listAt_app e)))
  have R3 : RepI h3 ws L := by rw [← hE3, ← hE2, ← hE1]; exact R.app.app.app.app
  have D3 : listAt h3 (h.length + 1) = some (D.map oW) := by rw [← hE3, ← hE2]; exact listAt_app (listAt_app d1)
  have f3 : h3[h.length]? = some (.lst []) := by rw [← hE3, ← hE2, ← hE1]; exact get_app (get_app (get_app get_new))
  have l1 : h1.length = h.length + 2 := by rw [← hE1]; simp
  have l2 : h2.length = h.length + 3 := by rw [← hE2]; simp [l1]
  have fr03 : Fr 0 0 h h3 := by rw [← hE3, ← hE2, ← hE1]; exact fr_app.app.app.app
  have tot : ∀ (ks : List Int) (j : Nat), (∀ d ∈ ks, True) → ((ks.take j).flatMap fun d => (prs 0 D).filter fun k => decide (Q.hd k = d)).length ≤ j * 40 := by
    intro ks j _
    have : ∀ (es : List Int), (es.flatMap fun d => (prs 0 D).filter fun k => decide (Q.hd k = d)).length ≤ es.length * 40 := by
      intro es
      induction es with
      | nil => simp
      | cons d es ih =>
        rw [List.flatMap_cons, List.length_append, List.length_cons]
        have a1 := List.length_filter_le (fun k => decide (Q.hd k = d)) (prs 0 D)
        have a2 := prs_len D 0
        omega
    refine Nat.le_trans (this _) ?_
    exact Nat.mul_le_mul_right 40 (by simp; omega)
  obtain ⟨σ', h4, e4, w5, w6, w7, w8, w9, rfl, fr4, f4⟩ := loop_inv (stay := (Src.seq h2.length (days.map .int)).stay) (g := gNm 5) (body := l__law_order_4 F) (xs := days.map .int)
    (σ := [some (.ref p), some (.ref q), some (.ref g), some (.ref h.length), some (.ref (h.length + 1)), none, none, none, none, none, none]) (h := h3)
    (fun j σ g4 => ∃ w5 w6 w7 w8 w9, σ = [some (.ref p), some (.ref q), some (.ref g), some (.ref h.length), some (.ref (h.length + 1)), w5, w6, w7, w8, w9, none] ∧ Fr h.length (h.length + 1) h3 g4 ∧ g4[h.length]? = some (.lst (((days.take j).flatMap fun d => (prs 0 D).filter fun k => decide (Q.hd k = d)).map (rowW gone L))))
    ⟨none, none, none, none, none, rfl, .refl, f3⟩ (fun j σ g4 _ iv => by
      obtain ⟨_, _, _, _, _, _, fr, _⟩ := iv
      exact decide_eq_true (fr.lst k3 (by omega))) (by
      rintro j x σ g4 hx ⟨w5, w6, w7, w8, w9, rfl, fr, f4⟩
      rw [List.getElem?_map] at hx
      cases hdj : days[j]? with
      | none => rw [hdj] at hx; cases hx
      | some d =>
        rw [hdj] at hx; cases hx
        have jl := get_lt hdj
        have tl := tot days j (fun _ _ => trivial)
        obtain ⟨g5, u6, u7, u8, u9, e5, fr5, f5⟩ := order_in F (up hp) R3 (up hg) lg D3 lD lL ok (Nat.ne_of_lt (lst_lt hp)) (Nat.ne_of_lt (lst_lt hg)) (by omega) (fun a ha => Nat.ne_of_lt (R.lt a ha)) d fr f4 (by rw [List.length_map]; omega) (some (.ref q)) w6 w7 w8 w9 none
        refine ⟨_, rfl, _, g5, e5, some (.int d), u6, u7, u8, u9, rfl, fr5, ?_⟩
        rw [f5, take_succ' hdj, List.flatMap_append, List.map_append]
        simp)
  rw [List.length_map, List.take_length] at f4
  have res : ((days.flatMap fun d => (prs 0 D).filter fun k => decide (Q.hd k = d)).map (rowW gone L)) = outW gone ds L := by
    unfold outW
    rw [hD, ← ord_eq D, ← hds]
    rfl
  rw [res] at f4
  have fr04 : Fr 0 0 h h4 := by
    refine ⟨Nat.le_trans fr03.len fr4.len, fun j hj k => ?_⟩
    rw [fr4.get j (Nat.lt_of_lt_of_le hj fr03.len) (.inl hj), fr03.get j hj k]
  obtain ⟨G, hG⟩ := fr_ext fr04
  refine ⟨G, ?_, by rw [← hG]; exact f4⟩
  rw [← hG]
  have P : c__law_order F (startW 11 [.ref p, .ref q, .ref g]) h = .ok (.rt (.ref h.length)) h4 := by
    unfold c__law_order
    refine seq_step (σ' := [some (.ref p), some (.ref q), some (.ref g), some (.ref h.length), some (.ref (h.length + 1)), none, none, none, none, none, none]) (h' := h1) ?_ ?_
    · simp [zE, zS, zO, zI, zL, zP, zB, e1]
    refine seq_step (σ' := _) (h' := _) (Eq.trans ?_ e4) ?_
    · simp [zE, zS, zO, zI, zL, zP, zB, zSrt, iSeqK_ref d1, Src.items, wpW, lc, st, iSeqK_ref k3]
    · simp [zE, zS, zO, zI, zL, zP, zB]
  rw [zS.2.2.2.2.2.2.2.2.2.2.2.2.2.2.2.2.2.2.2.2.2.2.2.2.1, P]
  rfl
/-! ### what is told is data -/
theorem row_dat {h : AH} {n : Nat} (gone : List (Option Int)) (L : List Lt) (k : List Int) : ∃ d, dat h (n + 2) (rowW gone L k) = some d ∧ d.canLay0 = true := by
  unfold rowW
  split
  · exact ⟨_, dat_tup (ds := [.int _, .int _, oD _]) (by unfold optAll optAll optAll optAll; rw [dat_oW]; rfl), can_tup fun d hd => by
      simp at hd
      rcases hd with rfl | rfl | rfl
      · rfl
      · rfl
      · exact oD_can _⟩
  · exact ⟨.none, rfl, rfl⟩
theorem rows_dat {h : AH} {n : Nat} : ∀ {ws : List W}, (∀ w ∈ ws, ∃ d, dat h n w = some d ∧ d.canLay0 = true) → ∃ ds, optAll (dat h n) ws = some ds ∧ ∀ d ∈ ds, d.canLay0 = true
  | [], _ => ⟨[], rfl, fun _ h => nomatch h⟩
  | w :: ws, k => by
    obtain ⟨d, e1, e2⟩ := k w List.mem_cons_self
    obtain ⟨ds, e3, e4⟩ := rows_dat fun x hx => k x (List.mem_cons_of_mem _ hx)
    refine ⟨d :: ds, by unfold optAll; rw [e1, e3], fun x hx => ?_⟩
    rcases List.mem_cons.mp hx with rfl | hx
    · exact e2
    · exact e4 x hx
theorem out_same {h : AH} {a b : Nat} {gone ds : List (Option Int)} {L : List Lt} (ea : listAt h a = some (outW gone ds L)) (eb : listAt h b = some (outW gone ds L)) (B : Bool) : oEqD B (.ref a) (.ref b) h = .ok (.bl (!B)) h := by
  obtain ⟨es, e1, e2⟩ := rows_dat (h := h) (n := 8) (ws := outW gone ds L) fun w hw => by
    obtain ⟨k, _, rfl⟩ := List.mem_map.mp hw
    exact row_dat (n := 6) gone L k
  exact eq_lists ea eb e1 e2 B
end Q
set_option Elab.async false
set_option linter.all false
set_option maxRecDepth 100000
set_option maxHeartbeats 4000000
namespace Q
open PySem L2 Z
structure H04 (F : Fenv) : Prop where
  letters : ∀ (ns : List Int) (s : Nat) (h : AH) (b : Int), Scr ns → listAt h s = some (ns.map .int) → 0 ≤ b → b ≤ 10 → F n__law_letters [.ref s, .int b, .int 40] h = .ok (.ref (h.length + 2)) (h ++ ([.lst [], .lst ((lCells ns).map .int), .lst (lFound (h.length + 3) (lMany ns b 40).toNat)] ++ lObjs (lNo ns b) (lKind ns b) (lMany ns b 40).toNat))
  days : ∀ (ns : List Int) (s : Nat) (h : AH) (b : Int), Scr ns → listAt h s = some (ns.map .int) → 0 ≤ b → b ≤ 10 → F n__law_days [.ref s, .int b] h = .ok (.ref (h.length + 2)) (h ++ [.lst [], .lst ((lCells ns).map .int), .lst ((lDays ns b 6).map oW)])
  copied : ∀ (h : AH) (p : Nat) (ws : List W) (L : List Lt), listAt h p = some ws → RepI h ws L → L.length ≤ 100 → F n__law_copied [.ref p] h = .ok (.ref h.length) (h ++ ([.lst (lFound (h.length + 1) L.length)] ++ objs L))
  dues : ∀ (h : AH) (p q : Nat) (ws : List W) (L : List Lt) (ds : List (Option Int)), listAt h p = some ws → RepI h ws L → listAt h q = some (ds.map oW) → ds.length = 6 → okFrom 0 L → L.length ≤ 100 → F n__law_dues [.ref p, .ref q] h = .ok (.ref h.length) (h ++ [.lst ((Q.dues ds L).map oW)])
  gone : ∀ (ns : List Int) (s d : Nat) (h : AH) (D : List (Option Int)) (b : Int), Scr ns → listAt h s = some (ns.map .int) → listAt h d = some (D.map oW) → D.length ≤ 40 → 0 ≤ b → b ≤ 10 → ∃ G r gs, F n__law_gone [.ref s, .int b, .ref d] h = .ok (.ref r) (h ++ G) ∧ (h ++ G)[r]? = some (.lst (gs.map oW)) ∧ okG gs ∧ h.length ≤ r
  order : OrdOk (F n__law_order)
  hand : HandOk (F n_handed_out)
theorem h04_fenv (k : Nat) : H04 (fenv (k + 8)) where
  letters := fun ns s h b Sc hs b0 b1 => law_letters (fenv (k + 7)) (fun c a w h a0 a1 hc => law_number (fenv (k + 6)) c a w h a0 a1 hc) (fun n a kk h k0 k1 => law_letter (fenv (k + 6)) (fun n a kk h k0 k1 => law_term (fenv (k + 5)) n a kk h k0 k1) n a kk h k0 k1) Sc hs b0 b1 (by decide) (by decide)
  days := fun ns s h b Sc hs b0 b1 => law_days (fenv (k + 7)) (fun c a w h a0 a1 hc => law_number (fenv (k + 6)) c a w h a0 a1 hc) Sc hs b0 b1
  copied := fun h p ws L hp R hL => law_copied (fenv (k + 7)) hp R hL
  dues := fun h p q ws L ds hp R hq hd ok hL => law_dues (fenv (k + 7)) hp R hq hd ok hL
  gone := fun ns s d h D b Sc hs hd hD b0 b1 => law_gone (fenv (k + 7)) (fun c a w h a0 a1 hc => law_number (fenv (k + 6)) c a w h a0 a1 hc) Sc hs hd hD b0 b1
  order := order_ok (fenv (k + 7)) fun h p q ws L ds hp R hq hd ok hL => law_dues (fenv (k + 6)) hp R hq hd ok hL
  hand := hand_fenv k
structure St4 (h : AH) (ns : List Int) (p1 q1 g1 p2 q2 g2 r : Nat) (L L2 : List Lt) (ds gs gs2 : List (Option Int)) : Prop where
  scr : h[0]? = some (.fro (ns.map .int))
  b1 : Blk h p1 L
  d1 : h[q1]? = some (.lst (ds.map oW))
  s1 : h[g1]? = some (.lst (gs.map oW))
  b2 : Blk h p2 L2
  d2 : h[q2]? = some (.lst (ds.map oW))
  s2 : h[g2]? = some (.lst (gs2.map oW))
  ro : h[r]? = some (.lst [.ref p2, .ref q2, .ref g2])
  o0 : 0 < p2
  o1 : p1 + 2 * L.length < p2
  o2 : q1 < p2
  o3 : g1 < p2
  o4 : p2 + 2 * L2.length < q2
  o5 : q2 < g2
  o6 : g2 < r
section
variable {h h' : AH} {ns : List Int} {p1 q1 g1 p2 q2 g2 r : Nat} {L L2 : List Lt} {ds gs gs2 : List (Option Int)}
theorem St4.fr (S : St4 h ns p1 q1 g1 p2 q2 g2 r L L2 ds gs gs2) {lo hi : Nat} (f : Fr lo hi h h') (k : r < lo) : St4 h' ns p1 q1 g1 p2 q2 g2 r L L2 ds gs gs2 := by
  have h0 := S.o0; have h1 := S.o1; have h2 := S.o2; have h3 := S.o3; have h4 := S.o4; have h5 := S.o5; have h6 := S.o6
  exact ⟨f.at S.scr (by omega), S.b1.fr f (by omega), f.at S.d1 (by omega), f.at S.s1 (by omega), S.b2.fr f (by omega), f.at S.d2 (by omega), f.at S.s2 (by omega), f.at S.ro (by omega), h0, h1, h2, h3, h4, h5, h6⟩
theorem St4.app {G : AH} (S : St4 h ns p1 q1 g1 p2 q2 g2 r L L2 ds gs gs2) : St4 (h ++ G) ns p1 q1 g1 p2 q2 g2 r L L2 ds gs gs2 := S.fr (lo := h.length) (hi := h.length) fr_app (get_lt S.ro)
theorem St4.ix0 (S : St4 h ns p1 q1 g1 p2 q2 g2 r L L2 ds gs gs2) : oIx (.ref r) (.int 0) h = .ok (.ref p2) h := by rw [oIx_ref (listAt_of S.ro)]; rfl
theorem St4.ix1 (S : St4 h ns p1 q1 g1 p2 q2 g2 r L L2 ds gs gs2) : oIx (.ref r) (.int 1) h = .ok (.ref q2) h := by rw [oIx_ref (listAt_of S.ro)]; rfl
theorem St4.ix2 (S : St4 h ns p1 q1 g1 p2 q2 g2 r L L2 ds gs gs2) : oIx (.ref r) (.int 2) h = .ok (.ref g2) h := by rw [oIx_ref (listAt_of S.ro)]; rfl
end
theorem rowW_tup {gone D : List (Option Int)} {L : List Lt} {k : List Int} (hk : k ∈ srtI (prs 0 D)) : ∃ xs, rowW gone L k = .tup xs := by
  obtain ⟨j, x, _, rfl⟩ := prs_mem (srt_mem.mp hk)
  exact ⟨_, rfl⟩
section
variable (F : Fenv) (H : H04 F)
include H in
theorem again_turn {h : AH} {ns : List Int} {p1 q1 g1 p2 q2 g2 r : Nat} {L : List Lt} {ds gs : List (Option Int)} (S : St4 h ns p1 q1 g1 p2 q2 g2 r L L ds gs gs) (ok : okFrom 0 L) (l1 : 1 ≤ L.length) (l2 : L.length ≤ 40) (okd : okDs ds) (okg : okG gs) (v0 v1 v2 v5 v8 v9 v10 : Option W) :
    ∃ h' v9', l_law_2 F [v0, v1, v2, some (.ref p1), some (.ref q1), v5, some (.ref g1), some (.ref r), v8, v9, v10, none] h = .ok (.nx [v0, v1, v2, some (.ref p1), some (.ref q1), v5, some (.ref g1), some (.ref r), v8, v9', v10, none]) h' ∧ St4 h' ns p1 q1 g1 p2 q2 g2 r L L ds gs gs ∧ Fr 0 0 h h' := by
  obtain ⟨G1, r1, e1, k1, hr1⟩ := H.hand h p2 q2 g2 _ L ds gs S.b2.at S.b2.rep (listAt_of S.d2) okd ok l1 l2 (listAt_of S.s2) okg.1 okg.2
  have S1 := S.app (G := G1)
  obtain ⟨ha, hA⟩ : ∃ ha, h ++ G1 = ha := ⟨_, rfl⟩
  rw [hA] at e1 k1 S1
  obtain ⟨G2, e2, k2⟩ := H.order ha p1 q1 g1 _ L ds gs S1.b1.at S1.b1.rep (listAt_of S1.d1) okd.1 ok l2 (listAt_of S1.s1) okg.1
  have S2 := S1.app (G := G2)
  have k1b : (ha ++ G2)[r1]? = some (.lst (outW gs ds L)) := get_app k1
  obtain ⟨hb, hB⟩ : ∃ hb, ha ++ G2 = hb := ⟨_, rfl⟩
  rw [hB] at e2 k2 S2 k1b
  have c1 := out_same (listAt_of k1b) (listAt_of k2) true
  obtain ⟨hc, hC⟩ : ∃ hc, hb ++ [AO.lst [.ref p1, .ref q1, .ref g1]] = hc := ⟨_, rfl⟩
  have S3 : St4 hc ns p1 q1 g1 p2 q2 g2 r L L ds gs gs := by rw [← hC]; exact S2.app
  have k3 : hc[hb.length]? = some (.lst [.ref p1, .ref q1, .ref g1]) := by rw [← hC]; exact get_new
  have k1c : hc[r1]? = some (.lst (outW gs ds L)) := by rw [← hC]; exact get_app k1b
  have da : dat hc 9 (.ref r) = some (.list [lettersD L, opsD ds, opsD gs]) := dat_list (n := 8) (listAt_of S3.ro) (by
    unfold optAll optAll optAll optAll
    rw [S3.b2.dat (n := 3), dat_ops (n := 6) (listAt_of S3.d2), dat_ops (n := 6) (listAt_of S3.s2)])
  have db : dat hc 9 (.ref hb.length) = some (.list [lettersD L, opsD ds, opsD gs]) := dat_list (n := 8) (listAt_of k3) (by
    unfold optAll optAll optAll optAll
    rw [S3.b1.dat (n := 3), dat_ops (n := 6) (listAt_of S3.d1), dat_ops (n := 6) (listAt_of S3.s1)])
  have c2 := eq_same da db (can_list fun d hd => by
    simp at hd
    rcases hd with rfl | rfl | rfl
    · exact lettersD_can L
    · exact opsD_can ds
    · exact opsD_can gs) true
  have ol : (outW gs ds L).length ≤ 40 := by
    unfold outW
    rw [List.length_map, srt_len]
    have := prs_len (dues ds L) 0
    have := dues_len ds L
    omega
  have lc := lc_map (stay := (Src.seq r1 (outW gs ds L)).stay) (g := gNm 11) (e := e_law_1 F) (σ := [v0, v1, v2, some (.ref p1), some (.ref q1), v5, some (.ref g1), some (.ref r), v8, some (.ref r1), v10, none]) (xs := outW gs ds L) (h := hc)
    (fun _ => .bl true) (by omega) (fun acc => decide_eq_true (listAt_app (listAt_of k1c))) (fun x hx => by
      obtain ⟨k, hk, rfl⟩ := List.mem_map.mp hx
      obtain ⟨xs, e⟩ := rowW_tup (gone := gs) (L := L) hk
      rw [e]
      exact ⟨[v0, v1, v2, some (.ref p1), some (.ref q1), v5, some (.ref g1), some (.ref r), v8, some (.ref r1), v10, some (.tup xs)], rfl, fun acc => by simp [zE, zL, zK, e_law_1]⟩)
  obtain ⟨hd', hD'⟩ : ∃ hd', hc ++ [AO.lst ((outW gs ds L).map fun _ => W.bl true)] = hd' := ⟨_, rfl⟩
  rw [hD'] at lc
  have kd : listAt hd' hc.length = some ((outW gs ds L).map fun _ => W.bl true) := by rw [← hD']; exact listAt_of get_new
  have al : bAll false [.ref hc.length] hd' = .ok (.bl true) hd' := by
    have : ∀ xs : List W, optAll asBl (xs.map fun _ => W.bl true) = some (xs.map fun _ => true) := by
      intro xs
      induction xs with
      | nil => rfl
      | cons x xs ih => rw [List.map_cons]; unfold optAll; rw [ih]; rfl
    unfold bAll
    simp only [kd, this]
    simp
  have S4 : St4 hd' ns p1 q1 g1 p2 q2 g2 r L L ds gs gs := by rw [← hD']; exact S3.app
  have k1d : hd'[r1]? = some (.lst (outW gs ds L)) := by rw [← hD']; exact get_app k1c
  have rlt := get_lt S.ro
  refine ⟨hd'.set r1 (.lst (outW gs ds L ++ [.tup []])), some (.ref r1), ?_, S4.fr (lo := r1) (hi := r1 + 1) (Fr.refl.set (by omega)) (by omega), Fr.set (by rw [← hD', ← hC, ← hB, ← hA]; exact fr_app.app.app.app) (.inl hr1)⟩
  have i0 := S.ix0
  have i1 := S.ix1
  have i2 := S.ix2
  unfold l_law_2
  refine seq_step (σ' := [v0, v1, v2, some (.ref p1), some (.ref q1), v5, some (.ref g1), some (.ref r), v8, some (.ref r1), v10, none]) (h' := ha) ?_ ?_
  · simp [zE, zS, zL, zP, zB, i0, i1, i2, e1]
  refine seq_step (σ' := [v0, v1, v2, some (.ref p1), some (.ref q1), v5, some (.ref g1), some (.ref r), v8, some (.ref r1), v10, none]) (h' := hb) ?_ ?_
  · simp [zE, zS, zL, zP, zB, isi_ref (listAt_of k1), e2, c1]
  refine seq_step (σ' := [v0, v1, v2, some (.ref p1), some (.ref q1), v5, some (.ref g1), some (.ref r), v8, some (.ref r1), v10, none]) (h' := hd') ?_ ?_
  · simp [zE, zS, zL, zP, zB, hC, c2, iSeqK_ref (listAt_of k1c), Src.items, wpW, lc, al]
  · exact app_any rfl (by simp [isLst, listAt_of k1d]) (tup_ok (t := aNil) (xs := []) rfl (by simp)) k1d (by omega)
end
end Q
set_option Elab.async false
set_option linter.all false
set_option maxRecDepth 100000
set_option maxHeartbeats 4000000
namespace Q
open PySem L2 Z
theorem Blk.setH {h : AH} {b j : Nat} {L : List Lt} {hs hs' : List Int} {ts : List Tm} (B : Blk h b L) (e : L[j]? = some (hs, ts)) : Blk (h.set (b + 1 + 2 * j) (.lst (hs'.map .int))) b (L.set j (hs', ts)) := by
  have hj := get_lt e
  refine ⟨?_, fun i l q => ?_, fun i l q => ?_⟩
  · rw [List.length_set]; exact get_set_ne B.top (by omega)
  · by_cases hi : i = j
    · subst hi
      rw [List.getElem?_set_self hj] at q
      cases q
      exact get_set (B.hs i _ e)
    · rw [List.getElem?_set_ne (fun z => hi z.symm)] at q
      exact get_set_ne (B.hs i l q) (by omega)
  · by_cases hi : i = j
    · subst hi
      rw [List.getElem?_set_self hj] at q
      cases q
      exact get_set_ne (show h[b + 2 + 2 * i]? = some (.lst (ts.map Tm.w)) from B.ts i (hs, ts) e) (by omega)
    · rw [List.getElem?_set_ne (fun z => hi z.symm)] at q
      exact get_set_ne (B.ts i l q) (by omega)
theorem okFrom_setL : ∀ {L : List Lt} {n j : Nat} {l : Lt}, okFrom n L → okL (n + j) l → okFrom n (L.set j l)
  | [], _, _, _, h, _ => h
  | l0 :: L, n, 0, l, h, k => ⟨k, h.2⟩
  | l0 :: L, n, j + 1, l, h, k => ⟨h.1, okFrom_setL (L := L) (n := n + 1) h.2 (by rw [show n + 1 + j = n + (j + 1) by omega]; exact k)⟩
theorem okL_rev {n : Nat} {hs : List Int} {ts : List Tm} (h : okL n (hs, ts)) : okL n (hs.reverse, ts) := by
  obtain ⟨⟨a, b, c, d⟩, e⟩ := h
  exact ⟨⟨by simpa using a, by simpa using b, (List.reverse_perm hs).nodup_iff.mpr c, fun x hx => d x (List.mem_reverse.mp hx)⟩, e⟩
theorem okG_set' {ds : List (Option Int)} {j : Nat} {d : Int} (ok : okG ds) (h0 : 0 ≤ d) (h1 : d ≤ 60) : okG (ds.set j (some d)) := by
  refine ⟨by rw [List.length_set]; exact ok.1, fun e he => ?_⟩
  rcases List.mem_or_eq_of_mem_set he with z | z
  · exact ok.2 e z
  · cases z; exact ⟨h0, h1⟩
section
variable (F : Fenv) (H : H04 F)
include H in
theorem some_turn {h : AH} {ns : List Int} {p1 q1 g1 : Nat} {L : List Lt} {ds gs : List (Option Int)} (hs : h[0]? = some (.fro (ns.map .int))) (B1 : Blk h p1 L) (d1 : h[q1]? = some (.lst (ds.map oW))) (s1 : h[g1]? = some (.lst (gs.map oW)))
    (ok : okFrom 0 L) (l1 : 1 ≤ L.length) (l2 : L.length ≤ 40) (okd : okDs ds) (okg : okG gs) (wh : Int) (v0 v2 v5 v7 v8 v9 v10 : Option W) :
    ∃ h' w7 w8 w9, l_law_3 F [v0, some (.int wh), v2, some (.ref p1), some (.ref q1), v5, some (.ref g1), v7, v8, v9, v10, none] h = .ok (.nx [v0, some (.int wh), v2, some (.ref p1), some (.ref q1), v5, some (.ref g1), w7, w8, w9, v10, none]) h' ∧ Fr 0 0 h h' := by
  have e1 := H.copied h p1 _ L B1.at B1.rep (by omega)
  have B2 := blk_new (h := h) (g := []) (b := h.length) (L := L) rfl
  rw [List.append_nil] at B2
  have z1 : (h ++ ([AO.lst (lFound (h.length + 1) L.length)] ++ objs L)).length = h.length + 1 + 2 * L.length := by rw [List.length_append, List.length_append, objs_len]; simp; omega
  obtain ⟨h1, hE1⟩ : ∃ h1, h ++ ([AO.lst (lFound (h.length + 1) L.length)] ++ objs L) = h1 := ⟨_, rfl⟩
  have f1 : Fr 0 0 h h1 := by rw [← hE1]; exact fr_app
  rw [hE1] at e1 B2 z1
  obtain ⟨h4, hE4⟩ : ∃ h4, h1 ++ [AO.lst (ds.map oW), AO.lst (gs.map oW), AO.lst [.ref h.length, .ref h1.length, .ref (h1.length + 1)]] = h4 := ⟨_, rfl⟩
  have f4 : Fr 0 0 h h4 := by rw [← hE4]; exact f1.app
  have lB := B1.lt
  have lq := get_lt d1
  have lg := get_lt s1
  have l0 := get_lt hs
  have S4 : St4 h4 ns p1 q1 g1 h.length h1.length (h1.length + 1) (h1.length + 2) L L ds gs gs :=
    ⟨f4.at hs (by omega), B1.fr f4 (by omega), f4.at d1 (by omega), f4.at s1 (by omega), by rw [← hE4]; exact B2.app, by rw [← hE4]; exact gk 0, by rw [← hE4]; exact gk 1, by rw [← hE4]; exact gk 2, by omega, by omega, by omega, by omega, by omega, by omega, by omega⟩
  have hp2 : h.length = h.length := rfl
  generalize hP : h.length = p2 at e1 S4 f4 hE4
  generalize hQ : h1.length = q2 at S4 hE4
  -- twice
  obtain ⟨σ5, h5, e5, w8, w9, rfl, S5, f5⟩ := loop_inv (stay := fun _ => true) (g := gNm 8) (body := l_law_2 F) (xs := rngW 0 2)
    (σ := [v0, some (.int wh), v2, some (.ref p1), some (.ref q1), v5, some (.ref g1), some (.ref (q2 + 2)), v8, v9, v10, none]) (h := h4)
    (fun i σ g => ∃ w8 w9, σ = [v0, some (.int wh), v2, some (.ref p1), some (.ref q1), v5, some (.ref g1), some (.ref (q2 + 2)), w8, w9, v10, none] ∧ St4 g ns p1 q1 g1 p2 q2 (q2 + 1) (q2 + 2) L L ds gs gs ∧ Fr 0 0 h4 g)
    ⟨v8, v9, rfl, S4, .refl⟩ (fun _ _ _ _ _ => rfl) (by
      rintro i x σ g hx ⟨w8, w9, rfl, S, fS⟩
      obtain ⟨h', w9', e, S', fS'⟩ := again_turn F H S ok l1 l2 okd okg v0 (some (.int wh)) v2 v5 (some x) w9 v10
      exact ⟨_, rfl, _, h', e, some x, w9', rfl, S', fS.trans fS'⟩)
  -- another day of going
  have j0 : 0 ≤ wh % 10 := Int.emod_nonneg _ (by decide)
  have j1 : wh % 10 < 10 := Int.emod_lt_of_pos _ (by decide)
  obtain ⟨j, hj⟩ : ∃ j : Nat, (j : Int) = wh % 10 := ⟨(wh % 10).toNat, by omega⟩
  have w0 : 0 ≤ wh / 10 % 61 := Int.emod_nonneg _ (by decide)
  have w1 : wh / 10 % 61 < 61 := Int.emod_lt_of_pos _ (by decide)
  obtain ⟨gs2, hg2⟩ : ∃ gs2, gs.set j (some (wh / 10 % 61)) = gs2 := ⟨_, rfl⟩
  have okg2 : okG gs2 := by rw [← hg2]; exact okG_set' okg w0 (by omega)
  have sb := subK2_at (σ := [v0, some (.int wh), v2, some (.ref p1), some (.ref q1), v5, some (.ref g1), some (.ref (q2 + 2)), w8, w9, v10, none]) (v := .int (wh / 10 % 61)) (z := wh % 10) (j := j) S5.s2 (by rw [List.length_map, okg.1, ← hj]; exact ixN_nat (by omega))
  rw [show (gs.map oW).set j (.int (wh / 10 % 61)) = gs2.map oW by rw [← hg2, List.map_set]; rfl] at sb
  obtain ⟨h6, hE6⟩ : ∃ h6, h5.set (q2 + 1) (.lst (gs2.map oW)) = h6 := ⟨_, rfl⟩
  rw [hE6] at sb
  have f6 : Fr (q2 + 1) (q2 + 2) h5 h6 := by rw [← hE6]; exact Fr.refl.set (by omega)
  have o1 := S5.o1; have o2 := S5.o2; have o3 := S5.o3; have o4 := S5.o4
  -- heirs turned
  obtain ⟨m, hm⟩ : ∃ m, L.length = m + 1 := ⟨L.length - 1, by omega⟩
  obtain ⟨⟨hh, tt⟩, el⟩ : ∃ l, L[m]? = some l := ⟨_, List.getElem?_eq_getElem (by omega)⟩
  have B6 : Blk h6 p2 L := S5.b2.fr f6 (by omega)
  have w6 := B6.hs m _ el
  obtain ⟨h7, hE7⟩ : ∃ h7, h6.set (p2 + 1 + 2 * m) (.lst (hh.reverse.map .int)) = h7 := ⟨_, rfl⟩
  have B7 : Blk h7 p2 (L.set m (hh.reverse, tt)) := by rw [← hE7]; exact B6.setH el
  obtain ⟨L2, hL2⟩ : ∃ L2, L.set m (hh.reverse, tt) = L2 := ⟨_, rfl⟩
  rw [hL2] at B7
  have ll2 : L2.length = L.length := by rw [← hL2]; simp
  have okl := okFrom_get ok el
  have ok2 : okFrom 0 L2 := by rw [← hL2]; exact okFrom_setL ok (okL_rev okl)
  have f7 : Fr (p2 + 1 + 2 * m) (p2 + 2 + 2 * m) h6 h7 := by rw [← hE7]; exact Fr.refl.set (by omega)
  have d17 : h7[q1]? = some (.lst (ds.map oW)) := f7.at (f6.at S5.d1 (by omega)) (by omega)
  have d27 : h7[q2]? = some (.lst (ds.map oW)) := f7.at (f6.at S5.d2 (by omega)) (by omega)
  have s27 : h7[q2 + 1]? = some (.lst (gs2.map oW)) := f7.at (by rw [← hE6]; exact get_set S5.s2) (by omega)
  have ro6 : h6[q2 + 2]? = some (.lst [.ref p2, .ref q2, .ref (q2 + 1)]) := f6.at S5.ro (by omega)
  have ro7 : h7[q2 + 2]? = some (.lst [.ref p2, .ref q2, .ref (q2 + 1)]) := f7.at ro6 (by omega)
  obtain ⟨G8, r8, e8, k8, hr8⟩ := H.hand h7 p2 q2 (q2 + 1) _ L2 ds gs2 B7.at B7.rep (listAt_of d27) okd ok2 (by omega) (by omega) (listAt_of s27) okg2.1 okg2.2
  obtain ⟨h8, hE8⟩ : ∃ h8, h7 ++ G8 = h8 := ⟨_, rfl⟩
  rw [hE8] at e8 k8
  have B8 : Blk h8 p2 L2 := by rw [← hE8]; exact B7.app
  have d18 : h8[q1]? = some (.lst (ds.map oW)) := by rw [← hE8]; exact get_app d17
  have s28 : h8[q2 + 1]? = some (.lst (gs2.map oW)) := by rw [← hE8]; exact get_app s27
  have ro8 : h8[q2 + 2]? = some (.lst [.ref p2, .ref q2, .ref (q2 + 1)]) := by rw [← hE8]; exact get_app ro7
  obtain ⟨G9, e9, k9⟩ := H.order h8 p2 q1 (q2 + 1) _ L2 ds gs2 B8.at B8.rep (listAt_of d18) okd.1 ok2 (by omega) (listAt_of s28) okg2.1
  obtain ⟨h9, hE9⟩ : ∃ h9, h8 ++ G9 = h9 := ⟨_, rfl⟩
  rw [hE9] at e9 k9
  have c9 := out_same (listAt_of (show h9[r8]? = some (.lst (outW gs2 ds L2)) by rw [← hE9]; exact get_app k8)) (listAt_of k9) true
  have f05 : Fr 0 0 h h5 := f4.trans f5
  have f09 : Fr 0 0 h h9 := by
    rw [← hE9, ← hE8, ← hE7, ← hE6]
    exact ((f05.set (.inl (by omega))).set (.inl (by omega))).app.app
  have r2 : inRng 2 = true := by decide
  have t2 : ((2 : Int).toNat) = 2 := rfl
  refine ⟨h9, some (.ref (q2 + 2)), w8, w9, ?_, f09⟩
  unfold l_law_3
  refine seq_step (σ' := [v0, some (.int wh), v2, some (.ref p1), some (.ref q1), v5, some (.ref g1), some (.ref (q2 + 2)), v8, v9, v10, none]) (h' := h4) ?_ ?_
  · have x1 : listAt h1 q1 = some (ds.map oW) := listAt_of (f1.at d1 (by omega))
    have x2 : listAt (h1 ++ [AO.lst (ds.map oW)]) g1 = some (gs.map oW) := listAt_app (listAt_of (f1.at s1 (by omega)))
    simp [zE, zS, zL, zP, zB, e1, bList, x1, x2, hQ, hE4]
  refine seq_step (σ' := _) (h' := _) (Eq.trans ?_ e5) ?_
  · simp [zE, zS, zO, zI, zL, zP, zB, r2, stay_pure, Src.items, t2]
  refine seq_step (σ' := [v0, some (.int wh), v2, some (.ref p1), some (.ref q1), v5, some (.ref g1), some (.ref (q2 + 2)), w8, w9, v10, none]) (h' := h6) ?_ ?_
  · have i2 := S5.ix2
    simp [zE, zS, zO, zI, zL, zP, zB, zSb, i2, sb]
  refine seq_step (σ' := [v0, some (.int wh), v2, some (.ref p1), some (.ref q1), v5, some (.ref g1), some (.ref (q2 + 2)), w8, w9, v10, none]) (h' := h7) ?_ ?_
  · have i0 : oIx (.ref (q2 + 2)) (.int 0) h6 = .ok (.ref p2) h6 := by rw [oIx_ref (listAt_of ro6)]; rfl
    have il : oIx (.ref p2) (.int (-1)) h6 = .ok (.tup [.ref (p2 + 1 + 2 * m), .ref (p2 + 1 + 2 * m + 1)]) h6 := by
      rw [oIx_ref B6.at]
      have : atI (lFound (p2 + 1) L.length) (-1) = some (.tup [.ref (p2 + 1 + 2 * m), .ref (p2 + 1 + 2 * m + 1)]) := by
        unfold atI ixN
        rw [lFound_len, hm]
        simp [lFound]
        rw [if_pos (show (1 : Int) ≤ (m : Int) + 1 by omega), show (-1 + ((m : Int) + 1)).toNat = m by omega]
        simp
      rw [this]; rfl
    have rv : oReverse (.ref (p2 + 1 + 2 * m)) [] h6 = .ok .non h7 := by simp only [oReverse, w6]; rw [← hE7, List.map_reverse]
    have ql : isLst h6 (.ref (p2 + 1 + 2 * m)) = true := by simp [isLst, listAt_of w6]
    simp [zE, zS, zO, zI, zL, zP, zB, at2, i0, il, ql, rv]
  · have i0 : oIx (.ref (q2 + 2)) (.int 0) h7 = .ok (.ref p2) h7 := by rw [oIx_ref (listAt_of ro7)]; rfl
    have i1 : oIx (.ref (q2 + 2)) (.int 1) h7 = .ok (.ref q2) h7 := by rw [oIx_ref (listAt_of ro7)]; rfl
    have i2 : oIx (.ref (q2 + 2)) (.int 2) h7 = .ok (.ref (q2 + 1)) h7 := by rw [oIx_ref (listAt_of ro7)]; rfl
    have i3 : oIx (.ref (q2 + 2)) (.int 0) h8 = .ok (.ref p2) h8 := by rw [oIx_ref (listAt_of ro8)]; rfl
    have i4 : oIx (.ref (q2 + 2)) (.int 2) h8 = .ok (.ref (q2 + 1)) h8 := by rw [oIx_ref (listAt_of ro8)]; rfl
    simp [zE, zS, zO, zI, zL, zP, zB, i0, i1, i2, e8, i3, i4, e9, c9]
include H in
theorem by_turn {ns : List Int} (Sc : Scr ns) {h : AH} (hs : h[0]? = some (.fro (ns.map .int))) {b : Int} (b0 : 0 ≤ b) (b1 : b ≤ 10) (wh : Int) (v3 v4 v5 v6 v7 v8 v9 v10 : Option W) :
    ∃ w3 w4 w5 w6 w7 w8 w9 h', l_law_4 F [some (.ref 0), some (.int wh), some (.int b), v3, v4, v5, v6, v7, v8, v9, v10, none] h = .ok (.nx [some (.ref 0), some (.int wh), some (.int b), w3, w4, w5, w6, w7, w8, w9, v10, none]) h' ∧ h'[0]? = some (.fro (ns.map .int)) := by
  have e1 := H.letters ns 0 h b Sc (listAt_fro hs) b0 b1
  have B := letters_blk (ns := ns) (b := b) (mo := 40) (h := h) (g := [])
  rw [List.append_nil] at B
  obtain ⟨h1, hE1⟩ : ∃ h1, h ++ ([AO.lst [], AO.lst ((lCells ns).map .int), AO.lst (lFound (h.length + 3) (lMany ns b 40).toNat)] ++ lObjs (lNo ns b) (lKind ns b) (lMany ns b 40).toNat) = h1 := ⟨_, rfl⟩
  have s1 : h1[0]? = some (.fro (ns.map .int)) := by rw [← hE1]; exact get_app hs
  rw [hE1] at e1 B
  have e2 := H.days ns 0 h1 b Sc (listAt_fro s1) b0 b1
  have d2 : (h1 ++ [AO.lst [], AO.lst ((lCells ns).map .int), AO.lst ((lDays ns b 6).map oW)])[h1.length + 2]? = some (.lst ((lDays ns b 6).map oW)) := gk 2
  have B2 := B.app (g := [AO.lst [], AO.lst ((lCells ns).map .int), AO.lst ((lDays ns b 6).map oW)])
  have s2 : (h1 ++ [AO.lst [], AO.lst ((lCells ns).map .int), AO.lst ((lDays ns b 6).map oW)])[0]? = _ := get_app s1
  generalize h1 ++ [AO.lst [], AO.lst ((lCells ns).map .int), AO.lst ((lDays ns b 6).map oW)] = h2 at e2 B2 s2 d2
  have hl := many_le (ns := ns) (b := b) (mo := 40) (by decide)
  rw [← tLs_len] at hl
  have hl40 : (tLs ns b 40).length ≤ 40 := hl.2
  have ok : okFrom 0 (tLs ns b 40) := lLs_ok _ _ _
  have okd := lDays_ok ns b
  clear B
  generalize h.length + 2 = p at e1 B2
  generalize h1.length + 2 = q at e2 d2
  generalize lDays ns b 6 = ds at e2 d2 okd
  generalize tLs ns b 40 = L at B2 hl hl40 ok
  have e3 := H.dues h2 p q _ L ds B2.at B2.rep (listAt_of d2) okd.1 ok (by omega)
  obtain ⟨h3, hE3⟩ : ∃ h3, h2 ++ [AO.lst ((dues ds L).map oW)] = h3 := ⟨_, rfl⟩
  rw [hE3] at e3
  have k3 : listAt h3 h2.length = some ((dues ds L).map oW) := by rw [← hE3]; exact listAt_of get_new
  have s3 : h3[0]? = some (.fro (ns.map .int)) := by rw [← hE3]; exact get_app s2
  obtain ⟨G4, r4, gs, e4, k4, okg, _⟩ := H.gone ns 0 h2.length h3 (dues ds L) b Sc (listAt_fro s3) k3 (by rw [dues_len]; exact hl40) b0 b1
  obtain ⟨h4, hE4⟩ : ∃ h4, h3 ++ G4 = h4 := ⟨_, rfl⟩
  rw [hE4] at e4 k4
  obtain ⟨h5, hE5⟩ : ∃ h5, h4 ++ [AO.lst [.non], AO.lst ((List.replicate 10 (none : Option Int)).map oW), AO.lst [.int 0], AO.lst ((List.replicate 10 (some (0 : Int))).map oW)] = h5 := ⟨_, rfl⟩
  have f45 : Fr 0 0 h4 h5 := by rw [← hE5]; exact fr_app
  have B5 : Blk h5 p L := by rw [← hE5, ← hE4, ← hE3]; exact B2.app.app.app
  have d5 : h5[q]? = some (.lst (ds.map oW)) := by rw [← hE5, ← hE4, ← hE3]; exact get_app (get_app (get_app d2))
  have s5 : h5[0]? = some (.fro (ns.map .int)) := by rw [← hE5, ← hE4]; exact get_app (get_app s3)
  have x0 : h5[r4]? = some (.lst (gs.map oW)) := by rw [← hE5]; exact get_app k4
  have x1 : h5[h4.length + 1]? = some (.lst ((List.replicate 10 (none : Option Int)).map oW)) := by rw [← hE5]; exact gk 1
  have x2 : h5[h4.length + 3]? = some (.lst ((List.replicate 10 (some (0 : Int))).map oW)) := by rw [← hE5]; exact gk 3
  have okn : okG (List.replicate 10 (none : Option Int)) := ⟨by simp, fun d hd => by simp at hd⟩
  have okz : okG (List.replicate 10 (some (0 : Int))) := ⟨by simp, fun d hd => by simp at hd; omega⟩
  obtain ⟨σ6, h6, e6, w6, w7, w8, w9, rfl, f56⟩ := loop_inv (stay := fun _ => true) (g := gNm 6) (body := l_law_3 F) (xs := [.ref r4, .ref (h4.length + 1), .ref (h4.length + 3)])
    (σ := [some (.ref 0), some (.int wh), some (.int b), some (.ref p), some (.ref q), some (.ref r4), v6, v7, v8, v9, v10, none]) (h := h5)
    (fun i σ g => ∃ w6 w7 w8 w9, σ = [some (.ref 0), some (.int wh), some (.int b), some (.ref p), some (.ref q), some (.ref r4), w6, w7, w8, w9, v10, none] ∧ Fr 0 0 h5 g)
    ⟨v6, v7, v8, v9, rfl, .refl⟩ (fun _ _ _ _ _ => rfl) (by
      rintro i x σ g hx ⟨w6, w7, w8, w9, rfl, f⟩
      obtain ⟨g1, gg, rfl, hg1, ogg⟩ : ∃ g1 gg, x = .ref g1 ∧ h5[g1]? = some (.lst (gg.map oW)) ∧ okG gg := by
        rcases i with _ | _ | _ | i
        · simp at hx; exact ⟨r4, gs, hx.symm, x0, okg⟩
        · simp at hx; exact ⟨_, _, hx.symm, x1, okn⟩
        · simp at hx; exact ⟨_, _, hx.symm, x2, okz⟩
        · simp at hx
      obtain ⟨g', u7, u8, u9, e, f'⟩ := some_turn F H (h := g) (ns := ns) (f.at s5 (by omega)) (B5.fr f (by omega)) (f.at d5 (by omega)) (f.at hg1 (by omega)) ok hl.1 hl40 okd ogg wh (some (.ref 0)) (some (.int b)) (some (.ref r4)) w7 w8 w9 v10
      exact ⟨_, rfl, _, g', e, some (.ref g1), u7, u8, u9, rfl, f.trans f'⟩)
  refine ⟨some (.ref p), some (.ref q), some (.ref r4), w6, w7, w8, w9, h6, ?_, f56.at s5 (by omega)⟩
  have m1 : oMul (.ref h4.length) (.int 10) (h4 ++ [AO.lst [.non]]) = .ok (.ref (h4.length + 1)) (h4 ++ [AO.lst [.non], AO.lst ((List.replicate 10 (none : Option Int)).map oW)]) := by
    simp [oMul]
    rfl
  have m2 : oMul (.ref (h4.length + 2)) (.int 10) (h4 ++ [AO.lst [.non], AO.lst ((List.replicate 10 (none : Option Int)).map oW), AO.lst [.int 0]]) = .ok (.ref (h4.length + 3)) h5 := by
    have x : (h4 ++ [AO.lst [.non], AO.lst ((List.replicate 10 (none : Option Int)).map oW), AO.lst [.int 0]])[h4.length + 2]? = some (.lst [.int 0]) := gk 2
    simp only [oMul, x]
    rw [if_pos (by decide), ← hE5]
    simp
    rfl
  generalize (List.replicate 10 (none : Option Int)).map oW = n10 at m1 m2
  unfold l_law_4
  refine seq_step (σ' := [some (.ref 0), some (.int wh), some (.int b), some (.ref p), some (.ref q), v5, v6, v7, v8, v9, v10, none]) (h' := h2) ?_ ?_
  · simp [zE, zS, zL, zP, zB, e1, e2]
  refine seq_step (σ' := [some (.ref 0), some (.int wh), some (.int b), some (.ref p), some (.ref q), some (.ref r4), v6, v7, v8, v9, v10, none]) (h' := h4) ?_ ?_
  · simp [zE, zS, zL, zP, zB, e3, e4]
  · rw [← e6]
    simp [zE, zS, zO, zI, zL, zP, zB, m1, m2, stay_pure, Src.items]
end
end Q
set_option Elab.async false
set_option linter.all false
set_option maxRecDepth 100000
set_option maxHeartbeats 4000000
namespace Q
open PySem L2 Z
def La4 : List Lt := [([3, 1], [.day 5]), ([1], [.day 4]), ([2], [.when 0 0])]
def Lb4 : List Lt := [([3, 1], [.day 5]), ([3], [.day 5]), ([3], [.day 4])]
def n6 : List (Option Int) := [none, none, none, none, none, none]
def ga : List (Option Int) := [none, some 5, none, some 5, none, none, none, none, none, none]
def gb : List (Option Int) := [none, none, none, some 5, none, none, none, none, none, none]
theorem n6_ok : okDs n6 := ⟨rfl, by simp [n6]⟩
theorem ga_ok : okG ga := ⟨rfl, fun d h => by simp [ga] at h; omega⟩
theorem gb_ok : okG gb := ⟨rfl, fun d h => by simp [gb] at h; omega⟩
theorem La4_ok : okFrom 0 La4 := ⟨⟨⟨by simp, by simp, by simp, by simp⟩, by simp, by simp, by simp [okT]⟩, ⟨⟨by simp, by simp, by simp, by simp⟩, by simp, by simp, by simp [okT]⟩, ⟨⟨by simp, by simp, by simp, by simp⟩, by simp, by simp, by simp [okT]⟩, trivial⟩
theorem Lb4_ok : okFrom 0 Lb4 := ⟨⟨⟨by simp, by simp, by simp, by simp⟩, by simp, by simp, by simp [okT]⟩, ⟨⟨by simp, by simp, by simp, by simp⟩, by simp, by simp, by simp [okT]⟩, ⟨⟨by simp, by simp, by simp, by simp⟩, by simp, by simp, by simp [okT]⟩, trivial⟩
theorem outb : outW ga n6 Lb4 = [.tup [.int 4, .int 2, .int 3], .tup [.int 5, .int 0, .non], .tup [.int 5, .int 1, .non]] := by
  have h : prs 0 (dues n6 Lb4) = [[5, 0], [5, 1], [4, 2]] := by decide +kernel
  unfold outW
  rw [h, ← srtI_eq (l := [[4, 2], [5, 0], [5, 1]]) (by decide +kernel) (by decide +kernel)]
  decide +kernel
theorem outa : outW gb n6 La4 = [.tup [.int 4, .int 1, .int 1], .tup [.int 5, .int 0, .int 1]] := by
  have h : prs 0 (dues n6 La4) = [[5, 0], [4, 1]] := by decide +kernel
  unfold outW
  rw [h, ← srtI_eq (l := [[4, 1], [5, 0]]) (by decide +kernel) (by decide +kernel)]
  decide +kernel
theorem law_law (F : Fenv) (H : H04 F) {ns : List Int} (Sc : Scr ns) : ∃ h', runB 12 (c_law F) [.ref 0] [.fro (ns.map .int)] = .ok (.bl true) h' := by
  obtain ⟨σ1, h1, e1, v2, w3, w4, w5, w6, w7, w8, w9, rfl, hs1⟩ := loop_inv (stay := fun _ => true) (g := gNm 2) (body := l_law_4 F) (xs := rngW 0 2)
    (σ := [some (.ref 0), some (.int ns.sum), none, none, none, none, none, none, none, none, none, none]) (h := [.fro (ns.map .int), .lst (ns.map .int)])
    (fun i σ h => ∃ v2 w3 w4 w5 w6 w7 w8 w9, σ = [some (.ref 0), some (.int ns.sum), v2, w3, w4, w5, w6, w7, w8, w9, none, none] ∧ h[0]? = some (.fro (ns.map .int)))
    ⟨none, none, none, none, none, none, none, none, rfl, rfl⟩ (fun _ _ _ _ _ => rfl) (by
      rintro i x σ h hx ⟨v2, w3, w4, w5, w6, w7, w8, w9, rfl, hs⟩
      obtain ⟨hi, rfl⟩ := rngW_get hx
      obtain ⟨w3, w4, w5, w6, w7, w8, w9, h', e, hs'⟩ := by_turn F H Sc hs (b := 0 + (i : Int)) (by omega) (by omega) ns.sum w3 w4 w5 w6 w7 w8 w9 none
      exact ⟨_, rfl, _, h', e, _, _, _, _, _, _, _, _, rfl, hs'⟩)
  have a1 : listAt [AO.fro (ns.map W.int)] 0 = some (ns.map .int) := rfl
  have a2 : listAt [AO.fro (ns.map W.int), AO.lst (ns.map W.int)] 1 = some (ns.map .int) := rfl
  have r2 : inRng 2 = true := by decide
  have t2 : ((2 : Int).toNat) = 2 := rfl
  -- three letters
  obtain ⟨wa, hwa⟩ : ∃ wa : List W, [.tup [.ref h1.length, .ref (h1.length + 1)], .tup [.ref (h1.length + 2), .ref (h1.length + 3)], .tup [.ref (h1.length + 4), .ref (h1.length + 5)]] = wa := ⟨_, rfl⟩
  obtain ⟨h2, hE2⟩ : ∃ h2, h1 ++ [AO.lst (([3, 1] : List Int).map .int), AO.lst (([.day 5] : List Tm).map Tm.w), AO.lst (([1] : List Int).map .int), AO.lst (([.day 4] : List Tm).map Tm.w), AO.lst (([2] : List Int).map .int), AO.lst (([.when 0 0] : List Tm).map Tm.w), AO.lst wa, AO.lst [.non], AO.lst ((List.replicate 10 (none : Option Int)).map oW)] = h2 := ⟨_, rfl⟩
  have p2 : h2[h1.length + 6]? = some (.lst wa) := by rw [← hE2]; exact gk 6
  have g2 : h2[h1.length + 8]? = some (.lst ((List.replicate 10 (none : Option Int)).map oW)) := by rw [← hE2]; exact gk 8
  have R2 : RepI h2 wa La4 := by
    rw [← hwa]
    exact .cons (by rw [← hE2]; exact gk 0) (by rw [← hE2]; exact gk 1) (.cons (by rw [← hE2]; exact gk 2) (by rw [← hE2]; exact gk 3) (.cons (by rw [← hE2]; exact gk 4) (by rw [← hE2]; exact gk 5) .nil))
  have in2 : ∀ a ∈ inn wa, a < h1.length + 6 := fun a ha => by rw [← hwa] at ha; simp [inn] at ha; omega
  obtain ⟨h3, hE3⟩ : ∃ h3, h2.set (h1.length + 8) (.lst (gb.map oW)) = h3 := ⟨_, rfl⟩
  have f23 : Fr (h1.length + 8) (h1.length + 9) h2 h3 := by rw [← hE3]; exact Fr.refl.set (by omega)
  have g3 : h3[h1.length + 8]? = some (.lst (gb.map oW)) := by rw [← hE3]; exact get_set g2
  have l2 : h2.length = h1.length + 9 := by rw [← hE2]; simp
  have l3 : h3.length = h1.length + 9 := by rw [← hE3]; simpa using l2
  obtain ⟨wb, hwb⟩ : ∃ wb : List W, [.tup [.ref h3.length, .ref (h3.length + 1)], .tup [.ref (h3.length + 2), .ref (h3.length + 3)], .tup [.ref (h3.length + 4), .ref (h3.length + 5)]] = wb := ⟨_, rfl⟩
  obtain ⟨h4, hE4⟩ : ∃ h4, h3 ++ [AO.lst (([3, 1] : List Int).map .int), AO.lst (([.day 5] : List Tm).map Tm.w), AO.lst (([3] : List Int).map .int), AO.lst (([.day 5] : List Tm).map Tm.w), AO.lst (([3] : List Int).map .int), AO.lst (([.day 4] : List Tm).map Tm.w), AO.lst wb] = h4 := ⟨_, rfl⟩
  have p4 : h4[h3.length + 6]? = some (.lst wb) := by rw [← hE4]; exact gk 6
  have g4 : h4[h1.length + 8]? = some (.lst (gb.map oW)) := by rw [← hE4]; exact get_app g3
  have R4 : RepI h4 wb Lb4 := by
    rw [← hwb]
    exact .cons (by rw [← hE4]; exact gk 0) (by rw [← hE4]; exact gk 1) (.cons (by rw [← hE4]; exact gk 2) (by rw [← hE4]; exact gk 3) (.cons (by rw [← hE4]; exact gk 4) (by rw [← hE4]; exact gk 5) .nil))
  have in4 : ∀ a ∈ inn wb, h3.length ≤ a := fun a ha => by rw [← hwb] at ha; simp [inn] at ha; omega
  obtain ⟨h5, hE5⟩ : ∃ h5, h4.set (h1.length + 8) (.lst (ga.map oW)) = h5 := ⟨_, rfl⟩
  have f45 : Fr (h1.length + 8) (h1.length + 9) h4 h5 := by rw [← hE5]; exact Fr.refl.set (by omega)
  obtain ⟨h6, hE6⟩ : ∃ h6, h5 ++ [AO.lst [.non], AO.lst (n6.map oW)] = h6 := ⟨_, rfl⟩
  have g6 : h6[h1.length + 8]? = some (.lst (ga.map oW)) := by rw [← hE6, ← hE5]; exact get_app (get_set g4)
  have p6 : h6[h3.length + 6]? = some (.lst wb) := by rw [← hE6]; exact get_app (f45.at p4 (by omega))
  have R6 : RepI h6 wb Lb4 := by rw [← hE6]; exact (R4.fr f45 fun a ha => by have := in4 a ha; omega).app
  have n6' : h6[h5.length + 1]? = some (.lst (n6.map oW)) := by rw [← hE6]; exact gk 1
  obtain ⟨G7, r7, e7, k7, _⟩ := H.hand h6 (h3.length + 6) (h5.length + 1) (h1.length + 8) wb Lb4 n6 ga (listAt_of p6) R6 (listAt_of n6') n6_ok Lb4_ok (by decide) (by decide) (listAt_of g6) rfl ga_ok.2
  obtain ⟨h7, hE7⟩ : ∃ h7, h6 ++ G7 = h7 := ⟨_, rfl⟩
  rw [hE7] at e7 k7
  obtain ⟨h8, hE8⟩ : ∃ h8, h7 ++ [AO.lst (outW ga n6 Lb4)] = h8 := ⟨_, rfl⟩
  have c8 : oEqD true (.ref r7) (.ref h7.length) h8 = .ok (.bl false) h8 := out_same (listAt_of (by rw [← hE8]; exact get_app k7)) (listAt_of (by rw [← hE8]; exact get_new)) true
  have g8 : h8[h1.length + 8]? = some (.lst (ga.map oW)) := by rw [← hE8, ← hE7]; exact get_app (get_app g6)
  have f28 : Fr (h1.length + 8) (h1.length + 9) h2 h8 := by
    rw [← hE8, ← hE7, ← hE6]
    refine Fr.app (Fr.app (Fr.app ?_))
    refine f23.trans (Fr.trans (h1 := h4) ?_ f45)
    rw [← hE4]; exact fr_app
  obtain ⟨h9, hE9⟩ : ∃ h9, h8.set (h1.length + 8) (.lst (gb.map oW)) = h9 := ⟨_, rfl⟩
  have f29 : Fr (h1.length + 8) (h1.length + 9) h2 h9 := by rw [← hE9]; exact f28.set (by omega)
  have g9 : h9[h1.length + 8]? = some (.lst (gb.map oW)) := by rw [← hE9]; exact get_set g8
  obtain ⟨h10, hE10⟩ : ∃ h10, h9 ++ [AO.lst [.non], AO.lst (n6.map oW)] = h10 := ⟨_, rfl⟩
  have p10 : h10[h1.length + 6]? = some (.lst wa) := by rw [← hE10]; exact get_app (f29.at p2 (by omega))
  have R10 : RepI h10 wa La4 := by rw [← hE10]; exact (R2.fr f29 fun a ha => by have := in2 a ha; omega).app
  have n10' : h10[h9.length + 1]? = some (.lst (n6.map oW)) := by rw [← hE10]; exact gk 1
  have g10 : h10[h1.length + 8]? = some (.lst (gb.map oW)) := by rw [← hE10]; exact get_app g9
  obtain ⟨G11, r11, e11, k11, _⟩ := H.hand h10 (h1.length + 6) (h9.length + 1) (h1.length + 8) wa La4 n6 gb (listAt_of p10) R10 (listAt_of n10') n6_ok La4_ok (by decide) (by decide) (listAt_of g10) rfl gb_ok.2
  obtain ⟨h11, hE11⟩ : ∃ h11, h10 ++ G11 = h11 := ⟨_, rfl⟩
  rw [hE11] at e11 k11
  obtain ⟨h12, hE12⟩ : ∃ h12, h11 ++ [AO.lst (outW gb n6 La4)] = h12 := ⟨_, rfl⟩
  have c12 : oEqD false (.ref r11) (.ref h11.length) h12 = .ok (.bl true) h12 := out_same (listAt_of (by rw [← hE12]; exact get_app k11)) (listAt_of (by rw [← hE12]; exact get_new)) false
  refine ⟨h12, ?_⟩
  have m10 : ∀ k : AH, oMul (.ref k.length) (.int 10) (k ++ [AO.lst [.non]]) = .ok (.ref (k.length + 1)) (k ++ [AO.lst [.non], AO.lst ((List.replicate 10 (none : Option Int)).map oW)]) := fun k => by
    simp [oMul]
    rfl
  have m6 : ∀ k : AH, oMul (.ref k.length) (.int 6) (k ++ [AO.lst [.non]]) = .ok (.ref (k.length + 1)) (k ++ [AO.lst [.non], AO.lst (n6.map oW)]) := fun k => by
    simp [oMul]
    rfl
  have i3 : ixN ((List.replicate 10 (none : Option Int)).map oW).length 3 = some 3 := by decide
  have i1 : ∀ g : List (Option Int), g.length = 10 → ixN (g.map oW).length 1 = some 1 := fun g hg => by rw [List.length_map, hg]; decide
  have key : c_law F (startW 12 [.ref 0]) [.fro (ns.map .int)] = .ok (.rt (.bl true)) h12 := by
    unfold c_law
    refine seq_step (σ' := [some (.ref 0), some (.int ns.sum), none, none, none, none, none, none, none, none, none, none]) (h' := [.fro (ns.map .int), .lst (ns.map .int)]) ?_ ?_
    · simp [zE, zS, zO, zI, zL, zP, zB, slK3_ref a1, cut63 Sc.len, bSum, a2, sum_ints]
    refine seq_step (σ' := _) (h' := _) (Eq.trans ?_ e1) ?_
    · simp [zE, zS, zO, zI, zL, zP, zB, r2, stay_pure, Src.items, t2]
    refine seq_step (σ' := [some (.ref 0), some (.int ns.sum), v2, some (.ref (h1.length + 6)), w4, some (.ref (h1.length + 8)), w6, w7, w8, w9, none, none]) (h' := h2) ?_ ?_
    · simp only [List.map_cons, List.map_nil, Tm.w] at hE2
      obtain ⟨hk, hEk⟩ : ∃ hk, h1 ++ [AO.lst [.int 3, .int 1], AO.lst [.tup [.str "day", .int 5]], AO.lst [.int 1], AO.lst [.tup [.str "day", .int 4]], AO.lst [.int 2], AO.lst [.tup [.str "when", .int 0, .int 0]], AO.lst wa] = hk := ⟨_, rfl⟩
      have lk : hk.length = h1.length + 7 := by rw [← hEk]; simp
      have mk := m10 hk
      rw [lk, show hk ++ [AO.lst [.non], AO.lst ((List.replicate 10 (none : Option Int)).map oW)] = h2 by rw [← hE2, ← hEk]; simp] at mk
      have wal : wa.length = 3 := by rw [← hwa]; rfl
      simp [zE, zS, zO, zI, zL, zP, zB, hwa, wal, hEk, lk, mk]
    refine seq_step (σ' := [some (.ref 0), some (.int ns.sum), v2, some (.ref (h1.length + 6)), w4, some (.ref (h1.length + 8)), w6, w7, w8, w9, none, none]) (h' := h3) ?_ ?_
    · have sb := subK2_at (σ := [some (.ref 0), some (.int ns.sum), v2, some (.ref (h1.length + 6)), w4, some (.ref (h1.length + 8)), w6, w7, w8, w9, none, none]) (v := .int 5) (z := 3) g2 i3
      rw [show ((List.replicate 10 (none : Option Int)).map oW).set 3 (.int 5) = gb.map oW from rfl, hE3] at sb
      simp [zE, zS, zO, zI, zL, zP, zB, zSb, sb]
    refine seq_step (σ' := [some (.ref 0), some (.int ns.sum), v2, some (.ref (h1.length + 6)), w4, some (.ref (h1.length + 8)), w6, w7, w8, w9, some (.ref (h3.length + 6)), none]) (h' := h4) ?_ ?_
    · simp only [List.map_cons, List.map_nil, Tm.w] at hE4
      have wbl : wb.length = 3 := by rw [← hwb]; rfl
      simp [zE, zS, zO, zI, zL, zP, zB, hwb, wbl, hE4]
    refine seq_step (σ' := [some (.ref 0), some (.int ns.sum), v2, some (.ref (h1.length + 6)), w4, some (.ref (h1.length + 8)), w6, w7, w8, w9, some (.ref (h3.length + 6)), none]) (h' := h5) ?_ ?_
    · have sb := subK2_at (σ := [some (.ref 0), some (.int ns.sum), v2, some (.ref (h1.length + 6)), w4, some (.ref (h1.length + 8)), w6, w7, w8, w9, some (.ref (h3.length + 6)), none]) (v := .int 5) (z := 1) g4 (i1 gb rfl)
      rw [show (gb.map oW).set 1 (.int 5) = ga.map oW from rfl, hE5] at sb
      simp [zE, zS, zO, zI, zL, zP, zB, zSb, sb]
    refine seq_step (σ' := [some (.ref 0), some (.int ns.sum), v2, some (.ref (h1.length + 6)), w4, some (.ref (h1.length + 8)), w6, w7, w8, w9, some (.ref (h3.length + 6)), none]) (h' := h8) ?_ ?_
    · have mk := m6 h5
      rw [hE6] at mk
      rw [outb] at hE8
      simp [zE, zS, zO, zI, zL, zP, zB, mk, e7, hE8, c8]
    refine seq_step (σ' := [some (.ref 0), some (.int ns.sum), v2, some (.ref (h1.length + 6)), w4, some (.ref (h1.length + 8)), w6, w7, w8, w9, some (.ref (h3.length + 6)), none]) (h' := h9) ?_ ?_
    · have sb := subK2_at (σ := [some (.ref 0), some (.int ns.sum), v2, some (.ref (h1.length + 6)), w4, some (.ref (h1.length + 8)), w6, w7, w8, w9, some (.ref (h3.length + 6)), none]) (v := .non) (z := 1) g8 (i1 ga rfl)
      rw [show (ga.map oW).set 1 .non = gb.map oW from rfl, hE9] at sb
      simp [zE, zS, zO, zI, zL, zP, zB, zSb, sb]
    · have mk := m6 h9
      rw [hE10] at mk
      rw [outa] at hE12
      simp [zE, zS, zO, zI, zL, zP, zB, mk, e11, hE12, c12]
  rw [zS.2.2.2.2.2.2.2.2.2.2.2.2.2.2.2.2.2.2.2.2.2.2.2.2.1, key]
  rfl
theorem law_true (ns : List Int) (h1 : ns.length ≤ 63) (h2 : ∀ x ∈ ns, PySem.Builtin.Int.intBits x ≤ 1048576) : ∃ h', fenv 9 n_law [.ref 0] [.fro (ns.map .int)] = .ok (.bl true) h' :=
  law_law (fenv 8) (h04_fenv 0) ⟨h1, h2⟩
end Q
set_option Elab.async false
set_option linter.all false
set_option maxRecDepth 100000
set_option maxHeartbeats 0
namespace Q
open PySem PySem.Spec PyProof.Rows L2 Z

theorem tx_mk {K : PySem.W.Frag} {h : Heap} {mg : Str → Option Value} (X : K.In h) (G : h.Ns mainGlobals mg) {f0 : Addr} {od0 an0 : Option Addr} {sl0 : Array (Option Value)} {oc0 kV0 dc0 pm0 ct0 : Value} {cd0 : Value}
    {f1 : Addr} {od1 an1 : Option Addr} {sl1 : Array (Option Value)} {oc1 kV1 dc1 pm1 ct1 : Value} {cd1 : Value}
    {f2 : Addr} {od2 an2 : Option Addr} {sl2 : Array (Option Value)} {oc2 kV2 dc2 pm2 ct2 : Value} {cd2 : Value}
    {f3 : Addr} {od3 an3 : Option Addr} {sl3 : Array (Option Value)} {oc3 kV3 dc3 pm3 ct3 : Value} {cd3 : Value}
    {f4 : Addr} {od4 an4 : Option Addr} {sl4 : Array (Option Value)} {oc4 kV4 dc4 pm4 ct4 : Value} {cd4 : Value}
    {f5 : Addr} {od5 an5 : Option Addr} {sl5 : Array (Option Value)} {oc5 kV5 dc5 pm5 ct5 : Value} {cc5 : Addr}
    {ov5 : Value} {oe5 : Option Addr} {sv5 : Array (Option Value)} {vv5 : Array Value} {pp5 : Addr}
    {f6 : Addr} {od6 an6 : Option Addr} {sl6 : Array (Option Value)} {oc6 kV6 dc6 pm6 ct6 : Value} {cc6 : Addr}
    {ov6 : Value} {oe6 : Option Addr} {sv6 : Array (Option Value)} {vv6 : Array Value} {pp6 : Addr}
    {f7 : Addr} {od7 an7 : Option Addr} {sl7 : Array (Option Value)} {oc7 kV7 dc7 pm7 ct7 : Value} {cd7 : Value}
    {f8 : Addr} {od8 an8 : Option Addr} {sl8 : Array (Option Value)} {oc8 kV8 dc8 pm8 ct8 : Value} {cc8 : Addr}
    {ov8 : Value} {oe8 : Option Addr} {sv8 : Array (Option Value)} {vv8 : Array Value} {pp8 : Addr}
    {f9 : Addr} {od9 an9 : Option Addr} {sl9 : Array (Option Value)} {oc9 kV9 dc9 pm9 ct9 : Value} {cc9 : Addr}
    {ov9 : Value} {oe9 : Option Addr} {sv9 : Array (Option Value)} {vv9 : Array Value} {pp9 : Addr}
    {f10 : Addr} {od10 an10 : Option Addr} {sl10 : Array (Option Value)} {oc10 kV10 dc10 pm10 ct10 : Value} {cd10 : Value}
    {f11 : Addr} {od11 an11 : Option Addr} {sl11 : Array (Option Value)} {oc11 kV11 dc11 pm11 ct11 : Value} {cd11 : Value}
    {f12 : Addr} {od12 an12 : Option Addr} {sl12 : Array (Option Value)} {oc12 kV12 dc12 pm12 ct12 : Value} {cd12 : Value}
    {f13 : Addr} {od13 an13 : Option Addr} {sl13 : Array (Option Value)} {oc13 kV13 dc13 pm13 ct13 : Value} {cc13 : Addr}
    {ov13 : Value} {oe13 : Option Addr} {sv13 : Array (Option Value)} {vv13 : Array Value} {pp13 : Addr}
    {f14 : Addr} {od14 an14 : Option Addr} {sl14 : Array (Option Value)} {oc14 kV14 dc14 pm14 ct14 : Value} {cd14 : Value}
    {f15 : Addr} {od15 an15 : Option Addr} {sl15 : Array (Option Value)} {oc15 kV15 dc15 pm15 ct15 : Value} {cd15 : Value}
    {f16 : Addr} {od16 an16 : Option Addr} {sl16 : Array (Option Value)} {oc16 kV16 dc16 pm16 ct16 : Value} {cd16 : Value}
    {f17 : Addr} {od17 an17 : Option Addr} {sl17 : Array (Option Value)} {oc17 kV17 dc17 pm17 ct17 : Value} {cd17 : Value}
    {f18 : Addr} {od18 an18 : Option Addr} {sl18 : Array (Option Value)} {oc18 kV18 dc18 pm18 ct18 : Value} {cd18 : Value}
    {f19 : Addr} {od19 an19 : Option Addr} {sl19 : Array (Option Value)} {oc19 kV19 dc19 pm19 ct19 : Value} {cd19 : Value}
    {f20 : Addr} {od20 an20 : Option Addr} {sl20 : Array (Option Value)} {oc20 kV20 dc20 pm20 ct20 : Value} {cd20 : Value}
    {f21 : Addr} {od21 an21 : Option Addr} {sl21 : Array (Option Value)} {oc21 kV21 dc21 pm21 ct21 : Value} {cd21 : Value}
    {f22 : Addr} {od22 an22 : Option Addr} {sl22 : Array (Option Value)} {oc22 kV22 dc22 pm22 ct22 : Value} {cd22 : Value}
    {f23 : Addr} {od23 an23 : Option Addr} {sl23 : Array (Option Value)} {oc23 kV23 dc23 pm23 ct23 : Value} {cd23 : Value}
    {f24 : Addr} {od24 an24 : Option Addr} {sl24 : Array (Option Value)} {oc24 kV24 dc24 pm24 ct24 : Value} {cd24 : Value}
    {f25 : Addr} {od25 an25 : Option Addr} {sl25 : Array (Option Value)} {oc25 kV25 dc25 pm25 ct25 : Value} {cd25 : Value}
    {f26 : Addr} {od26 an26 : Option Addr} {sl26 : Array (Option Value)} {oc26 kV26 dc26 pm26 ct26 : Value} {cd26 : Value}
    {f27 : Addr} {od27 an27 : Option Addr} {sl27 : Array (Option Value)} {oc27 kV27 dc27 pm27 ct27 : Value} {cd27 : Value}
    {t_HAPPENINGS : Tok}
    {t_LAST_DAY : Tok}
    {t_LONGEST_DELAY : Tok}
    {t_MOST_HEIRS : Tok}
    {t_MOST_LETTERS : Tok}
    {t_MOST_TERMS : Tok}
    {t_PEOPLE : Tok}
    (a0 : PySem.W.nsIn K mainGlobals "is_whole" = some (some (.ref f0)))
    (l0 : K.lookup f0 = some ⟨oc0, od0, .func (PySem.W.fnOf "is_whole" "is_whole" (defArgs s_is_whole) (defBody s_is_whole) (defScope s_is_whole) .none kV0 dc0 pm0 an0 cd0 ct0), sl0⟩) (c0 : PySem.W.codeIn K cd0 "is_whole" = true) (k0 : PySem.W.keepIn K (.ref f0) = true)
    (a1 : PySem.W.nsIn K mainGlobals "is_day" = some (some (.ref f1)))
    (l1 : K.lookup f1 = some ⟨oc1, od1, .func (PySem.W.fnOf "is_day" "is_day" (defArgs s_is_day) (defBody s_is_day) (defScope s_is_day) .none kV1 dc1 pm1 an1 cd1 ct1), sl1⟩) (c1 : PySem.W.codeIn K cd1 "is_day" = true) (k1 : PySem.W.keepIn K (.ref f1) = true)
    (a2 : PySem.W.nsIn K mainGlobals "is_happening" = some (some (.ref f2)))
    (l2 : K.lookup f2 = some ⟨oc2, od2, .func (PySem.W.fnOf "is_happening" "is_happening" (defArgs s_is_happening) (defBody s_is_happening) (defScope s_is_happening) .none kV2 dc2 pm2 an2 cd2 ct2), sl2⟩) (c2 : PySem.W.codeIn K cd2 "is_happening" = true) (k2 : PySem.W.keepIn K (.ref f2) = true)
    (a3 : PySem.W.nsIn K mainGlobals "is_person" = some (some (.ref f3)))
    (l3 : K.lookup f3 = some ⟨oc3, od3, .func (PySem.W.fnOf "is_person" "is_person" (defArgs s_is_person) (defBody s_is_person) (defScope s_is_person) .none kV3 dc3 pm3 an3 cd3 ct3), sl3⟩) (c3 : PySem.W.codeIn K cd3 "is_person" = true) (k3 : PySem.W.keepIn K (.ref f3) = true)
    (a4 : PySem.W.nsIn K mainGlobals "is_term" = some (some (.ref f4)))
    (l4 : K.lookup f4 = some ⟨oc4, od4, .func (PySem.W.fnOf "is_term" "is_term" (defArgs s_is_term) (defBody s_is_term) (defScope s_is_term) .none kV4 dc4 pm4 an4 cd4 ct4), sl4⟩) (c4 : PySem.W.codeIn K cd4 "is_term" = true) (k4 : PySem.W.keepIn K (.ref f4) = true)
    (a5 : PySem.W.nsIn K mainGlobals "are_heirs" = some (some (.ref f5)))
    (l5 : K.lookup f5 = some ⟨oc5, od5, .func (PySem.W.fnOf "are_heirs" "are_heirs" (defArgs s_are_heirs) (defBody s_are_heirs) (defScope s_are_heirs) .none kV5 dc5 pm5 an5 (.ref cc5) ct5), sl5⟩) (c5 : PySem.W.codeIn K (.ref cc5) "are_heirs" = true) (k5 : PySem.W.keepIn K (.ref f5) = true)
    (v5 : K.lookup cc5 = some ⟨ov5, oe5, .fields vv5, sv5⟩) (w5 : (vv5[11]? : Option Value) = some (.ref pp5)) (r5 : PySem.W.tabIn K "are_heirs" = some (cc5, pp5) → PySem.W.CodeHd h cc5 pp5 ∧ h.get? pp5 = some (PySem.W.tabObj #[]))
    (a6 : PySem.W.nsIn K mainGlobals "are_terms" = some (some (.ref f6)))
    (l6 : K.lookup f6 = some ⟨oc6, od6, .func (PySem.W.fnOf "are_terms" "are_terms" (defArgs s_are_terms) (defBody s_are_terms) (defScope s_are_terms) .none kV6 dc6 pm6 an6 (.ref cc6) ct6), sl6⟩) (c6 : PySem.W.codeIn K (.ref cc6) "are_terms" = true) (k6 : PySem.W.keepIn K (.ref f6) = true)
    (v6 : K.lookup cc6 = some ⟨ov6, oe6, .fields vv6, sv6⟩) (w6 : (vv6[11]? : Option Value) = some (.ref pp6)) (r6 : PySem.W.tabIn K "are_terms" = some (cc6, pp6) → PySem.W.CodeHd h cc6 pp6 ∧ h.get? pp6 = some (PySem.W.tabObj #[]))
    (a7 : PySem.W.nsIn K mainGlobals "is_letter" = some (some (.ref f7)))
    (l7 : K.lookup f7 = some ⟨oc7, od7, .func (PySem.W.fnOf "is_letter" "is_letter" (defArgs s_is_letter) (defBody s_is_letter) (defScope s_is_letter) .none kV7 dc7 pm7 an7 cd7 ct7), sl7⟩) (c7 : PySem.W.codeIn K cd7 "is_letter" = true) (k7 : PySem.W.keepIn K (.ref f7) = true)
    (a8 : PySem.W.nsIn K mainGlobals "are_letters" = some (some (.ref f8)))
    (l8 : K.lookup f8 = some ⟨oc8, od8, .func (PySem.W.fnOf "are_letters" "are_letters" (defArgs s_are_letters) (defBody s_are_letters) (defScope s_are_letters) .none kV8 dc8 pm8 an8 (.ref cc8) ct8), sl8⟩) (c8 : PySem.W.codeIn K (.ref cc8) "are_letters" = true) (k8 : PySem.W.keepIn K (.ref f8) = true)
    (v8 : K.lookup cc8 = some ⟨ov8, oe8, .fields vv8, sv8⟩) (w8 : (vv8[11]? : Option Value) = some (.ref pp8)) (r8 : PySem.W.tabIn K "are_letters" = some (cc8, pp8) → PySem.W.CodeHd h cc8 pp8 ∧ h.get? pp8 = some (PySem.W.tabObj #[]))
    (a9 : PySem.W.nsIn K mainGlobals "are_days" = some (some (.ref f9)))
    (l9 : K.lookup f9 = some ⟨oc9, od9, .func (PySem.W.fnOf "are_days" "are_days" (defArgs s_are_days) (defBody s_are_days) (defScope s_are_days) .none kV9 dc9 pm9 an9 (.ref cc9) ct9), sl9⟩) (c9 : PySem.W.codeIn K (.ref cc9) "are_days" = true) (k9 : PySem.W.keepIn K (.ref f9) = true)
    (v9 : K.lookup cc9 = some ⟨ov9, oe9, .fields vv9, sv9⟩) (w9 : (vv9[11]? : Option Value) = some (.ref pp9)) (r9 : PySem.W.tabIn K "are_days" = some (cc9, pp9) → PySem.W.CodeHd h cc9 pp9 ∧ h.get? pp9 = some (PySem.W.tabObj #[]))
    (a10 : PySem.W.nsIn K mainGlobals "term_day" = some (some (.ref f10)))
    (l10 : K.lookup f10 = some ⟨oc10, od10, .func (PySem.W.fnOf "term_day" "term_day" (defArgs s_term_day) (defBody s_term_day) (defScope s_term_day) .none kV10 dc10 pm10 an10 cd10 ct10), sl10⟩) (c10 : PySem.W.codeIn K cd10 "term_day" = true) (k10 : PySem.W.keepIn K (.ref f10) = true)
    (a11 : PySem.W.nsIn K mainGlobals "letter_day" = some (some (.ref f11)))
    (l11 : K.lookup f11 = some ⟨oc11, od11, .func (PySem.W.fnOf "letter_day" "letter_day" (defArgs s_letter_day) (defBody s_letter_day) (defScope s_letter_day) .none kV11 dc11 pm11 an11 cd11 ct11), sl11⟩) (c11 : PySem.W.codeIn K cd11 "letter_day" = true) (k11 : PySem.W.keepIn K (.ref f11) = true)
    (a12 : PySem.W.nsIn K mainGlobals "letter_days" = some (some (.ref f12)))
    (l12 : K.lookup f12 = some ⟨oc12, od12, .func (PySem.W.fnOf "letter_days" "letter_days" (defArgs s_letter_days) (defBody s_letter_days) (defScope s_letter_days) .none kV12 dc12 pm12 an12 cd12 ct12), sl12⟩) (c12 : PySem.W.codeIn K cd12 "letter_days" = true) (k12 : PySem.W.keepIn K (.ref f12) = true)
    (a13 : PySem.W.nsIn K mainGlobals "in_order" = some (some (.ref f13)))
    (l13 : K.lookup f13 = some ⟨oc13, od13, .func (PySem.W.fnOf "in_order" "in_order" (defArgs s_in_order) (defBody s_in_order) (defScope s_in_order) .none kV13 dc13 pm13 an13 (.ref cc13) ct13), sl13⟩) (c13 : PySem.W.codeIn K (.ref cc13) "in_order" = true) (k13 : PySem.W.keepIn K (.ref f13) = true)
    (v13 : K.lookup cc13 = some ⟨ov13, oe13, .fields vv13, sv13⟩) (w13 : (vv13[11]? : Option Value) = some (.ref pp13)) (r13 : PySem.W.tabIn K "in_order" = some (cc13, pp13) → PySem.W.CodeHd h cc13 pp13 ∧ h.get? pp13 = some (PySem.W.tabObj #[]))
    (a14 : PySem.W.nsIn K mainGlobals "first_heir" = some (some (.ref f14)))
    (l14 : K.lookup f14 = some ⟨oc14, od14, .func (PySem.W.fnOf "first_heir" "first_heir" (defArgs s_first_heir) (defBody s_first_heir) (defScope s_first_heir) .none kV14 dc14 pm14 an14 cd14 ct14), sl14⟩) (c14 : PySem.W.codeIn K cd14 "first_heir" = true) (k14 : PySem.W.keepIn K (.ref f14) = true)
    (a15 : PySem.W.nsIn K mainGlobals "handed_out" = some (some (.ref f15)))
    (l15 : K.lookup f15 = some ⟨oc15, od15, .func (PySem.W.fnOf "handed_out" "handed_out" (defArgs s_handed_out) (defBody s_handed_out) (defScope s_handed_out) .none kV15 dc15 pm15 an15 cd15 ct15), sl15⟩) (c15 : PySem.W.codeIn K cd15 "handed_out" = true) (k15 : PySem.W.keepIn K (.ref f15) = true)
    (a16 : PySem.W.nsIn K mainGlobals "check_letters" = some (some (.ref f16)))
    (l16 : K.lookup f16 = some ⟨oc16, od16, .func (PySem.W.fnOf "check_letters" "check_letters" (defArgs s_check_letters) (defBody s_check_letters) (defScope s_check_letters) .none kV16 dc16 pm16 an16 cd16 ct16), sl16⟩) (c16 : PySem.W.codeIn K cd16 "check_letters" = true) (k16 : PySem.W.keepIn K (.ref f16) = true)
    (a17 : PySem.W.nsIn K mainGlobals "check_days" = some (some (.ref f17)))
    (l17 : K.lookup f17 = some ⟨oc17, od17, .func (PySem.W.fnOf "check_days" "check_days" (defArgs s_check_days) (defBody s_check_days) (defScope s_check_days) .none kV17 dc17 pm17 an17 cd17 ct17), sl17⟩) (c17 : PySem.W.codeIn K cd17 "check_days" = true) (k17 : PySem.W.keepIn K (.ref f17) = true)
    (a18 : PySem.W.nsIn K mainGlobals "_law_number" = some (some (.ref f18)))
    (l18 : K.lookup f18 = some ⟨oc18, od18, .func (PySem.W.fnOf "_law_number" "_law_number" (defArgs s__law_number) (defBody s__law_number) (defScope s__law_number) .none kV18 dc18 pm18 an18 cd18 ct18), sl18⟩) (c18 : PySem.W.codeIn K cd18 "_law_number" = true) (k18 : PySem.W.keepIn K (.ref f18) = true)
    (a19 : PySem.W.nsIn K mainGlobals "_law_term" = some (some (.ref f19)))
    (l19 : K.lookup f19 = some ⟨oc19, od19, .func (PySem.W.fnOf "_law_term" "_law_term" (defArgs s__law_term) (defBody s__law_term) (defScope s__law_term) .none kV19 dc19 pm19 an19 cd19 ct19), sl19⟩) (c19 : PySem.W.codeIn K cd19 "_law_term" = true) (k19 : PySem.W.keepIn K (.ref f19) = true)
    (a20 : PySem.W.nsIn K mainGlobals "_law_letter" = some (some (.ref f20)))
    (l20 : K.lookup f20 = some ⟨oc20, od20, .func (PySem.W.fnOf "_law_letter" "_law_letter" (defArgs s__law_letter) (defBody s__law_letter) (defScope s__law_letter) .none kV20 dc20 pm20 an20 cd20 ct20), sl20⟩) (c20 : PySem.W.codeIn K cd20 "_law_letter" = true) (k20 : PySem.W.keepIn K (.ref f20) = true)
    (a21 : PySem.W.nsIn K mainGlobals "_law_letters" = some (some (.ref f21)))
    (l21 : K.lookup f21 = some ⟨oc21, od21, .func (PySem.W.fnOf "_law_letters" "_law_letters" (defArgs s__law_letters) (defBody s__law_letters) (defScope s__law_letters) .none kV21 dc21 pm21 an21 cd21 ct21), sl21⟩) (c21 : PySem.W.codeIn K cd21 "_law_letters" = true) (k21 : PySem.W.keepIn K (.ref f21) = true)
    (a22 : PySem.W.nsIn K mainGlobals "_law_days" = some (some (.ref f22)))
    (l22 : K.lookup f22 = some ⟨oc22, od22, .func (PySem.W.fnOf "_law_days" "_law_days" (defArgs s__law_days) (defBody s__law_days) (defScope s__law_days) .none kV22 dc22 pm22 an22 cd22 ct22), sl22⟩) (c22 : PySem.W.codeIn K cd22 "_law_days" = true) (k22 : PySem.W.keepIn K (.ref f22) = true)
    (a23 : PySem.W.nsIn K mainGlobals "_law_copied" = some (some (.ref f23)))
    (l23 : K.lookup f23 = some ⟨oc23, od23, .func (PySem.W.fnOf "_law_copied" "_law_copied" (defArgs s__law_copied) (defBody s__law_copied) (defScope s__law_copied) .none kV23 dc23 pm23 an23 cd23 ct23), sl23⟩) (c23 : PySem.W.codeIn K cd23 "_law_copied" = true) (k23 : PySem.W.keepIn K (.ref f23) = true)
    (a24 : PySem.W.nsIn K mainGlobals "_law_dues" = some (some (.ref f24)))
    (l24 : K.lookup f24 = some ⟨oc24, od24, .func (PySem.W.fnOf "_law_dues" "_law_dues" (defArgs s__law_dues) (defBody s__law_dues) (defScope s__law_dues) .none kV24 dc24 pm24 an24 cd24 ct24), sl24⟩) (c24 : PySem.W.codeIn K cd24 "_law_dues" = true) (k24 : PySem.W.keepIn K (.ref f24) = true)
    (a25 : PySem.W.nsIn K mainGlobals "_law_gone" = some (some (.ref f25)))
    (l25 : K.lookup f25 = some ⟨oc25, od25, .func (PySem.W.fnOf "_law_gone" "_law_gone" (defArgs s__law_gone) (defBody s__law_gone) (defScope s__law_gone) .none kV25 dc25 pm25 an25 cd25 ct25), sl25⟩) (c25 : PySem.W.codeIn K cd25 "_law_gone" = true) (k25 : PySem.W.keepIn K (.ref f25) = true)
    (a26 : PySem.W.nsIn K mainGlobals "_law_order" = some (some (.ref f26)))
    (l26 : K.lookup f26 = some ⟨oc26, od26, .func (PySem.W.fnOf "_law_order" "_law_order" (defArgs s__law_order) (defBody s__law_order) (defScope s__law_order) .none kV26 dc26 pm26 an26 cd26 ct26), sl26⟩) (c26 : PySem.W.codeIn K cd26 "_law_order" = true) (k26 : PySem.W.keepIn K (.ref f26) = true)
    (a27 : PySem.W.nsIn K mainGlobals "law" = some (some (.ref f27)))
    (l27 : K.lookup f27 = some ⟨oc27, od27, .func (PySem.W.fnOf "law" "law" (defArgs s_law) (defBody s_law) (defScope s_law) .none kV27 dc27 pm27 an27 cd27 ct27), sl27⟩) (c27 : PySem.W.codeIn K cd27 "law" = true) (k27 : PySem.W.keepIn K (.ref f27) = true)
    (z_all : PySem.W.nsIn K mainGlobals "all" = some none)
    (z_bool : PySem.W.nsIn K mainGlobals "bool" = some none)
    (z_enumerate : PySem.W.nsIn K mainGlobals "enumerate" = some none)
    (z_int : PySem.W.nsIn K mainGlobals "int" = some none)
    (z_isinstance : PySem.W.nsIn K mainGlobals "isinstance" = some none)
    (z_len : PySem.W.nsIn K mainGlobals "len" = some none)
    (z_list : PySem.W.nsIn K mainGlobals "list" = some none)
    (z_max : PySem.W.nsIn K mainGlobals "max" = some none)
    (z_min : PySem.W.nsIn K mainGlobals "min" = some none)
    (z_range : PySem.W.nsIn K mainGlobals "range" = some none)
    (z_set : PySem.W.nsIn K mainGlobals "set" = some none)
    (z_sorted : PySem.W.nsIn K mainGlobals "sorted" = some none)
    (z_str : PySem.W.nsIn K mainGlobals "str" = some none)
    (z_sum : PySem.W.nsIn K mainGlobals "sum" = some none)
    (z_tuple : PySem.W.nsIn K mainGlobals "tuple" = some none)
    (g_HAPPENINGS : PySem.W.nsIn K mainGlobals "HAPPENINGS" = some (some (.int 6 t_HAPPENINGS)))
    (g_LAST_DAY : PySem.W.nsIn K mainGlobals "LAST_DAY" = some (some (.int 60 t_LAST_DAY)))
    (g_LONGEST_DELAY : PySem.W.nsIn K mainGlobals "LONGEST_DELAY" = some (some (.int 20 t_LONGEST_DELAY)))
    (g_MOST_HEIRS : PySem.W.nsIn K mainGlobals "MOST_HEIRS" = some (some (.int 3 t_MOST_HEIRS)))
    (g_MOST_LETTERS : PySem.W.nsIn K mainGlobals "MOST_LETTERS" = some (some (.int 40 t_MOST_LETTERS)))
    (g_MOST_TERMS : PySem.W.nsIn K mainGlobals "MOST_TERMS" = some (some (.int 4 t_MOST_TERMS)))
    (g_PEOPLE : PySem.W.nsIn K mainGlobals "PEOPLE" = some (some (.int 10 t_PEOPLE))) :
    ∃ A : Ad, Tx K mg A ∧ PySem.W.TabsAt (gl A).tb h := ⟨⟨f0, PySem.W.fnOf "is_whole" "is_whole" (defArgs s_is_whole) (defBody s_is_whole) (defScope s_is_whole) .none kV0 dc0 pm0 an0 cd0 ct0, f1, PySem.W.fnOf "is_day" "is_day" (defArgs s_is_day) (defBody s_is_day) (defScope s_is_day) .none kV1 dc1 pm1 an1 cd1 ct1, f2, PySem.W.fnOf "is_happening" "is_happening" (defArgs s_is_happening) (defBody s_is_happening) (defScope s_is_happening) .none kV2 dc2 pm2 an2 cd2 ct2, f3, PySem.W.fnOf "is_person" "is_person" (defArgs s_is_person) (defBody s_is_person) (defScope s_is_person) .none kV3 dc3 pm3 an3 cd3 ct3, f4, PySem.W.fnOf "is_term" "is_term" (defArgs s_is_term) (defBody s_is_term) (defScope s_is_term) .none kV4 dc4 pm4 an4 cd4 ct4, f5, PySem.W.fnOf "are_heirs" "are_heirs" (defArgs s_are_heirs) (defBody s_are_heirs) (defScope s_are_heirs) .none kV5 dc5 pm5 an5 (.ref cc5) ct5, (cc5, pp5), f6, PySem.W.fnOf "are_terms" "are_terms" (defArgs s_are_terms) (defBody s_are_terms) (defScope s_are_terms) .none kV6 dc6 pm6 an6 (.ref cc6) ct6, (cc6, pp6), f7, PySem.W.fnOf "is_letter" "is_letter" (defArgs s_is_letter) (defBody s_is_letter) (defScope s_is_letter) .none kV7 dc7 pm7 an7 cd7 ct7, f8, PySem.W.fnOf "are_letters" "are_letters" (defArgs s_are_letters) (defBody s_are_letters) (defScope s_are_letters) .none kV8 dc8 pm8 an8 (.ref cc8) ct8, (cc8, pp8), f9, PySem.W.fnOf "are_days" "are_days" (defArgs s_are_days) (defBody s_are_days) (defScope s_are_days) .none kV9 dc9 pm9 an9 (.ref cc9) ct9, (cc9, pp9), f10, PySem.W.fnOf "term_day" "term_day" (defArgs s_term_day) (defBody s_term_day) (defScope s_term_day) .none kV10 dc10 pm10 an10 cd10 ct10, f11, PySem.W.fnOf "letter_day" "letter_day" (defArgs s_letter_day) (defBody s_letter_day) (defScope s_letter_day) .none kV11 dc11 pm11 an11 cd11 ct11, f12, PySem.W.fnOf "letter_days" "letter_days" (defArgs s_letter_days) (defBody s_letter_days) (defScope s_letter_days) .none kV12 dc12 pm12 an12 cd12 ct12, f13, PySem.W.fnOf "in_order" "in_order" (defArgs s_in_order) (defBody s_in_order) (defScope s_in_order) .none kV13 dc13 pm13 an13 (.ref cc13) ct13, (cc13, pp13), f14, PySem.W.fnOf "first_heir" "first_heir" (defArgs s_first_heir) (defBody s_first_heir) (defScope s_first_heir) .none kV14 dc14 pm14 an14 cd14 ct14, f15, PySem.W.fnOf "handed_out" "handed_out" (defArgs s_handed_out) (defBody s_handed_out) (defScope s_handed_out) .none kV15 dc15 pm15 an15 cd15 ct15, f16, PySem.W.fnOf "check_letters" "check_letters" (defArgs s_check_letters) (defBody s_check_letters) (defScope s_check_letters) .none kV16 dc16 pm16 an16 cd16 ct16, f17, PySem.W.fnOf "check_days" "check_days" (defArgs s_check_days) (defBody s_check_days) (defScope s_check_days) .none kV17 dc17 pm17 an17 cd17 ct17, f18, PySem.W.fnOf "_law_number" "_law_number" (defArgs s__law_number) (defBody s__law_number) (defScope s__law_number) .none kV18 dc18 pm18 an18 cd18 ct18, f19, PySem.W.fnOf "_law_term" "_law_term" (defArgs s__law_term) (defBody s__law_term) (defScope s__law_term) .none kV19 dc19 pm19 an19 cd19 ct19, f20, PySem.W.fnOf "_law_letter" "_law_letter" (defArgs s__law_letter) (defBody s__law_letter) (defScope s__law_letter) .none kV20 dc20 pm20 an20 cd20 ct20, f21, PySem.W.fnOf "_law_letters" "_law_letters" (defArgs s__law_letters) (defBody s__law_letters) (defScope s__law_letters) .none kV21 dc21 pm21 an21 cd21 ct21, f22, PySem.W.fnOf "_law_days" "_law_days" (defArgs s__law_days) (defBody s__law_days) (defScope s__law_days) .none kV22 dc22 pm22 an22 cd22 ct22, f23, PySem.W.fnOf "_law_copied" "_law_copied" (defArgs s__law_copied) (defBody s__law_copied) (defScope s__law_copied) .none kV23 dc23 pm23 an23 cd23 ct23, f24, PySem.W.fnOf "_law_dues" "_law_dues" (defArgs s__law_dues) (defBody s__law_dues) (defScope s__law_dues) .none kV24 dc24 pm24 an24 cd24 ct24, f25, PySem.W.fnOf "_law_gone" "_law_gone" (defArgs s__law_gone) (defBody s__law_gone) (defScope s__law_gone) .none kV25 dc25 pm25 an25 cd25 ct25, f26, PySem.W.fnOf "_law_order" "_law_order" (defArgs s__law_order) (defBody s__law_order) (defScope s__law_order) .none kV26 dc26 pm26 an26 cd26 ct26, f27, PySem.W.fnOf "law" "law" (defArgs s_law) (defBody s_law) (defScope s_law) .none kV27 dc27 pm27 an27 cd27 ct27⟩, ⟨⟨fun_mk (st := s_is_whole) l0 c0 k0, (fun_mk (st := s_is_whole) l0 c0 k0).binds (ps := ["value", "least", "most"]) fun _ _ _ _ _ _ us hl => match us, hl with | [_, _, _], _ => rfl, PySem.W.mg_of X G a0⟩,
    ⟨fun_mk (st := s_is_day) l1 c1 k1, (fun_mk (st := s_is_day) l1 c1 k1).binds (ps := ["value"]) fun _ _ _ _ _ _ us hl => match us, hl with | [_], _ => rfl, PySem.W.mg_of X G a1⟩,
    ⟨fun_mk (st := s_is_happening) l2 c2 k2, (fun_mk (st := s_is_happening) l2 c2 k2).binds (ps := ["value"]) fun _ _ _ _ _ _ us hl => match us, hl with | [_], _ => rfl, PySem.W.mg_of X G a2⟩,
    ⟨fun_mk (st := s_is_person) l3 c3 k3, (fun_mk (st := s_is_person) l3 c3 k3).binds (ps := ["value"]) fun _ _ _ _ _ _ us hl => match us, hl with | [_], _ => rfl, PySem.W.mg_of X G a3⟩,
    ⟨fun_mk (st := s_is_term) l4 c4 k4, (fun_mk (st := s_is_term) l4 c4 k4).binds (ps := ["term", "place"]) fun _ _ _ _ _ _ us hl => match us, hl with | [_, _], _ => rfl, PySem.W.mg_of X G a4⟩,
    ⟨fun_mk (st := s_are_heirs) l5 c5 k5, (fun_mk (st := s_are_heirs) l5 c5 k5).binds (ps := ["heirs"]) fun _ _ _ _ _ _ us hl => match us, hl with | [_], _ => rfl, PySem.W.mg_of X G a5⟩,
    ⟨rfl, Z.codeK X v5 (r5 (Z.tabIn_of a5 l5 rfl v5 w5)).1⟩,
    ⟨fun_mk (st := s_are_terms) l6 c6 k6, (fun_mk (st := s_are_terms) l6 c6 k6).binds (ps := ["terms", "place"]) fun _ _ _ _ _ _ us hl => match us, hl with | [_, _], _ => rfl, PySem.W.mg_of X G a6⟩,
    ⟨rfl, Z.codeK X v6 (r6 (Z.tabIn_of a6 l6 rfl v6 w6)).1⟩,
    ⟨fun_mk (st := s_is_letter) l7 c7 k7, (fun_mk (st := s_is_letter) l7 c7 k7).binds (ps := ["letter", "place"]) fun _ _ _ _ _ _ us hl => match us, hl with | [_, _], _ => rfl, PySem.W.mg_of X G a7⟩,
    ⟨fun_mk (st := s_are_letters) l8 c8 k8, (fun_mk (st := s_are_letters) l8 c8 k8).binds (ps := ["letters"]) fun _ _ _ _ _ _ us hl => match us, hl with | [_], _ => rfl, PySem.W.mg_of X G a8⟩,
    ⟨rfl, Z.codeK X v8 (r8 (Z.tabIn_of a8 l8 rfl v8 w8)).1⟩,
    ⟨fun_mk (st := s_are_days) l9 c9 k9, (fun_mk (st := s_are_days) l9 c9 k9).binds (ps := ["days", "many"]) fun _ _ _ _ _ _ us hl => match us, hl with | [_, _], _ => rfl, PySem.W.mg_of X G a9⟩,
    ⟨rfl, Z.codeK X v9 (r9 (Z.tabIn_of a9 l9 rfl v9 w9)).1⟩,
    ⟨fun_mk (st := s_term_day) l10 c10 k10, (fun_mk (st := s_term_day) l10 c10 k10).binds (ps := ["term", "days", "due"]) fun _ _ _ _ _ _ us hl => match us, hl with | [_, _, _], _ => rfl, PySem.W.mg_of X G a10⟩,
    ⟨fun_mk (st := s_letter_day) l11 c11 k11, (fun_mk (st := s_letter_day) l11 c11 k11).binds (ps := ["letter", "days", "due"]) fun _ _ _ _ _ _ us hl => match us, hl with | [_, _, _], _ => rfl, PySem.W.mg_of X G a11⟩,
    ⟨fun_mk (st := s_letter_days) l12 c12 k12, (fun_mk (st := s_letter_days) l12 c12 k12).binds (ps := ["letters", "days"]) fun _ _ _ _ _ _ us hl => match us, hl with | [_, _], _ => rfl, PySem.W.mg_of X G a12⟩,
    ⟨fun_mk (st := s_in_order) l13 c13 k13, (fun_mk (st := s_in_order) l13 c13 k13).binds (ps := ["due"]) fun _ _ _ _ _ _ us hl => match us, hl with | [_], _ => rfl, PySem.W.mg_of X G a13⟩,
    ⟨rfl, Z.codeK X v13 (r13 (Z.tabIn_of a13 l13 rfl v13 w13)).1⟩,
    ⟨fun_mk (st := s_first_heir) l14 c14 k14, (fun_mk (st := s_first_heir) l14 c14 k14).binds (ps := ["letter", "gone", "day"]) fun _ _ _ _ _ _ us hl => match us, hl with | [_, _, _], _ => rfl, PySem.W.mg_of X G a14⟩,
    ⟨fun_mk (st := s_handed_out) l15 c15 k15, (fun_mk (st := s_handed_out) l15 c15 k15).binds (ps := ["letters", "days", "gone"]) fun _ _ _ _ _ _ us hl => match us, hl with | [_, _, _], _ => rfl, PySem.W.mg_of X G a15⟩,
    ⟨fun_mk (st := s_check_letters) l16 c16 k16, (fun_mk (st := s_check_letters) l16 c16 k16).binds (ps := ["letters"]) fun _ _ _ _ _ _ us hl => match us, hl with | [_], _ => rfl, PySem.W.mg_of X G a16⟩,
    ⟨fun_mk (st := s_check_days) l17 c17 k17, (fun_mk (st := s_check_days) l17 c17 k17).binds (ps := ["days"]) fun _ _ _ _ _ _ us hl => match us, hl with | [_], _ => rfl, PySem.W.mg_of X G a17⟩,
    ⟨fun_mk (st := s__law_number) l18 c18 k18, (fun_mk (st := s__law_number) l18 c18 k18).binds (ps := ["_law_cell", "_law_at", "_law_whole"]) fun _ _ _ _ _ _ us hl => match us, hl with | [_, _, _], _ => rfl, PySem.W.mg_of X G a18⟩,
    ⟨fun_mk (st := s__law_term) l19 c19 k19, (fun_mk (st := s__law_term) l19 c19 k19).binds (ps := ["_law_number_here", "_law_at", "_law_kind"]) fun _ _ _ _ _ _ us hl => match us, hl with | [_, _, _], _ => rfl, PySem.W.mg_of X G a19⟩,
    ⟨fun_mk (st := s__law_letter) l20 c20 k20, (fun_mk (st := s__law_letter) l20 c20 k20).binds (ps := ["_law_number_here", "_law_at", "_law_kind"]) fun _ _ _ _ _ _ us hl => match us, hl with | [_, _, _], _ => rfl, PySem.W.mg_of X G a20⟩,
    ⟨fun_mk (st := s__law_letters) l21 c21 k21, (fun_mk (st := s__law_letters) l21 c21 k21).binds (ps := ["_law_script", "_law_by", "_law_most"]) fun _ _ _ _ _ _ us hl => match us, hl with | [_, _, _], _ => rfl, PySem.W.mg_of X G a21⟩,
    ⟨fun_mk (st := s__law_days) l22 c22 k22, (fun_mk (st := s__law_days) l22 c22 k22).binds (ps := ["_law_script", "_law_by"]) fun _ _ _ _ _ _ us hl => match us, hl with | [_, _], _ => rfl, PySem.W.mg_of X G a22⟩,
    ⟨fun_mk (st := s__law_copied) l23 c23 k23, (fun_mk (st := s__law_copied) l23 c23 k23).binds (ps := ["_law_letters_here"]) fun _ _ _ _ _ _ us hl => match us, hl with | [_], _ => rfl, PySem.W.mg_of X G a23⟩,
    ⟨fun_mk (st := s__law_dues) l24 c24 k24, (fun_mk (st := s__law_dues) l24 c24 k24).binds (ps := ["_law_letters_here", "_law_days_here"]) fun _ _ _ _ _ _ us hl => match us, hl with | [_, _], _ => rfl, PySem.W.mg_of X G a24⟩,
    ⟨fun_mk (st := s__law_gone) l25 c25 k25, (fun_mk (st := s__law_gone) l25 c25 k25).binds (ps := ["_law_script", "_law_by", "_law_dues_here"]) fun _ _ _ _ _ _ us hl => match us, hl with | [_, _, _], _ => rfl, PySem.W.mg_of X G a25⟩,
    ⟨fun_mk (st := s__law_order) l26 c26 k26, (fun_mk (st := s__law_order) l26 c26 k26).binds (ps := ["_law_letters_here", "_law_days_here", "_law_gone_here"]) fun _ _ _ _ _ _ us hl => match us, hl with | [_, _, _], _ => rfl, PySem.W.mg_of X G a26⟩,
    ⟨fun_mk (st := s_law) l27 c27 k27, (fun_mk (st := s_law) l27 c27 k27).binds (ps := ["_law_script"]) fun _ _ _ _ _ _ us hl => match us, hl with | [_], _ => rfl, PySem.W.mg_of X G a27⟩,
    PySem.W.mg_none_of X G z_all,
    PySem.W.mg_none_of X G z_bool,
    PySem.W.mg_none_of X G z_enumerate,
    PySem.W.mg_none_of X G z_int,
    PySem.W.mg_none_of X G z_isinstance,
    PySem.W.mg_none_of X G z_len,
    PySem.W.mg_none_of X G z_list,
    PySem.W.mg_none_of X G z_max,
    PySem.W.mg_none_of X G z_min,
    PySem.W.mg_none_of X G z_range,
    PySem.W.mg_none_of X G z_set,
    PySem.W.mg_none_of X G z_sorted,
    PySem.W.mg_none_of X G z_str,
    PySem.W.mg_none_of X G z_sum,
    PySem.W.mg_none_of X G z_tuple,
    ⟨t_HAPPENINGS, PySem.W.mg_of X G g_HAPPENINGS⟩,
    ⟨t_LAST_DAY, PySem.W.mg_of X G g_LAST_DAY⟩,
    ⟨t_LONGEST_DELAY, PySem.W.mg_of X G g_LONGEST_DELAY⟩,
    ⟨t_MOST_HEIRS, PySem.W.mg_of X G g_MOST_HEIRS⟩,
    ⟨t_MOST_LETTERS, PySem.W.mg_of X G g_MOST_LETTERS⟩,
    ⟨t_MOST_TERMS, PySem.W.mg_of X G g_MOST_TERMS⟩,
    ⟨t_PEOPLE, PySem.W.mg_of X G g_PEOPLE⟩⟩, List.forall_mem_cons.mpr ⟨r5 (Z.tabIn_of a5 l5 rfl v5 w5), List.forall_mem_cons.mpr ⟨r6 (Z.tabIn_of a6 l6 rfl v6 w6), List.forall_mem_cons.mpr ⟨r8 (Z.tabIn_of a8 l8 rfl v8 w8), List.forall_mem_cons.mpr ⟨r9 (Z.tabIn_of a9 l9 rfl v9 w9), List.forall_mem_cons.mpr ⟨r13 (Z.tabIn_of a13 l13 rfl v13 w13), fun _ q => nomatch q⟩⟩⟩⟩⟩⟩
end Q
open PySem PySem.W PyProof.Rows
theorem PySem.Challenge.cw_laterletters_k04_whole_handed_holds : PySem.Challenge.rw_laterletters_k04_whole_handed.Holds := by
  w_on; o_law; k_head; (case hw => w_witness2)
  k_fill
  refine Z.walk_Z (l := PySem.Challenge.rw_laterletters_k04_whole_handed) (n := 63) (k := 2 * 9) (x := "_law_script") (φ := Q.fenv 9 27) rfl (by decide) rfl ⟨rfl, by decide, by decide⟩ (fun w h Y => PySem.W.kIn_of Y) ?hNoT ?hFns Q.law_true
  case hNoT => intro w; kernel_rfl
  case hFns =>
    intro w mg fa h KX G hmg htab
    have T : ∃ A : Q.Ad, Q.Tx (L2.KOf KX) mg A ∧ PySem.W.TabsAt (Q.gl A).tb h := by
      dsimp only [L2.KOf]
      refine' Q.tx_mk KX G ?a0 ?l0 ?c0 ?k0 ?a1 ?l1 ?c1 ?k1 ?a2 ?l2 ?c2 ?k2 ?a3 ?l3 ?c3 ?k3 ?a4 ?l4 ?c4 ?k4 ?a5 ?l5 ?c5 ?k5 ?v5 ?w5 ?r5 ?a6 ?l6 ?c6 ?k6 ?v6 ?w6 ?r6 ?a7 ?l7 ?c7 ?k7 ?a8 ?l8 ?c8 ?k8 ?v8 ?w8 ?r8 ?a9 ?l9 ?c9 ?k9 ?v9 ?w9 ?r9 ?a10 ?l10 ?c10 ?k10 ?a11 ?l11 ?c11 ?k11 ?a12 ?l12 ?c12 ?k12 ?a13 ?l13 ?c13 ?k13 ?v13 ?w13 ?r13 ?a14 ?l14 ?c14 ?k14 ?a15 ?l15 ?c15 ?k15 ?a16 ?l16 ?c16 ?k16 ?a17 ?l17 ?c17 ?k17 ?a18 ?l18 ?c18 ?k18 ?a19 ?l19 ?c19 ?k19 ?a20 ?l20 ?c20 ?k20 ?a21 ?l21 ?c21 ?k21 ?a22 ?l22 ?c22 ?k22 ?a23 ?l23 ?c23 ?k23 ?a24 ?l24 ?c24 ?k24 ?a25 ?l25 ?c25 ?k25 ?a26 ?l26 ?c26 ?k26 ?a27 ?l27 ?c27 ?k27 ?z_all ?z_bool ?z_enumerate ?z_int ?z_isinstance ?z_len ?z_list ?z_max ?z_min ?z_range ?z_set ?z_sorted ?z_str ?z_sum ?z_tuple ?g_HAPPENINGS ?g_LAST_DAY ?g_LONGEST_DELAY ?g_MOST_HEIRS ?g_MOST_LETTERS ?g_MOST_TERMS ?g_PEOPLE
      (case a0 => k_is)
      (case l0 => k_is)
      (case c0 => k_is)
      (case k0 => k_is)
      (case a1 => k_is)
      (case l1 => k_is)
      (case c1 => k_is)
      (case k1 => k_is)
      (case a2 => k_is)
      (case l2 => k_is)
      (case c2 => k_is)
      (case k2 => k_is)
      (case a3 => k_is)
      (case l3 => k_is)
      (case c3 => k_is)
      (case k3 => k_is)
      (case a4 => k_is)
      (case l4 => k_is)
      (case c4 => k_is)
      (case k4 => k_is)
      (case a5 => k_is)
      (case l5 => k_is)
      (case c5 => k_is)
      (case k5 => k_is)
      (case v5 => k_is)
      (case w5 => rfl)
      (case r5 => exact htab "are_heirs" _ _ _ rfl)
      (case a6 => k_is)
      (case l6 => k_is)
      (case c6 => k_is)
      (case k6 => k_is)
      (case v6 => k_is)
      (case w6 => rfl)
      (case r6 => exact htab "are_terms" _ _ _ rfl)
      (case a7 => k_is)
      (case l7 => k_is)
      (case c7 => k_is)
      (case k7 => k_is)
      (case a8 => k_is)
      (case l8 => k_is)
      (case c8 => k_is)
      (case k8 => k_is)
      (case v8 => k_is)
      (case w8 => rfl)
      (case r8 => exact htab "are_letters" _ _ _ rfl)
      (case a9 => k_is)
      (case l9 => k_is)
      (case c9 => k_is)
      (case k9 => k_is)
      (case v9 => k_is)
      (case w9 => rfl)
      (case r9 => exact htab "are_days" _ _ _ rfl)
      (case a10 => k_is)
      (case l10 => k_is)
      (case c10 => k_is)
      (case k10 => k_is)
      (case a11 => k_is)
      (case l11 => k_is)
      (case c11 => k_is)
      (case k11 => k_is)
      (case a12 => k_is)
      (case l12 => k_is)
      (case c12 => k_is)
      (case k12 => k_is)
      (case a13 => k_is)
      (case l13 => k_is)
      (case c13 => k_is)
      (case k13 => k_is)
      (case v13 => k_is)
      (case w13 => rfl)
      (case r13 => exact htab "in_order" _ _ _ rfl)
      (case a14 => k_is)
      (case l14 => k_is)
      (case c14 => k_is)
      (case k14 => k_is)
      (case a15 => k_is)
      (case l15 => k_is)
      (case c15 => k_is)
      (case k15 => k_is)
      (case a16 => k_is)
      (case l16 => k_is)
      (case c16 => k_is)
      (case k16 => k_is)
      (case a17 => k_is)
      (case l17 => k_is)
      (case c17 => k_is)
      (case k17 => k_is)
      (case a18 => k_is)
      (case l18 => k_is)
      (case c18 => k_is)
      (case k18 => k_is)
      (case a19 => k_is)
      (case l19 => k_is)
      (case c19 => k_is)
      (case k19 => k_is)
      (case a20 => k_is)
      (case l20 => k_is)
      (case c20 => k_is)
      (case k20 => k_is)
      (case a21 => k_is)
      (case l21 => k_is)
      (case c21 => k_is)
      (case k21 => k_is)
      (case a22 => k_is)
      (case l22 => k_is)
      (case c22 => k_is)
      (case k22 => k_is)
      (case a23 => k_is)
      (case l23 => k_is)
      (case c23 => k_is)
      (case k23 => k_is)
      (case a24 => k_is)
      (case l24 => k_is)
      (case c24 => k_is)
      (case k24 => k_is)
      (case a25 => k_is)
      (case l25 => k_is)
      (case c25 => k_is)
      (case k25 => k_is)
      (case a26 => k_is)
      (case l26 => k_is)
      (case c26 => k_is)
      (case k26 => k_is)
      (case a27 => k_is)
      (case l27 => k_is)
      (case c27 => k_is)
      (case k27 => k_is)
      (case z_all => k_is)
      (case z_bool => k_is)
      (case z_enumerate => k_is)
      (case z_int => k_is)
      (case z_isinstance => k_is)
      (case z_len => k_is)
      (case z_list => k_is)
      (case z_max => k_is)
      (case z_min => k_is)
      (case z_range => k_is)
      (case z_set => k_is)
      (case z_sorted => k_is)
      (case z_str => k_is)
      (case z_sum => k_is)
      (case z_tuple => k_is)
      (case g_HAPPENINGS => k_is)
      (case g_LAST_DAY => k_is)
      (case g_LONGEST_DELAY => k_is)
      (case g_MOST_HEIRS => k_is)
      (case g_MOST_LETTERS => k_is)
      (case g_MOST_TERMS => k_is)
      (case g_PEOPLE => k_is)
    obtain ⟨A, T, hT⟩ := T
    have e0 := hmg.symm.trans T.f_law.m
    cases e0
    refine ⟨A.d_law, Q.gl A, hT, fun s u => ?_, fun base kb nb B => (Q.ih_all B T 9).i_law⟩
    obtain ⟨_, _, _, _, _, _, _, _, _, e, _⟩ := T.f_law.F.ex
    rw [e]
    exact .of_eq rfl
