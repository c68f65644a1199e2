import PyProof.Rows.All
import Wide.All
import OpenK.AllK
import Wide.FinOn
import Lean
import PyProof.EqAt
import PyProof.EqKinds
import PyProof.TupleCall
import PySem.Challenge.RW_storeway_k01_what_parts_make
set_option Elab.async false
set_option linter.all false
set_option maxRecDepth 100000
/-! THE HAND LAYER, for ints, bools, texts, own classes, LISTS and tuples (index, slices, in, append, pop ..), calls, loops. Paste it whole ahead of your own text; what your proof does not reach may be deleted. -/
namespace L2
open PySem PySem.Spec PyProof.Rows

/-- a key: an int or a str -/
abbrev Key := Sum Int Str
def keyIs : Key → Value → Bool
  | .inl k, v => Value.isInt k v
  | .inr x, v => Value.isStrOf x v
def keyH (w : World) : Key → Int
  | .inl k => hashInt k
  | .inr x => hashStr w x
theorem keyIs_shape : ∀ {k : Key} {v : Value}, keyIs k v = true → (∃ i t, k = Sum.inl i ∧ v = Value.int i t) ∨ (∃ x t, k = Sum.inr x ∧ v = Value.str x t)
  | .inl i, v, h => by
    obtain ⟨t, e⟩ := Value.isInt_shape (k := i) (v := v) h
    exact .inl ⟨i, t, rfl, e⟩
  | .inr x, v, h => by
    obtain ⟨t, e⟩ := Value.isStrOf_shape (x := x) (v := v) h
    exact .inr ⟨x, t, rfl, e⟩
theorem key_ll (a b : Int) : decide ((Sum.inl a : Key) = Sum.inl b) = (a == b) := by
  by_cases e : a = b
  · subst e; simp
  · have h : ¬ (Sum.inl a : Key) = Sum.inl b := fun q => e (Sum.inl.inj q)
    rw [decide_eq_false h]
    exact (beq_eq_false_iff_ne.mpr e).symm
theorem key_rr (a b : Str) : decide ((Sum.inr a : Key) = Sum.inr b) = decide (a = b) := by
  by_cases e : a = b
  · subst e; simp
  · have h : ¬ (Sum.inr a : Key) = Sum.inr b := fun q => e (Sum.inr.inj q)
    rw [decide_eq_false h, decide_eq_false e]
theorem key_lr (a : Int) (b : Str) : decide ((Sum.inl a : Key) = Sum.inr b) = false := decide_eq_false (fun q => nomatch q)
theorem key_rl (a : Str) (b : Int) : decide ((Sum.inr a : Key) = Sum.inl b) = false := decide_eq_false (fun q => nomatch q)

def mixKind (prog : Program) (w : World) : PySem.KeyKind prog w Key where
  is := keyIs
  hash := keyH w
  inj := fun v a b ha hb => by
    rcases keyIs_shape ha with ⟨i, t, rfl, rfl⟩ | ⟨x, t, rfl, rfl⟩
    · rcases keyIs_shape hb with ⟨j, u, rfl, e⟩ | ⟨y, u, rfl, e⟩
      · injection e with e1 _; rw [e1]
      · exact nomatch e
    · rcases keyIs_shape hb with ⟨j, u, rfl, e⟩ | ⟨y, u, rfl, e⟩
      · exact nomatch e
      · injection e with e1 _; rw [e1]
  byValue := fun k v h => by
    rcases keyIs_shape h with ⟨i, t, rfl, rfl⟩ | ⟨x, t, rfl, rfl⟩ <;> rfl
  pyHash := fun hv h => by
    rcases keyIs_shape hv with ⟨i, t, rfl, rfl⟩ | ⟨x, t, rfl, rfl⟩
    · exact wpAny_pyHash_int h
    · exact wpAny_pyHash_str h
  eqBool := fun hu hv h => by
    rcases keyIs_shape hu with ⟨i, t, rfl, rfl⟩ | ⟨x, t, rfl, rfl⟩
    · rcases keyIs_shape hv with ⟨j, u, rfl, rfl⟩ | ⟨y, u, rfl, rfl⟩
      · rw [key_ll] at h; exact wpAny_eqBool_int h
      · rw [key_lr] at h; exact SeqAt.EqAt.int_str i t y u _ _ _ _ h
    · rcases keyIs_shape hv with ⟨j, u, rfl, rfl⟩ | ⟨y, u, rfl, rfl⟩
      · rw [key_rl] at h; exact SeqAt.EqAt.str_int x t j u _ _ _ _ h
      · rw [key_rr] at h; exact wpAny_eqBool_str h
  «strs» := fun k x t v h => by
    rcases keyIs_shape h with ⟨i, u, rfl, e⟩ | ⟨y, u, rfl, e⟩
    · exact nomatch e
    · injection e with e1 _
      subst e1
      cases v <;> rfl

end L2

namespace L2
open PySem PySem.Spec PyProof.Rows

/-- a value, without the heap -/
inductive V where
  | non | bl (b : Bool) | int (i : Int) | str (x : Str) | byt (b : Array UInt8) | flt (b : UInt64) | ref (a : Addr) | ty (n : String)
  deriving DecidableEq

def RelV : V → Value → Prop
  | .non, u => u = Value.none
  | .bl b, u => u = Value.bool b
  | .int i, u => ∃ t, u = Value.int i t
  | .str x, u => ∃ t, u = Value.str x t
  | .byt b, u => ∃ t, u = Value.bytes b t
  | .flt b, u => ∃ t, u = Value.float b t
  | .ref a, u => u = Value.ref a
  | .ty n, u => u = Value.type n

abbrev Vals : List V → List Value → Prop := Paired RelV
theorem Vals.length {xs : List V} {us : List Value} (r : Vals xs us) : xs.length = us.length := Paired.length r
theorem Vals.get : ∀ {xs : List V} {us : List Value} {i : Nat} {x : V}, Vals xs us → xs[i]? = some x → ∃ u, us[i]? = some u ∧ RelV x u
  | _, _, _, _, .nil, e => by simp at e
  | _, _, 0, _, .cons r _, e => by simp at e; subst e; exact ⟨_, rfl, r⟩
  | _, _, i + 1, x, .cons _ t, e => by
    obtain ⟨u, h1, h2⟩ := Vals.get (i := i) (x := x) t (by simpa using e)
    exact ⟨u, by simpa using h1, h2⟩
theorem Vals.set {x : V} {u : Value} (r : RelV x u) : ∀ {xs : List V} {us : List Value} (i : Nat), Vals xs us → Vals (xs.set i x) (us.set i u)
  | _, _, _, .nil => .nil
  | _, _, 0, .cons _ t => .cons r t
  | _, _, i + 1, .cons q t => .cons q (Vals.set r i t)
theorem Vals.append : ∀ {xs ys : List V} {us ws : List Value}, Vals xs us → Vals ys ws → Vals (xs ++ ys) (us ++ ws)
  | _, _, _, _, .nil, s => s
  | _, _, _, _, .cons r t, s => .cons r (Vals.append t s)
theorem Vals.take : ∀ {xs : List V} {us : List Value} (n : Nat), Vals xs us → Vals (xs.take n) (us.take n)
  | _, _, 0, _ => .nil
  | _, _, _ + 1, .nil => .nil
  | _, _, n + 1, .cons r t => .cons r (Vals.take n t)
theorem Vals.drop : ∀ {xs : List V} {us : List Value} (n : Nat), Vals xs us → Vals (xs.drop n) (us.drop n)
  | _, _, 0, r => r
  | _, _, _ + 1, .nil => .nil
  | _, _, n + 1, .cons _ t => Vals.drop n t
theorem Vals.none_of : ∀ {xs : List V} {us : List Value} {i : Nat}, Vals xs us → xs[i]? = none → us[i]? = none := fun {xs us i} r e => by
  have h1 := r.length
  have h2 : xs.length ≤ i := List.getElem?_eq_none_iff.mp e
  exact List.getElem?_eq_none_iff.mpr (by omega)

def RelO : Option V → Option Value → Prop
  | some v, some u => RelV v u
  | none, none => True
  | _, _ => False
def KV {κ : Type} : List (κ × V) → List (κ × Value) → Prop := Paired fun (p : κ × V) (q : κ × Value) => p.1 = q.1 ∧ RelV p.2 q.2

/-- a key of a dict (00_mix): an int or a text -/
def kV : Key → V
  | .inl i => .int i
  | .inr x => .str x

/-- what stands at a tracked address -/
inductive HO where
  /-- a list -/
  | lst (xs : List V)
  /-- a tuple (never changes) -/
  | tup (xs : List V)
  /-- a dict whose keys are ints and texts; one whose keys are tuples of ints and texts (the empty one is both) -/
  | dK (kvs : List (Key × V)) | dT (kvs : List (List Key × V))
  /-- a set of ints: its members, its size -/
  | set (S : Int → Bool) (n : Nat)
  /-- an instance of the class at C, its dict at dx, its attributes -/
  | ins (C dx : Addr) (fs : List (Str × V))
  /-- the dict of the instance at x -/
  | own (x : Addr)
  /-- the dict of an exception -/
  | xd (fs : List (Str × V))
  /-- a bound method, f of x -/
  | met (f x : Addr)
  /-- a range object lo, lo + 1, .. below hi -/
  | rng (lo hi : Int)
  /-- a thing that is known to the object (the script; a dict while a loop walks it): read, never written while it is so -/
  | frz (o : Obj) (u : HO)
  /-- a code object's table -/
  | tbl (ps : Array Value)
  /-- any other thing, by what is true of its one object (a def of one's own: SetO a S n := HO.ext fun h => ..) -/
  | ext (φ : Heap → Prop)

abbrev Hp := Addr → Option HO
def upd (H : Hp) (a : Addr) (o : HO) : Hp := fun b => if b = a then some o else H b
theorem upd_same {H : Hp} {a : Addr} {o : HO} : upd H a o a = some o := by unfold upd; rw [if_pos rfl]
theorem upd_ne {H : Hp} {a b : Addr} {o : HO} (h : b ≠ a) : upd H a o b = H b := by unfold upd; rw [if_neg h]
theorem upd_upd {H : Hp} {a : Addr} {o u : HO} : upd (upd H a o) a u = upd H a u := by
  funext b; unfold upd; split <;> rfl
theorem ne_of_none {H : Hp} {a b : Addr} {o : HO} (h : H a = some o) (h' : H b = none) : a ≠ b := by
  intro e; subst e; rw [h] at h'; cases h'

section
variable (P : Program) (w : World)
def ObjOk (H : Hp) (h : Heap) (a : Addr) : HO → Prop
  | .lst xs => xs.length ≤ sizeLine ∧ ∃ (its : List Value) (n : Nat), Vals xs its ∧ h.get? a = some { cls := .type "list", data := .seq its.toArray n }
  | .tup xs => xs.length ≤ sizeLine ∧ ∃ its : List Value, Vals xs its ∧ IsTup h a its.toArray
  | .dK kvs => kvs.length ≤ sizeLine ∧ (a == sysModules) = false ∧ ∃ vs, KV kvs vs ∧ h.DictOf (mixKind P w) a vs
  | .dT kvs => kvs.length ≤ sizeLine ∧ (a == sysModules) = false ∧ ∃ xs : List (List Key × Addr × Value),
      Paired (fun (p : List Key × V) (q : List Key × Addr × Value) => p.1 = q.1 ∧ H q.2.1 = some (.tup (p.1.map kV)) ∧ RelV p.2 q.2.2) kvs xs ∧
      ∃ o es ep, h.get? a = some o ∧ o.ExactDict ∧ o.data = .dict es ep ∧ es.toList = xs.map (entryOfKey (tupleKind (mixKind P w))) ∧ (xs.map (·.1)).Nodup
  | .set S n => h.SetOf (intKind P w) a S n
  | .ins C dx fs => H dx = some (.own a) ∧ fs.length ≤ 1000 ∧ dx ≠ a ∧ h.get? a = some (PySem.W.instObj C dx) ∧
      ∃ mA, h.Ns1 dx mA ∧ (∀ f, RelO (fs.lookup f) (mA f)) ∧ PySem.Within mA (fs.map (·.1))
  | .own _ => ∃ o, h.get? a = some o
  | .xd fs => ∃ mA, h.Ns1 a mA ∧ ∀ f, RelO (fs.lookup f) (mA f)
  | .rng lo hi => ∃ t u v, h.get? a = some { cls := .type "range", data := .fields #[.int lo t, .int hi u, .int 1 v] }
  | .frz o u => h.get? a = some o ∧ ObjOk H h a u
  | .tbl ps => h.get? a = some { cls := .none, data := .fields ps }
  | .met f x => h.get? a = some (PySem.W.methodObj (.ref f) (.ref x))
  | .ext φ => φ h ∧ (∃ o, h.get? a = some o) ∧ ∀ h1 h2 : Heap, φ h1 → (∀ o, h1.get? a = some o → h2.get? a = some o) → φ h2
/-- the abstract heap is held -/
def HOk (H : Hp) (h : Heap) : Prop := ∀ a o, H a = some o → ObjOk P w H h a o
end

section
variable {P : Program} {w : World} {H H' : Hp} {h h' : Heap} {a : Addr} {o : HO}
theorem ObjOk.lt (x : ObjOk P w H h a o) : a < h.objs.size := by
  cases o with
  | lst xs => obtain ⟨_, _, _, _, e⟩ := x; exact Heap.lt_size e
  | tup xs => obtain ⟨_, _, _, p⟩ := x; exact p.lt
  | dK kvs => obtain ⟨_, _, _, _, o, _, _, e, _⟩ := x; exact Heap.lt_size e
  | dT kvs => obtain ⟨_, _, _, _, o, _, _, e, _⟩ := x; exact Heap.lt_size e
  | set S n => obtain ⟨o, _, _, _, e, _⟩ := x; exact Heap.lt_size e
  | ins C dx fs => obtain ⟨_, _, _, e, _⟩ := x; exact Heap.lt_size e
  | own y => obtain ⟨_, e⟩ := x; exact Heap.lt_size e
  | xd fs => obtain ⟨_, ⟨_, _, _, e, _⟩, _⟩ := x; exact Heap.lt_size e
  | rng lo hi => obtain ⟨_, _, _, e⟩ := x; exact Heap.lt_size e
  | frz ob u => obtain ⟨e, _⟩ := x; exact Heap.lt_size e
  | tbl ps => exact Heap.lt_size (show h.get? a = some _ from x)
  | met f y => exact Heap.lt_size (show h.get? a = some _ from x)
  | ext φ => obtain ⟨_, ⟨_, e⟩, _⟩ := x; exact Heap.lt_size e
theorem Paired.mapP {α β : Type} {F G : α → β → Prop} : ∀ {l₁ : List α} {l₂ : List β}, Paired F l₁ l₂ → (∀ a b, F a b → G a b) → Paired G l₁ l₂
  | _, _, .nil, _ => .nil
  | _, _, .cons r t, f => .cons (f _ _ r) (Paired.mapP t f)
/-- what an object's description leans on: its own object, its own dict, the tuples -/
theorem ObjOk.stay (x : ObjOk P w H h a o) (k : ∀ b u, (b = a ∨ H b = some (.own a)) → h.get? b = some u → h'.get? b = some u)
    (ho : ∀ b, H b = some (.own a) → H' b = some (.own a)) (ht : ∀ b xs, H b = some (.tup xs) → H' b = some (.tup xs)) : ObjOk P w H' h' a o := by
  induction o with
  | lst xs => obtain ⟨z, its, n, r, e⟩ := x; exact ⟨z, its, n, r, k _ _ (.inl rfl) e⟩
  | tup xs => obtain ⟨z, its, r, ob, e, c⟩ := x; exact ⟨z, its, r, ob, k _ _ (.inl rfl) e, c⟩
  | dK kvs => obtain ⟨z, y, vs, r, ob, es, ep, e, c⟩ := x; exact ⟨z, y, vs, r, ob, es, ep, k _ _ (.inl rfl) e, c⟩
  | dT kvs =>
    obtain ⟨z, y, xs, r, ob, es, ep, e, c⟩ := x
    exact ⟨z, y, xs, Paired.mapP r fun p q z => ⟨z.1, ht _ _ z.2.1, z.2.2⟩, ob, es, ep, k _ _ (.inl rfl) e, c⟩
  | set S n => obtain ⟨ob, es, ep, t, e, c⟩ := x; exact ⟨ob, es, ep, t, k _ _ (.inl rfl) e, c⟩
  | ins C dx fs =>
    obtain ⟨d, z, ne, e, mA, ⟨od, es, ep, e2, c⟩, r⟩ := x
    exact ⟨ho _ d, z, ne, k _ _ (.inl rfl) e, mA, ⟨od, es, ep, k _ _ (.inr d) e2, c⟩, r⟩
  | own y => obtain ⟨ob, e⟩ := x; exact ⟨ob, k _ _ (.inl rfl) e⟩
  | xd fs => obtain ⟨mA, ⟨od, es, ep, e, c⟩, r⟩ := x; exact ⟨mA, ⟨od, es, ep, k _ _ (.inl rfl) e, c⟩, r⟩
  | rng lo hi => obtain ⟨t, u, v, e⟩ := x; exact ⟨t, u, v, k _ _ (.inl rfl) e⟩
  | frz ob u ih => obtain ⟨e, q⟩ := x; exact ⟨k _ _ (.inl rfl) e, ih q⟩
  | tbl ps =>
    have e : h.get? a = some { cls := .none, data := .fields ps } := x
    show h'.get? a = some { cls := .none, data := .fields ps }
    exact k a _ (.inl rfl) e
  | met f y =>
    have e : h.get? a = some (PySem.W.methodObj (.ref f) (.ref y)) := x
    show h'.get? a = some (PySem.W.methodObj (.ref f) (.ref y))
    exact k a _ (.inl rfl) e
  | ext φ => obtain ⟨p, ⟨o, e⟩, st⟩ := x; exact ⟨st _ _ p fun o q => k _ _ (.inl rfl) q, ⟨o, k _ _ (.inl rfl) e⟩, st⟩
theorem HOk.lt (x : HOk P w H h) (e : H a = some o) : a < h.objs.size := (x a o e).lt
theorem HOk.fresh (x : HOk P w H h) (e : h.objs.size ≤ a) : H a = none := by
  cases q : H a with
  | none => rfl
  | some u => exact absurd (Nat.lt_of_lt_of_le (x.lt q) e) (Nat.lt_irrefl _)
/-- every object of the heap is kept -/
theorem HOk.kept (x : HOk P w H h) (k : ∀ b u, h.get? b = some u → h'.get? b = some u) : HOk P w H h' := fun a o e =>
  (x a o e).stay (fun b u _ q => k b u q) (fun _ q => q) fun _ _ q => q
/-- a new object is laid and tracked -/
theorem HOk.laid (x : HOk P w H h) (k : ∀ b u, h.get? b = some u → h'.get? b = some u) (hp : h.objs.size ≤ a) (new : ObjOk P w (upd H a o) h' a o) : HOk P w (upd H a o) h' := fun b u e => by
  have hn := x.fresh hp
  by_cases hb : b = a
  · subst hb; rw [upd_same] at e; cases e; exact new
  · rw [upd_ne hb] at e
    exact (x b u e).stay (fun c v _ q => k c v q) (fun c q => by rw [upd_ne (ne_of_none q hn)]; exact q) fun c xs q => by rw [upd_ne (ne_of_none q hn)]; exact q
end

/-- what may be read as u: it is u, or a known u -/
def Rd (H : Hp) (a : Addr) (u : HO) : Prop := H a = some u ∨ ∃ o, H a = some (.frz o u)
theorem Rd.of {H : Hp} {a : Addr} {u : HO} (h : H a = some u) : Rd H a u := .inl h
theorem Rd.ok {P : Program} {w : World} {H : Hp} {h : Heap} {a : Addr} {u : HO} (r : Rd H a u) (x : HOk P w H h) : ObjOk P w H h a u := by
  rcases r with r | ⟨o, r⟩
  · exact x a u r
  · obtain ⟨_, q⟩ := x a _ r
    exact q
/-- what may be written -/
def Mut : Option HO → Prop
  | some (.lst _) => True
  | some (.dK _) => True
  | some (.dT _) => True
  | some (.set _ _) => True
  | some (.ins _ _ _) => True
  | some (.ext _) => True
  | _ => False
section
variable {P : Program} {w : World} {H : Hp} {h h' : Heap} {x e : Addr} {o' : HO}
/-- the object at e is changed: x itself, or the dict of the instance x -/
theorem HOk.write (ok : HOk P w H h) (mu : Mut (H x)) (he : e = x ∨ H e = some (.own x)) (k : ∀ b u, b ≠ e → h.get? b = some u → h'.get? b = some u) (heo : ∃ u, h'.get? e = some u)
    (new : ObjOk P w (upd H x o') h' x o') : HOk P w (upd H x o') h' := fun b u q => by
  have nown : ∀ c y, H c = some (.own y) → c ≠ x := fun c y r z => by subst z; rw [r] at mu; exact mu
  have ntup : ∀ c xs, H c = some (.tup xs) → c ≠ x := fun c xs r z => by subst z; rw [r] at mu; exact mu
  by_cases hb : b = x
  · subst hb; rw [upd_same] at q; cases q; exact new
  · rw [upd_ne hb] at q
    by_cases hbe : b = e
    · have q' : H b = some (.own x) := by
        rcases he with z | z
        · exact absurd (hbe.trans z) hb
        · rw [hbe]; exact z
      rw [q] at q'; cases q'
      obtain ⟨v, hv⟩ := heo
      exact ⟨v, by rw [hbe]; exact hv⟩
    · refine (ok b u q).stay (fun c v hc r => k c v ?_ r) (fun c r => by rw [upd_ne (nown c b r)]; exact r) fun c xs r => by rw [upd_ne (ntup c xs r)]; exact r
      rcases hc with rfl | hc
      · exact hbe
      · rintro rfl
        rcases he with z | z
        · exact nown c b hc z
        · rw [hc] at z; cases z; exact hb rfl
end

/-! ### kept unless tracked; of the frames at fs (the callers') the slots may change (an exception that passes writes there); of the records at ex (iterators) nothing is said -/
structure Un (fs ex : List Addr) (H H' : Hp) (h h' : Heap) : Prop where
  keep : ∀ b o, h.get? b = some o → H b = none → b ∉ fs → b ∉ ex → h'.get? b = some o
  slot : ∀ b o, h.get? b = some o → H b = none → b ∈ fs → b ∉ ex → ∃ sl, h'.get? b = some { o with slots := sl }
  free : ∀ b o, h.get? b = some o → H b = none → b ∉ ex → H' b = none
  there : ∀ b o, h.get? b = some o → b ∉ ex → ∃ o', h'.get? b = some o'
  tups : ∀ b xs, H b = some (.tup xs) → H' b = some (.tup xs)
  frzs : ∀ b o u, H b = some (.frz o u) → H' b = some (.frz o u)
  tbls : ∀ b ps, H b = some (.tbl ps) → ∃ more, H' b = some (.tbl (ps ++ more))
section
variable {fs fs' ex ex' : List Addr} {H H1 H2 : Hp} {h h1 h2 h' : Heap} {a x e : Addr} {o : HO}
theorem Un.any (u : Un fs ex H H1 h h1) {b : Addr} {ob : Obj} (q : h.get? b = some ob) (n : H b = none) (hx : b ∉ ex) : ∃ sl, h1.get? b = some { ob with slots := sl } := by
  by_cases hb : b ∈ fs
  · exact u.slot b ob q n hb hx
  · exact ⟨ob.slots, u.keep b ob q n hb hx⟩
theorem Un.trans (a : Un fs ex H H1 h h1) (b : Un fs ex H1 H2 h1 h2) : Un fs ex H H2 h h2 where
  keep := fun c ob q n hc hx => b.keep c ob (a.keep c ob q n hc hx) (a.free c ob q n hx) hc hx
  slot := fun c ob q n hc hx => by
    obtain ⟨sl, e1⟩ := a.slot c ob q n hc hx
    obtain ⟨sl', e2⟩ := b.slot c _ e1 (a.free c ob q n hx) hc hx
    exact ⟨sl', e2⟩
  free := fun c ob q n hx => by
    obtain ⟨o', e1⟩ := a.there c ob q hx
    exact b.free c o' e1 (a.free c ob q n hx) hx
  there := fun c ob q hx => by
    obtain ⟨o', e1⟩ := a.there c ob q hx
    exact b.there c o' e1 hx
  tups := fun c xs q => b.tups c xs (a.tups c xs q)
  frzs := fun c ob xs q => b.frzs c ob xs (a.frzs c ob xs q)
  tbls := fun c ps q => by
    obtain ⟨m1, e1⟩ := a.tbls c ps q
    obtain ⟨m2, e2⟩ := b.tbls c _ e1
    exact ⟨m1 ++ m2, by rw [e2, Array.append_assoc]⟩
theorem Un.kept (k : ∀ b u, h.get? b = some u → h'.get? b = some u) : Un fs ex H H h h' :=
  ⟨fun b ob q _ _ _ => k b ob q, fun b ob q _ _ _ => ⟨ob.slots, k b ob q⟩, fun _ _ _ n _ => n, fun b ob q _ => ⟨ob, k b ob q⟩, fun _ _ q => q, fun _ _ _ q => q, fun _ ps q => ⟨#[], by rw [q]; simp⟩⟩
theorem Un.refl : Un fs ex H H h h := Un.kept fun _ _ q => q
theorem Un.laid (k : ∀ b u, h.get? b = some u → h'.get? b = some u) (hp : h.objs.size ≤ a) (hn : H a = none) : Un fs ex H (upd H a o) h h' where
  keep := fun b u q _ _ _ => k b u q
  slot := fun b u q _ _ _ => ⟨u.slots, k b u q⟩
  free := fun b u q n _ => by rw [upd_ne (Nat.ne_of_lt (Nat.lt_of_lt_of_le (Heap.lt_size q) hp))]; exact n
  there := fun b u q _ => ⟨u, k b u q⟩
  tups := fun b xs q => by rw [upd_ne (ne_of_none q hn)]; exact q
  frzs := fun b u xs q => by rw [upd_ne (ne_of_none q hn)]; exact q
  tbls := fun b ps q => ⟨#[], by rw [upd_ne (ne_of_none q hn), q]; simp⟩
theorem Un.write (mu : Mut (H x)) (he : e = x ∨ H e = some (.own x)) (k : ∀ b u, b ≠ e → h.get? b = some u → h'.get? b = some u) (heo : ∃ u, h'.get? e = some u) : Un fs ex H (upd H x o) h h' := by
  have hx : ∀ b, H b = none → b ≠ x := fun b n z => by subst z; rw [n] at mu; exact mu
  have hb : ∀ b, H b = none → b ≠ e := fun b n z => by
    subst z
    rcases he with r | r
    · exact hx b n r
    · rw [n] at r; cases r
  have hm : ∀ b u, H b = some u → ¬ Mut (some u) → b ≠ x := fun b u q nm z => by subst z; rw [q] at mu; exact nm mu
  refine ⟨fun b u q n _ _ => k b u (hb b n) q, fun b u q n _ _ => ⟨u.slots, k b u (hb b n) q⟩, fun b u q n _ => by rw [upd_ne (hx b n)]; exact n, fun b u q _ => ?_,
    fun b xs q => by rw [upd_ne (hm b _ q fun z => z)]; exact q, fun b u xs q => by rw [upd_ne (hm b _ q fun z => z)]; exact q, fun b ps q => ⟨#[], by rw [upd_ne (hm b _ q fun z => z), q]; simp⟩⟩
  by_cases hbe : b = e
  · subst hbe; exact heo
  · exact ⟨u, k b u hbe q⟩
theorem Un.mono (u : Un fs ex H H1 h h1) (hs : ∀ b ∈ fs, b ∈ fs') (hx : ∀ b ∈ ex, b ∈ ex') : Un fs' ex' H H1 h h1 :=
  ⟨fun b ob q n hb he => u.keep b ob q n (fun z => hb (hs b z)) fun z => he (hx b z), fun _ _ q n _ he => u.any q n fun z => he (hx _ z), fun b ob q n he => u.free b ob q n fun z => he (hx b z), fun b ob q he => u.there b ob q fun z => he (hx b z), u.tups, u.frzs, u.tbls⟩
end

/-! ### the heap without what is tracked -/
def trk (h : Heap) (H : Hp) : List Addr := (List.range h.objs.size).filter fun a => (H a).isSome
def hidT (h : Heap) (H : Hp) : Heap := PySem.W.hideAll h (trk h H)
theorem hidT_size (h : Heap) (H : Hp) : (hidT h H).objs.size = h.objs.size := PySem.W.hideAll_size _ _
theorem hidT_get {h : Heap} {H : Hp} {b : Addr} {o : Obj} (e : h.get? b = some o) (n : H b = none) : (hidT h H).get? b = some o :=
  PySem.W.hideAll_get _ e fun hm => by
    have q : (H b).isSome = true := (List.mem_filter.mp hm).2
    rw [n] at q; simp at q
theorem of_hidT {h : Heap} {H : Hp} {b : Addr} {o : Obj} (e : (hidT h H).get? b = some o) : h.get? b = some o ∧ H b = none := by
  have e' : h.get? b = some o := PySem.W.of_hideAll (trk h H) e
  refine ⟨e', ?_⟩
  cases q : H b with
  | none => rfl
  | some x =>
    have hm : b ∈ trk h H := List.mem_filter.mpr ⟨List.mem_range.mpr (Heap.lt_size e'), by simp [q]⟩
    have z : (hidT h H).get? b = none := PySem.W.hideAll_none (trk h H) hm
    rw [z] at e; cases e

/-! ### OpenK's ledger, filled with every new object but one -/
def allNews (g h : Heap) (L : Addr) : List (Addr × Obj) := (List.range h.objs.size).filterMap fun a => if a = L ∨ (g.get? a).isSome = true then none else (h.get? a).map fun o => (a, o)
def rest (g h : Heap) (L d : Addr) : List (Addr × Obj) := (allNews g h L).filter fun p => decide (p.1 ≠ d)
end L2

namespace L2
open PySem PySem.Spec PyProof.Rows

/-- the module's facts, over the base: the heap at the law's entry without what is tracked there -/
structure Mod (K : PySem.W.Frag) (mg : Str → Option Value) (base : Heap) : Prop where
  kin : K.In base
  glob : base.Ns mainGlobals mg
  blt : ∃ mb, base.Ns builtinsNs mb ∧ ∀ x : Str, x ≠ "__name__" → mb x = bootBuiltins x
  nolimit : base.NoLimit

/-- the context: a def's body (or a comprehension's block) running. base: fixed through the whole law; s₀, H₀: the entry; outer: the frames whose slots others may change (a def's callers); stack: all frames that run;
   ex: iterators that were made ahead of the entry and are walked here (a comprehension's); fn: the names whose cells were made at the entry (a def: all; a comprehension's block: its own); calm: not within an except suite; pn: pins that every state bears; xe: what is wanted of an exception that leaves the code -/
structure Cx where
  prog : Program
  w : World
  K : PySem.W.Frag
  mg : Str → Option Value
  base : Heap
  A : Around
  N : List Str
  s₀ : Shared
  H₀ : Hp
  env : Env
  outer : List Env
  stack : List Env
  ex : List Addr
  fn : Str → Bool
  calm : Bool
  pn : List (Addr × Obj)
  xe : Value → Shared → Prop
/-- the callers' frames -/
def frs (l : List Env) : List Addr := l.filterMap (·.frame)
abbrev Cx.fs (X : Cx) : List Addr := frs X.outer

def Vis (sc : Scope) (x : Str) : Prop := sc.names.lookup x = some .local ∨ sc.names.lookup x = some .cell ∨ sc.names.lookup x = some .free
def Loc (sc : Scope) (x : Str) : Prop := sc.names.lookup x = some .local ∨ sc.names.lookup x = some .cell
def Look (env : Env) (h : Heap) (m : Str → Option Value) (x : Str) (u : Value) : Prop :=
  (env.kindOf x = some .local ∧ m x = some u) ∨ ((env.kindOf x = some .cell ∨ env.kindOf x = some .free) ∧ ∃ c, env.cells.lookup x = some c ∧ h.IsCell c (some u))

structure Cx.Ok (X : Cx) : Prop where
  mod : Mod X.K X.mg X.base
  kind : X.env.scope.kind = .function
  glob : X.env.globals = mainGlobals
  blt : X.env.builtins = builtinsNs
  above : X.s₀.heap.objs.size ≤ X.env.locals
  inj : ∀ x y c, X.env.cells.lookup x = some c → X.env.cells.lookup y = some c → x = y
  has : ∀ x, (X.env.kindOf x = some .cell ∨ X.env.kindOf x = some .free) → ∃ c, X.env.cells.lookup x = some c
  cab : ∀ x c, X.fn x = true → X.env.cells.lookup x = some c → X.s₀.heap.objs.size ≤ c
  hd : X.calm = true → X.A.handled = none
  frames : X.A.frames = some X.stack
  stk : X.stack = X.outer ∨ (X.stack = X.env :: X.outer ∧ X.env.frame = some X.env.locals)
  exf : ∀ b ∈ X.ex, b ≠ X.env.locals ∧ ∀ x c, X.env.cells.lookup x = some c → c ≠ b
  bs : ∀ b o, X.base.get? b = some o → X.s₀.heap.get? b = some o ∧ X.H₀ b = none
  bsz : X.base.objs.size ≤ X.s₀.heap.objs.size
  noex : ∀ b o, X.base.get? b = some o → b ∉ X.ex
  exfs : ∀ b ∈ X.ex, b ∉ X.fs
  funs : X.s₀.heap.FunFrames X.base X.outer
  frf : ∀ b ∈ X.fs, X.H₀ b = none

structure Inv (X : Cx) (pins : List (Addr × Obj)) (σ : List (Option V)) (H : Hp) (s : Shared) : Prop where
  ok : X.Ok
  os : s.os = X.s₀.os
  bare : AllBare s.gens
  base : Un X.fs X.ex X.H₀ H X.s₀.heap s.heap
  loc : ∃ m, s.heap.Ns X.env.locals m ∧ ∀ (i : Nat) (x : Str) (v : V), X.N[i]? = some x → σ[i]? = some (some v) → Vis X.env.scope x → ∃ u, RelV v u ∧ Look X.env s.heap m x u
  cell : ∀ x c, X.env.cells.lookup x = some c → ∃ v, s.heap.IsCell c v
  free : H X.env.locals = none
  freeC : ∀ x c, X.env.cells.lookup x = some c → H c = none
  pin : ∀ p ∈ X.pn ++ pins, s.heap.get? p.1 = some p.2 ∧ H p.1 = none ∧ p.1 ≠ X.env.locals ∧ p.1 ∉ X.fs ∧ ∀ v, p.2.data ≠ .cell v
  hok : HOk X.prog X.w H s.heap
  len : σ.length = X.N.length

section
variable {X : Cx} {pins : List (Addr × Obj)} {σ : List (Option V)} {H H' : Hp} {s : Shared} {h' : Heap}

theorem Cx.Ok.nofr (ok : X.Ok) {b : Addr} {o : Obj} (e : X.base.get? b = some o) : b ∉ X.fs := fun hb => by
  have := (ok.funs.mem hb).1
  rw [e] at this; cases this
theorem Inv.bs (I : Inv X pins σ H s) : ∀ b o, X.base.get? b = some o → s.heap.get? b = some o ∧ H b = none := fun b o e =>
  ⟨I.base.keep b o (I.ok.bs b o e).1 (I.ok.bs b o e).2 (I.ok.nofr e) (I.ok.noex b o e), I.base.free b o (I.ok.bs b o e).1 (I.ok.bs b o e).2 (I.ok.noex b o e)⟩
theorem Inv.bk (I : Inv X pins σ H s) : ∀ b o, X.base.get? b = some o → s.heap.get? b = some o := fun b o e => (I.bs b o e).1
theorem Inv.mod (I : Inv X pins σ H s) : Mod X.K X.mg X.base := I.ok.mod
theorem Inv.kIn (I : Inv X pins σ H s) : X.K.In s.heap := I.ok.mod.kin.keeps I.bk
theorem Inv.nolimit (I : Inv X pins σ H s) : s.heap.NoLimit := I.ok.mod.nolimit.keeps I.bk
/-- the frame over the base: for OpenK's rules (K.In X.base is I.mod.kin) -/
theorem Inv.fr (I : Inv X pins σ H s) : ∃ m, Fr X.base X.env.locals s.heap m :=
  let ⟨m, hn, _⟩ := I.loc
  ⟨m, hn, I.bk, Nat.le_trans I.ok.bsz I.ok.above⟩
theorem Inv.lt (I : Inv X pins σ H s) : X.env.locals < s.heap.objs.size := let ⟨_, hn, _⟩ := I.loc; hn.lt
theorem Inv.sz (I : Inv X pins σ H s) : X.s₀.heap.objs.size ≤ s.heap.objs.size := Nat.le_trans I.ok.above (Nat.le_of_lt I.lt)
theorem Inv.nofs (I : Inv X pins σ H s) {a : Addr} (h : s.heap.objs.size ≤ a) : a ∉ X.fs := fun hb => by
  obtain ⟨_, o, ho, _⟩ := I.ok.funs.mem hb
  exact absurd (Nat.lt_of_lt_of_le (Heap.lt_size ho) (Nat.le_trans I.sz h)) (Nat.lt_irrefl _)
theorem Inv.cne (I : Inv X pins σ H s) : ∀ x c, X.env.cells.lookup x = some c → c ≠ X.env.locals := fun x c e z => by
  obtain ⟨v, o, ho, hd⟩ := I.cell x c e
  obtain ⟨m, ⟨o', es, ep, ho', hd', _⟩, _⟩ := I.loc
  rw [z, ho'] at ho; cases ho; rw [hd'] at hd; cases hd
theorem Inv.funs (I : Inv X pins σ H s) : s.heap.FunFrames X.base X.outer := by
  have all : ∀ (l : List Env), (∀ b ∈ frs l, b ∈ X.fs) → X.s₀.heap.FunFrames X.base l → s.heap.FunFrames X.base l := by
    intro l
    induction l with
    | nil => intro _ _; trivial
    | cons env r ih =>
      intro hs hl
      obtain ⟨hk, ⟨L, o, hf, hn, ho, hd⟩, hr⟩ := hl
      have hL : L ∈ X.fs := hs L (by unfold frs; rw [List.filterMap_cons, hf]; exact List.mem_cons_self)
      obtain ⟨sl, e⟩ := I.base.slot L o ho (I.ok.frf L hL) hL fun z => I.ok.exfs L z hL
      exact ⟨hk, ⟨L, _, hf, hn, e, hd⟩, ih (fun b hb => hs b (by unfold frs; rw [List.filterMap_cons, hf]; exact List.mem_cons_of_mem _ hb)) hr⟩
  exact all X.outer (fun _ hb => hb) I.ok.funs

/-- the frames that run, for a call -/
theorem Inv.stack (I : Inv X pins σ H s) : s.heap.FunFrames X.base X.stack := by
  rcases I.ok.stk with e | ⟨e, hf⟩
  · rw [e]; exact I.funs
  · rw [e]
    obtain ⟨m, hn, _⟩ := I.loc
    refine .cons (by rw [I.ok.kind]; decide) hf hn ?_ I.funs
    exact Heap.get?_none_of_le (Nat.le_trans I.ok.bsz I.ok.above)
theorem Inv.stkSub (I : Inv X pins σ H s) : ∀ b ∈ frs X.stack, b ∈ X.env.locals :: X.fs := fun b hb => by
  rcases I.ok.stk with e | ⟨e, hf⟩
  · rw [e] at hb; exact List.mem_cons_of_mem _ hb
  · rw [e] at hb
    unfold frs at hb
    rw [List.filterMap_cons, hf] at hb
    exact hb
theorem Inv.stkFree (I : Inv X pins σ H s) : ∀ b ∈ frs X.stack, H b = none := fun b hb => by
  rcases List.mem_cons.mp (I.stkSub b hb) with e | hb
  · rw [e]; exact I.free
  · obtain ⟨_, o, ho, _⟩ := I.ok.funs.mem hb
    exact I.base.free b o ho (I.ok.frf b hb) fun z => I.ok.exfs b z hb

/-- THE STEP: the untracked objects but the frame and the records at ch are kept (the callers' frames up to slots), the frame's map is kept, the new abstract heap is held -/
theorem Inv.step {g' : Array GenState} {t' : Nat} {d' : Drawn} {ch : List Addr} (I : Inv X pins σ H s)
    (hch : ∀ b ∈ ch, (b ∈ X.ex ∨ X.s₀.heap.objs.size ≤ b) ∧ b ≠ X.env.locals ∧ (∀ x c, X.env.cells.lookup x = some c → c ≠ b) ∧ ∀ p ∈ X.pn ++ pins, p.1 ≠ b)
    (keep : ∀ b o, b ≠ X.env.locals → b ∉ X.fs → b ∉ ch → s.heap.get? b = some o → H b = none → h'.get? b = some o)
    (slot : ∀ b o, b ≠ X.env.locals → b ∈ X.fs → b ∉ ch → s.heap.get? b = some o → H b = none → ∃ sl, h'.get? b = some { o with slots := sl }) (free : ∀ b o, b ∉ ch → s.heap.get? b = some o → H b = none → H' b = none)
    (there : ∀ b o, b ∉ ch → s.heap.get? b = some o → ∃ o', h'.get? b = some o')
    (tups : ∀ b xs, H b = some (.tup xs) → H' b = some (.tup xs)) (frzs : ∀ b o u, H b = some (.frz o u) → H' b = some (.frz o u)) (tbls : ∀ b ps, H b = some (.tbl ps) → ∃ more, H' b = some (.tbl (ps ++ more)))
    (ns : ∀ m, s.heap.Ns X.env.locals m → h'.Ns X.env.locals m) (hok : HOk X.prog X.w H' h') (hg : AllBare g') :
    Inv X pins σ H' { s with heap := h', gens := g', drawn := d', toks := t' } := by
  have neL : ∀ b o, X.s₀.heap.get? b = some o → b ≠ X.env.locals := fun b o e => Nat.ne_of_lt (Nat.lt_of_lt_of_le (Heap.lt_size e) I.ok.above)
  have neC : ∀ b o, X.s₀.heap.get? b = some o → b ∉ X.ex → b ∉ ch := fun b o e hx hb => by
    rcases (hch b hb).1 with z | z
    · exact hx z
    · exact absurd (Nat.lt_of_lt_of_le (Heap.lt_size e) z) (Nat.lt_irrefl _)
  have cellK : ∀ x c, X.env.cells.lookup x = some c → ∀ v, s.heap.IsCell c v → h'.IsCell c v := fun x c e v ⟨o, ho, hd⟩ => by
    have nch : c ∉ ch := fun z => (hch c z).2.2.1 x c e rfl
    by_cases hc : c ∈ X.fs
    · obtain ⟨sl, q⟩ := slot c o (I.cne x c e) hc nch ho (I.freeC x c e)
      exact ⟨_, q, hd⟩
    · exact ⟨o, keep c o (I.cne x c e) hc nch ho (I.freeC x c e), hd⟩
  refine ⟨I.ok, I.os, hg, ⟨fun b o e n hb hx => ?_, fun b o e n hb hx => ?_, fun b o e n hx => ?_, fun b o e hx => ?_, fun b xs e => tups b xs (I.base.tups b xs e), fun b o xs e => frzs b o xs (I.base.frzs b o xs e), fun b ps e => ?_⟩, ?_, fun x c e => ?_, ?_, fun x c e => ?_, fun p hp => ?_, hok, I.len⟩
  · exact keep b o (neL b o e) hb (neC b o e hx) (I.base.keep b o e n hb hx) (I.base.free b o e n hx)
  · obtain ⟨sl, e1⟩ := I.base.slot b o e n hb hx
    obtain ⟨sl', e2⟩ := slot b _ (neL b o e) hb (neC b o e hx) e1 (I.base.free b o e n hx)
    exact ⟨sl', e2⟩
  · obtain ⟨o', e1⟩ := I.base.there b o e hx
    exact free b o' (neC b o e hx) e1 (I.base.free b o e n hx)
  · obtain ⟨o', e1⟩ := I.base.there b o e hx
    exact there b o' (neC b o e hx) e1
  · obtain ⟨m1, e1⟩ := I.base.tbls b ps e
    obtain ⟨m2, e2⟩ := tbls b _ e1
    exact ⟨m1 ++ m2, by rw [e2, Array.append_assoc]⟩
  · obtain ⟨m, hn, hl⟩ := I.loc
    refine ⟨m, ns m hn, fun i x v e1 e2 e3 => ?_⟩
    obtain ⟨u, r, l⟩ := hl i x v e1 e2 e3
    refine ⟨u, r, ?_⟩
    rcases l with l | ⟨k, c, e, z⟩
    · exact .inl l
    · exact .inr ⟨k, c, e, cellK x c e _ z⟩
  · obtain ⟨v, z⟩ := I.cell x c e
    exact ⟨v, cellK x c e v z⟩
  · obtain ⟨m, ⟨o, _, _, ho, _⟩, _⟩ := I.loc
    exact free _ o (fun z => (hch _ z).2.1 rfl) ho I.free
  · obtain ⟨v, o, ho, hd⟩ := I.cell x c e
    exact free c o (fun z => (hch c z).2.2.1 x c e rfl) ho (I.freeC x c e)
  · obtain ⟨e, n, ne, nf, d⟩ := I.pin p hp
    have nch : p.1 ∉ ch := fun z => (hch p.1 z).2.2.2 p hp rfl
    exact ⟨keep p.1 p.2 ne nf nch e n, free p.1 p.2 nch e n, ne, nf, d⟩
/-- .. where the frame's own object is kept too -/
theorem Inv.un {t' : Nat} (I : Inv X pins σ H s) (u : Un X.fs [] H H' s.heap h') (hok : HOk X.prog X.w H' h') : Inv X pins σ H' { s with heap := h', toks := t' } := by
  obtain ⟨m, ⟨o, es, ep, ho, r⟩, _⟩ := id I.loc
  obtain ⟨sl, hL⟩ := u.any ho I.free (by simp)
  exact I.step (g' := s.gens) (d' := s.drawn) (ch := []) (fun _ z => nomatch z) (fun b o _ hb _ e n => u.keep b o e n hb (by simp)) (fun b o _ hb _ e n => u.slot b o e n hb (by simp)) (fun b o _ e n => u.free b o e n (by simp)) (fun b o _ e => u.there b o e (by simp)) u.tups u.frzs u.tbls (fun m' hm => by
    obtain ⟨o', es', ep', ho', r'⟩ := hm
    rw [ho] at ho'; cases ho'
    exact ⟨_, es', ep', hL, r'⟩) hok I.bare
/-- behind a call (or a comprehension's block): the slots of this frame may have changed too, the records at ch may have turned -/
theorem Inv.call {g' : Array GenState} {t' : Nat} {d' : Drawn} {ch : List Addr} (I : Inv X pins σ H s) (u : Un (frs X.stack) ch H H' s.heap h') (hok : HOk X.prog X.w H' h') (hg : AllBare g')
    (hch : ∀ b ∈ ch, (b ∈ X.ex ∨ X.s₀.heap.objs.size ≤ b) ∧ b ≠ X.env.locals ∧ (∀ x c, X.env.cells.lookup x = some c → c ≠ b) ∧ ∀ p ∈ X.pn ++ pins, p.1 ≠ b) :
    Inv X pins σ H' { s with heap := h', gens := g', drawn := d', toks := t' } := by
  obtain ⟨m, ⟨o, es, ep, ho, r⟩, _⟩ := id I.loc
  obtain ⟨sl, hL⟩ := u.any ho I.free fun z => (hch _ z).2.1 rfl
  exact I.step (ch := ch) hch (fun b o hL hb hc e n => u.keep b o e n (fun z => (List.mem_cons.mp (I.stkSub b z)).elim hL hb) hc) (fun b o _ _ hc e n => u.any e n hc) (fun b o hc e n => u.free b o e n hc) (fun b o hc e => u.there b o e hc) u.tups u.frzs u.tbls (fun m' hm => by
    obtain ⟨o', es', ep', ho', r'⟩ := hm
    rw [ho] at ho'; cases ho'
    exact ⟨_, es', ep', hL, r'⟩) hok hg
/-- an untracked record of ours (an iterator) has turned -/
theorem Inv.turned {t' : Nat} {it : Addr} (I : Inv X pins σ H s) (k : ∀ b o, b ≠ it → s.heap.get? b = some o → h'.get? b = some o) (hn : H it = none) (hL : it ≠ X.env.locals)
    (h1 : it ∈ X.ex ∨ X.s₀.heap.objs.size ≤ it) (h2 : ∀ x c, X.env.cells.lookup x = some c → c ≠ it) (h3 : ∀ p ∈ X.pn ++ pins, p.1 ≠ it) : Inv X pins σ H { s with heap := h', toks := t' } := by
  have nit : ∀ b u, H b = some u → b ≠ it := fun b u e z => by rw [z, hn] at e; cases e
  refine I.step (g' := s.gens) (d' := s.drawn) (ch := [it]) (fun b hb => ?_) (fun b o _ _ hc e _ => k b o (fun z => hc (by simp [z])) e) (fun b o _ _ hc e _ => ⟨o.slots, k b o (fun z => hc (by simp [z])) e⟩) (fun _ _ _ _ n => n)
    (fun b o hc e => ⟨o, k b o (fun z => hc (by simp [z])) e⟩) (fun _ _ e => e) (fun _ _ _ e => e) (fun b ps e => ⟨#[], by rw [e]; simp⟩) (fun m hm => ?_) (fun b u e => ?_) I.bare
  · have e : b = it := by simpa using hb
    subst e
    exact ⟨h1, hL, h2, h3⟩
  · obtain ⟨o, es, ep, ho, r⟩ := hm
    exact ⟨o, es, ep, k _ o (Ne.symm hL) ho, r⟩
  · refine (I.hok b u e).stay (fun c v hc q => k c v ?_ q) (fun _ q => q) fun _ _ q => q
    rcases hc with z | z
    · rw [z]; exact nit b u e
    · exact nit c _ z
theorem Inv.tok (I : Inv X pins σ H s) (t : Nat) : Inv X pins σ H { s with toks := t } := I.un (h' := s.heap) (t' := t) Un.refl I.hok
/-- all objects kept -/
theorem Inv.kept {t' : Nat} (I : Inv X pins σ H s) (k : ∀ b u, s.heap.get? b = some u → h'.get? b = some u) : Inv X pins σ H { s with heap := h', toks := t' } := I.un (Un.kept k) (I.hok.kept k)
/-- a new object laid and tracked -/
theorem Inv.laid {a : Addr} {o : HO} {t' : Nat} (I : Inv X pins σ H s) (k : ∀ b u, s.heap.get? b = some u → h'.get? b = some u) (hp : s.heap.objs.size ≤ a) (new : ObjOk X.prog X.w (upd H a o) h' a o) :
    Inv X pins σ (upd H a o) { s with heap := h', toks := t' } := I.un (Un.laid k hp (I.hok.fresh hp)) (I.hok.laid k hp new)
/-- an object written -/
theorem Inv.write {x e : Addr} {o : HO} {t' : Nat} (I : Inv X pins σ H s) (mu : Mut (H x)) (he : e = x ∨ H e = some (.own x)) (k : ∀ b u, b ≠ e → s.heap.get? b = some u → h'.get? b = some u) (heo : ∃ u, h'.get? e = some u)
    (new : ObjOk X.prog X.w (upd H x o) h' x o) : Inv X pins σ (upd H x o) { s with heap := h', toks := t' } := I.un (Un.write mu he k heo) (I.hok.write mu he k heo new)
/-- forgetting slots, pins -/
theorem Inv.weak {σ' : List (Option V)} (I : Inv X pins σ H s) (hl : σ'.length = σ.length) (w : ∀ (i : Nat) v, σ'[i]? = some (some v) → σ[i]? = some (some v)) : Inv X pins σ' H s :=
  ⟨I.ok, I.os, I.bare, I.base, let ⟨m, hn, hl'⟩ := I.loc; ⟨m, hn, fun i x v e1 e2 e3 => hl' i x v e1 (w i v e2) e3⟩, I.cell, I.free, I.freeC, I.pin, I.hok, hl.trans I.len⟩
theorem Inv.pins_of {pins' : List (Addr × Obj)} (I : Inv X pins σ H s) (h : ∀ p ∈ pins', s.heap.get? p.1 = some p.2 ∧ H p.1 = none ∧ p.1 ≠ X.env.locals ∧ p.1 ∉ X.fs ∧ ∀ v, p.2.data ≠ .cell v) : Inv X pins' σ H s :=
  ⟨I.ok, I.os, I.bare, I.base, I.loc, I.cell, I.free, I.freeC, fun p hp => (List.mem_append.mp hp).elim (fun z => I.pin p (List.mem_append_left _ z)) (h p), I.hok, I.len⟩

theorem nodup_ix {N : List Str} (hN : N.Nodup) {i j : Nat} {x : Str} (a : N[i]? = some x) (b : N[j]? = some x) : i = j := by
  obtain ⟨h1, e1⟩ := List.getElem?_eq_some_iff.mp a
  obtain ⟨h2, e2⟩ := List.getElem?_eq_some_iff.mp b
  exact (List.getElem_inj hN).mp (e1.trans e2.symm)

/-- a name is stored; what changed -/
theorem store_ok2 {M : Model} {A : Around} {E : Value → Shared → Prop} {i : Nat} {x : Str} {v : V} {u : Value} {Q : Unit → Shared → Prop} (I : Inv X pins σ H s) (hN : X.N.Nodup) (hi : X.N[i]? = some x) (hx : Loc X.env.scope x) (r : RelV v u)
    (h : ∀ s', Inv X pins (σ.set i (some v)) H s' → (∃ a, Heap.SameBut a s.heap s'.heap ∧ (a = X.env.locals ∨ X.env.cells.lookup x = some a)) → Q () s') (hf : X.fn x = true ∨ X.env.scope.names.lookup x = some .local := by first | exact .inl rfl | exact .inr rfl | assumption) : wpAny M A (storeName X.env x u) Q E s := by
  obtain ⟨m, hn, hl⟩ := id I.loc
  have hcls : (X.env.scope.kind == .class || (X.env.scope.kind == .module && X.env.locals != X.env.globals)) = false := by rw [I.ok.kind]; rfl
  have hiσ : i < σ.length := by rw [I.len]; exact (List.getElem?_eq_some_iff.mp hi).1
  have cne := I.cne
  have tracked : ∀ {a : Addr} {h' : Heap}, (∃ o, s.heap.get? a = some o ∧ H a = none) → Heap.SameBut a s.heap h' → HOk X.prog X.w H h' := fun {a h'} ha hs b ob e => by
    obtain ⟨_, _, hfree⟩ := ha
    refine (I.hok b ob e).stay (fun c w' hc q => (hs.2 c ?_).trans q) (fun _ q => q) fun _ _ q => q
    rintro rfl
    rcases hc with rfl | hc
    · rw [hfree] at e; cases e
    · rw [hfree] at hc; cases hc
  rcases hx with hk | hk
  · refine wpAny_storeName_local hk hn (fun h' hn' hs => ?_) hcls
    obtain ⟨oL, _, _, hoL, _⟩ := id hn
    refine h _ ⟨I.ok, I.os, I.bare, ⟨fun b o e n hb hx => ?_, fun b o e n hb hx => ?_, I.base.free, fun b o e hx => ?_, I.base.tups, I.base.frzs, I.base.tbls⟩, ⟨_, hn', fun j y v' e1 e2 e3 => ?_⟩, fun y c e => ?_, I.free, I.freeC, fun p hp => ?_, tracked ⟨oL, hoL, I.free⟩ hs, by simpa using I.len⟩ ⟨_, hs, .inl rfl⟩
    · exact (hs.2 b (Nat.ne_of_lt (Nat.lt_of_lt_of_le (Heap.lt_size e) I.ok.above))).trans (I.base.keep b o e n hb hx)
    · obtain ⟨sl, e1⟩ := I.base.slot b o e n hb hx
      exact ⟨sl, (hs.2 b (Nat.ne_of_lt (Nat.lt_of_lt_of_le (Heap.lt_size e) I.ok.above))).trans e1⟩
    · obtain ⟨o', e1⟩ := I.base.there b o e hx
      exact ⟨o', (hs.2 b (Nat.ne_of_lt (Nat.lt_of_lt_of_le (Heap.lt_size e) I.ok.above))).trans e1⟩
    · by_cases hj : j = i
      · subst hj
        rw [hi] at e1; cases e1
        rw [List.getElem?_set_self hiσ] at e2
        cases e2
        exact ⟨u, r, .inl ⟨hk, by simp⟩⟩
      · rw [List.getElem?_set_ne (Ne.symm hj)] at e2
        obtain ⟨u', r', q⟩ := hl j y v' e1 e2 e3
        refine ⟨u', r', ?_⟩
        rcases q with ⟨k, e⟩ | ⟨k, c, e, z⟩
        · refine .inl ⟨k, ?_⟩
          have : y ≠ x := fun e => hj (nodup_ix hN e1 (e ▸ hi))
          simp [this, e]
        · exact .inr ⟨k, c, e, z.sameBut hs (cne y c e)⟩
    · obtain ⟨w', z⟩ := I.cell y c e
      exact ⟨w', z.sameBut hs (cne y c e)⟩
    · obtain ⟨e, n, ne, nf, d⟩ := I.pin p hp
      exact ⟨(hs.2 p.1 ne).trans e, n, ne, nf, d⟩
  · have hfn : X.fn x = true := by
      rcases hf with z | z
      · exact z
      · rw [z] at hk; cases hk
    obtain ⟨c, hc⟩ := I.ok.has x (.inl hk)
    obtain ⟨w', z⟩ := I.cell x c hc
    refine wpAny_storeName_cell I.ok.kind hk hc z (fun h' hc' hs => ?_)
    obtain ⟨oc, hoc, hocd⟩ := id z
    refine h { s with heap := h' } ⟨I.ok, I.os, I.bare, ⟨fun b o e n hb hx => ?_, fun b o e n hb hx => ?_, I.base.free, fun b o e hx => ?_, I.base.tups, I.base.frzs, I.base.tbls⟩, ⟨m, hn.sameBut hs (Ne.symm (cne x c hc)), fun j y v' e1 e2 e3 => ?_⟩, fun y c' e => ?_, I.free, I.freeC, fun p hp => ?_, tracked ⟨oc, hoc, I.freeC x c hc⟩ hs, by simpa using I.len⟩ ⟨c, hs, .inr hc⟩
    · exact (hs.2 b (Nat.ne_of_lt (Nat.lt_of_lt_of_le (Heap.lt_size e) (I.ok.cab x c hfn hc)))).trans (I.base.keep b o e n hb hx)
    · obtain ⟨sl, e1⟩ := I.base.slot b o e n hb hx
      exact ⟨sl, (hs.2 b (Nat.ne_of_lt (Nat.lt_of_lt_of_le (Heap.lt_size e) (I.ok.cab x c hfn hc)))).trans e1⟩
    · obtain ⟨o', e1⟩ := I.base.there b o e hx
      exact ⟨o', (hs.2 b (Nat.ne_of_lt (Nat.lt_of_lt_of_le (Heap.lt_size e) (I.ok.cab x c hfn hc)))).trans e1⟩
    · by_cases hj : j = i
      · subst hj
        rw [hi] at e1; cases e1
        rw [List.getElem?_set_self hiσ] at e2
        cases e2
        exact ⟨u, r, .inr ⟨.inl hk, c, hc, hc'⟩⟩
      · rw [List.getElem?_set_ne (Ne.symm hj)] at e2
        obtain ⟨u', r', q⟩ := hl j y v' e1 e2 e3
        refine ⟨u', r', ?_⟩
        rcases q with q | ⟨k, c', e, z'⟩
        · exact .inl q
        · refine .inr ⟨k, c', e, z'.sameBut hs ?_⟩
          rintro rfl
          exact hj (nodup_ix hN e1 (I.ok.inj _ _ _ e hc ▸ hi))
    · by_cases hcc : c' = c
      · subst hcc; exact ⟨_, hc'⟩
      · obtain ⟨w2, z2⟩ := I.cell y c' e
        exact ⟨w2, z2.sameBut hs hcc⟩
    · obtain ⟨e, n, ne, nf, d⟩ := I.pin p hp
      refine ⟨(hs.2 p.1 ?_).trans e, n, ne, nf, d⟩
      intro q
      rw [q, hoc] at e
      have q' : oc = p.2 := Option.some.inj e
      exact d w' (by rw [← q']; exact hocd)
theorem store_ok {M : Model} {A : Around} {E : Value → Shared → Prop} {i : Nat} {x : Str} {v : V} {u : Value} {Q : Unit → Shared → Prop} (I : Inv X pins σ H s) (hN : X.N.Nodup) (hi : X.N[i]? = some x) (hx : Loc X.env.scope x) (r : RelV v u)
    (h : ∀ s', Inv X pins (σ.set i (some v)) H s' → Q () s') (hf : X.fn x = true ∨ X.env.scope.names.lookup x = some .local := by first | exact .inl rfl | exact .inr rfl | assumption) : wpAny M A (storeName X.env x u) Q E s :=
  store_ok2 I hN hi hx r (fun s' I' _ => h s' I') hf
/-- behind a call or a block, the state as it is -/
theorem Inv.call' {s' : Shared} {ch : List Addr} (I : Inv X pins σ H s) (ho : s'.os = s.os) (u : Un (frs X.stack) ch H H' s.heap s'.heap) (hok : HOk X.prog X.w H' s'.heap) (hg : AllBare s'.gens)
    (hch : ∀ b ∈ ch, (b ∈ X.ex ∨ X.s₀.heap.objs.size ≤ b) ∧ b ≠ X.env.locals ∧ (∀ x c, X.env.cells.lookup x = some c → c ≠ b) ∧ ∀ p ∈ X.pn ++ pins, p.1 ≠ b) : Inv X pins σ H' s' := by
  obtain ⟨h', g', d', t', o'⟩ := s'
  have e : o' = s.os := ho
  subst e
  exact I.call (g' := g') (t' := t') (d' := d') u hok hg hch
end

/-! ### the judgements -/
/-- an exception: its class, its own dict's address (where it has one), the abstract heap behind it -/
abbrev XK := Value → Option Addr → Hp → Prop
abbrev St := List (Option V)
abbrev VK := V → Hp → Prop
/-- an expression's reading; a test's; an argument list's -/
abbrev TE := St → Hp → VK → Prop
abbrev TT := St → Hp → (Bool → Hp → Prop) → Prop
abbrev TA := St → Hp → (List V → Hp → Prop) → Prop
/-- what is wanted behind a statement -/
structure Ends where
  nx : St → Hp → Prop
  rt : VK
  bk : St → Hp → Prop := fun _ _ => False
  ct : St → Hp → Prop := fun _ _ => False
abbrev TS := Ends → St → Hp → Prop

def EP (X : Cx) (pins : List (Addr × Obj)) (σ : St) (Q : VK) (u : Value) (s' : Shared) : Prop := ∃ v H', Inv X pins σ H' s' ∧ RelV v u ∧ Q v H'
def TP (X : Cx) (pins : List (Addr × Obj)) (σ : St) (Q : Bool → Hp → Prop) (b : Bool) (s' : Shared) : Prop := ∃ H', Inv X pins σ H' s' ∧ Q b H'
def AP (X : Cx) (pins : List (Addr × Obj)) (σ : St) (Q : List V → Hp → Prop) (us : List Value) (s' : Shared) : Prop := ∃ vs H', Inv X pins σ H' s' ∧ Vals vs us ∧ Q vs H'
def SP (X : Cx) (pins : List (Addr × Obj)) (D : Ends) (f : Flow) (s' : Shared) : Prop :=
  match f with
  | .next => ∃ σ' H', Inv X pins σ' H' s' ∧ D.nx σ' H'
  | .brk => ∃ σ' H', Inv X pins σ' H' s' ∧ D.bk σ' H'
  | .cont => ∃ σ' H', Inv X pins σ' H' s' ∧ D.ct σ' H'
  | .ret u => ∃ v σ' H', Inv X pins σ' H' s' ∧ RelV v u ∧ D.rt v H'

def PE (X : Cx) (e : Expr) (t : TE) : Prop :=
  ∀ (pins : List (Addr × Obj)) (s : Shared) (σ : St) (H : Hp) (Q : VK), Inv X pins σ H s → t σ H Q → wpAny (model X.prog X.w) X.A (eval e X.env) (EP X pins σ Q) X.xe s
def PT (X : Cx) (e : Expr) (t : TT) : Prop :=
  ∀ (pins : List (Addr × Obj)) (s : Shared) (σ : St) (H : Hp) (Q : Bool → Hp → Prop), Inv X pins σ H s → t σ H Q → wpAny (model X.prog X.w) X.A (isTrue e X.env (eval e X.env)) (TP X pins σ Q) X.xe s
/-- a test whatever its 'whole' is (and, or) -/
def PW (X : Cx) (e : Expr) (t : TT) : Prop :=
  ∀ (whole : Sem Value) (pins : List (Addr × Obj)) (s : Shared) (σ : St) (H : Hp) (Q : Bool → Hp → Prop), Inv X pins σ H s → t σ H Q → wpAny (model X.prog X.w) X.A (isTrue e X.env whole) (TP X pins σ Q) X.xe s
theorem PW.pt {X : Cx} {e : Expr} {t : TT} (h : PW X e t) : PT X e t := h _
/-- an argument list (no star), from the left -/
def PA (X : Cx) (es : List Expr) (t : TA) : Prop :=
  ∀ (pos : Pos) (pins : List (Addr × Obj)) (s : Shared) (σ : St) (H : Hp) (Q : List V → Hp → Prop), Inv X pins σ H s → t σ H Q → wpAny (model X.prog X.w) X.A (spliced (backTo pos (starEach es X.env))) (AP X pins σ Q) X.xe s
def PS (X : Cx) (st : Stmt) (t : TS) : Prop :=
  ∀ (pins : List (Addr × Obj)) (s : Shared) (σ : St) (H : Hp) (D : Ends), Inv X pins σ H s → t D σ H → wpAny (model X.prog X.w) X.A (exec st X.env) (SP X pins D) X.xe s
def PSs (X : Cx) (st : List Stmt) (t : TS) : Prop :=
  ∀ (pins : List (Addr × Obj)) (s : Shared) (σ : St) (H : Hp) (D : Ends), Inv X pins σ H s → t D σ H → wpAny (model X.prog X.w) X.A (execs st X.env) (SP X pins D) X.xe s
/-- weaken the end -/
theorem thn {α : Type} {t : Sem α} {Q Q' : α → Shared → Prop} {M : Model} {A : Around} {E : Value → Shared → Prop} {s : Shared} (h : wpAny M A t Q E s) (hQ : ∀ a s, Q a s → Q' a s) : wpAny M A t Q' E s := wpAny_mono h hQ fun _ _ x => x
end L2

namespace L2
open PySem PySem.Spec PyProof.Rows
section
variable {X : Cx}

/-! ### names and constants -/
def tVar (i : Nat) : TE := fun σ H Q => ∃ v, σ[i]? = some (some v) ∧ Q v H
def tC (v : V) : TE := fun _ H Q => Q v H
theorem pe_var {i : Nat} {x : Str} {pos : Pos} (hN : X.N[i]? = some x) (hv : Vis X.env.scope x) (hd : (x == ("__debug__" : Str)) = false := by decide) (hcd : (x == ("__classdict__" : Str)) = false := by decide) : PE X (.Name x pos) (tVar i) := by
  intro pins s σ H Q I h
  obtain ⟨v, e, h⟩ := h
  obtain ⟨m, hn, hl⟩ := I.loc
  obtain ⟨u, r, l⟩ := hl i x v hN e hv
  have fin : EP X pins σ Q u s := ⟨v, H, I, r, h⟩
  rcases l with ⟨hk, hm⟩ | ⟨hk, c, hc, hcell⟩
  · exact wpAny_Name (wpAny_loadName_local I.ok.kind hk hn hm fin) hd
  · rcases hk with hk | hk
    · exact wpAny_Name (wpAny_loadName_cell I.ok.kind hk hc hcell fin) hd
    · exact wpAny_Name (wpAny_loadName_free I.ok.kind hk hc hcell fin hcd) hd
theorem pe_int {i j pos} : PE X (.Constant (.int i) j pos) (tC (.int i)) := fun _ _ _ H _ I h => wpAny_Constant_int ⟨.int i, H, I.tok _, ⟨_, rfl⟩, h⟩
theorem pe_bl {b j pos} : PE X (.Constant (.bool b) j pos) (tC (.bl b)) := fun _ _ _ H _ I h => Constant_bool ⟨.bl b, H, I, rfl, h⟩
theorem pe_non {j pos} : PE X (.Constant .none j pos) (tC .non) := fun _ _ _ H _ I h => Constant_none ⟨.non, H, I, rfl, h⟩
theorem pe_str {x j pos} : PE X (.Constant (.str x) j pos) (tC (.str x)) := fun _ _ _ H _ I h => Calls.Constant_str ⟨.str x, H, I.tok _, ⟨_, rfl⟩, h⟩

/-- a global name of the def -/
def Gl (X : Cx) (x : Str) : Prop := X.env.kindOf x = some .globalImplicit
theorem ld_glob {E : Value → Shared → Prop} {pins : List (Addr × Obj)} {s : Shared} {σ : St} {H : Hp} {x : Str} {u : Value} {pos : Pos} {Q : Value → Shared → Prop} (I : Inv X pins σ H s) (hg : Gl X x) (hm : X.mg x = some u) (h : Q u s)
    (hd : (x == ("__debug__" : Str)) = false := by decide) : wpAny (model X.prog X.w) X.A (eval (.Name x pos) X.env) Q E s :=
  Calls.Name_function_global I.ok.kind hg (Calls.loadGlobal_global (by rw [I.ok.glob]; exact I.mod.glob.keeps I.bk) hm h) hd
theorem ld_blt {E : Value → Shared → Prop} {pins : List (Addr × Obj)} {s : Shared} {σ : St} {H : Hp} {x : Str} {u : Value} {pos : Pos} {Q : Value → Shared → Prop} (I : Inv X pins σ H s) (hg : Gl X x) (hm : X.mg x = none) (hv : bootBuiltins x = some u) (h : Q u s)
    (hn : x ≠ "__name__" := by decide) (hd : (x == ("__debug__" : Str)) = false := by decide) : wpAny (model X.prog X.w) X.A (eval (.Name x pos) X.env) Q E s := by
  obtain ⟨mb, h1, h2⟩ := I.mod.blt
  exact Calls.Name_function_global I.ok.kind hg (Calls.loadGlobal_builtin (by rw [I.ok.glob]; exact I.mod.glob.keeps I.bk) hm (by rw [I.ok.blt]; exact h1.keeps I.bk) ((h2 x hn).trans hv) h) hd
/-- a module's constant, a class, a function, as a value -/
theorem pe_glob {x : Str} {v : V} {u : Value} {pos : Pos} (hg : Gl X x) (hm : X.mg x = some u) (r : RelV v u) (hd : (x == ("__debug__" : Str)) = false := by decide) : PE X (.Name x pos) (tC v) :=
  fun _ _ _ H _ I h => ld_glob I hg hm ⟨v, H, I, r, h⟩ hd
theorem pe_bltn {x : Str} {v : V} {u : Value} {pos : Pos} (hg : Gl X x) (hm : X.mg x = none) (hv : bootBuiltins x = some u) (r : RelV v u) (hn : x ≠ "__name__" := by decide) (hd : (x == ("__debug__" : Str)) = false := by decide) : PE X (.Name x pos) (tC v) :=
  fun _ _ _ H _ I h => ld_blt I hg hm hv ⟨v, H, I, r, h⟩ hn hd

/-! ### arithmetic -/
/-- two ints -/
def t2I (ta tb : TE) (k : Int → Int → Hp → Prop) : St → Hp → Prop := fun σ H => ta σ H fun x H1 => tb σ H1 fun y H2 => ∃ i j, x = .int i ∧ y = .int j ∧ k i j H2
def tAdd (ta tb : TE) : TE := fun σ H Q => t2I ta tb (fun i j H2 => Q (.int (i + j)) H2) σ H
def tSub (ta tb : TE) : TE := fun σ H Q => t2I ta tb (fun i j H2 => Q (.int (i - j)) H2) σ H
/-- the left factor below 2^64 -/
def tMul (ta tb : TE) : TE := fun σ H Q => t2I ta tb (fun i j H2 => (-(2 ^ 64) < i ∧ i < 2 ^ 64) ∧ Q (.int (i * j)) H2) σ H
variable {a b : Expr} {ta tb : TE} {pos : Pos}
/-! ### comparisons -/
def PC (X : Cx) (op : CmpOp) (a b : Expr) (t : TE) : Prop :=
  ∀ (pins : List (Addr × Obj)) (s : Shared) (σ : St) (H : Hp) (Q : VK), Inv X pins σ H s → t σ H Q →
    wpAny (model X.prog X.w) X.A (eval a X.env) (fun v s₁ => wpAny (model X.prog X.w) X.A (eval b X.env) (fun u s₂ => wpAny (model X.prog X.w) X.A (compareOp op v u) (EP X pins σ Q) X.xe s₂) X.xe s₁) X.xe s
def tCmp (p : Int → Int → Bool) (ta tb : TE) : TE := fun σ H Q => t2I ta tb (fun i j H2 => Q (.bl (p i j)) H2) σ H
abbrev tLt : TE → TE → TE := tCmp fun i j => decide (i < j)
abbrev tLe : TE → TE → TE := tCmp fun i j => decide (i ≤ j)
abbrev tGt : TE → TE → TE := tCmp fun i j => decide (j < i)
abbrev tGe : TE → TE → TE := tCmp fun i j => decide (j ≤ i)
abbrev tEqI : TE → TE → TE := tCmp fun i j => decide (i = j)
abbrev tNeI : TE → TE → TE := tCmp fun i j => !decide (i = j)
/-- is None -/
def tIsN (ta : TE) : TE := fun σ H Q => ta σ H fun x H1 => Q (.bl (decide (x = .non))) H1
def tNotN (ta : TE) : TE := fun σ H Q => ta σ H fun x H1 => Q (.bl (!decide (x = .non))) H1
/-- a comparison as a value, as a test -/
def tB (t : TE) : TT := fun σ H Q => t σ H fun x H1 => ∃ c, x = .bl c ∧ Q c H1
/-! ### and, or, not -/
variable {tA tB' : TT} {rest : List Expr}
def tAnd (t u : TT) : TT := fun σ H Q => t σ H fun c H1 => if c = true then u σ H1 Q else Q false H1
def tOr (t u : TT) : TT := fun σ H Q => t σ H fun c H1 => if c = true then Q true H1 else u σ H1 Q
def tNot (t : TT) : TT := fun σ H Q => t σ H fun c H1 => Q (!c) H1
theorem pw_and1 (ha : PT X a tA) : PW X (.BoolOp .And [a] pos) tA := by
  intro wh pins s σ H Q I h
  refine isTrue_and (thn (ha pins s σ H Q I h) fun c s1 e => ?_)
  cases c with
  | true => exact isTrue_and_nil e
  | false => exact e
theorem pw_or1 (ha : PT X a tA) : PW X (.BoolOp .Or [a] pos) tA := by
  intro wh pins s σ H Q I h
  refine isTrue_or (thn (ha pins s σ H Q I h) fun c s1 e => ?_)
  cases c with
  | false => exact isTrue_or_nil e
  | true => exact e
theorem pw_and (ha : PT X a tA) (hb : PW X (.BoolOp .And (b :: rest) pos) tB') : PW X (.BoolOp .And (a :: b :: rest) pos) (tAnd tA tB') := by
  intro wh pins s σ H Q I h
  refine isTrue_and (thn (ha pins s σ H _ I h) fun c s1 ⟨H1, I1, q1⟩ => ?_)
  cases c with
  | true => exact hb wh pins s1 σ H1 Q I1 q1
  | false => exact ⟨H1, I1, q1⟩
theorem pw_or (ha : PT X a tA) (hb : PW X (.BoolOp .Or (b :: rest) pos) tB') : PW X (.BoolOp .Or (a :: b :: rest) pos) (tOr tA tB') := by
  intro wh pins s σ H Q I h
  refine isTrue_or (thn (ha pins s σ H _ I h) fun c s1 ⟨H1, I1, q1⟩ => ?_)
  cases c with
  | true => exact ⟨H1, I1, q1⟩
  | false => exact hb wh pins s1 σ H1 Q I1 q1
theorem pt_not (ha : PT X a tA) : PT X (.UnaryOp .Not a pos) (tNot tA) := by
  intro pins s σ H Q I h
  exact isTrue_not (ha pins s σ H (fun c H1 => Q (!c) H1) I h)
/-- .. as values (bools) -/
def tAndV (ta tb : TE) : TE := fun σ H Q => ta σ H fun x H1 => ∃ c, x = .bl c ∧ if c = true then tb σ H1 Q else Q (.bl false) H1
def tOrV (ta tb : TE) : TE := fun σ H Q => ta σ H fun x H1 => ∃ c, x = .bl c ∧ if c = true then Q (.bl true) H1 else tb σ H1 Q
def tNotV (ta : TE) : TE := fun σ H Q => ta σ H fun x H1 => ∃ c, x = .bl c ∧ Q (.bl (!c)) H1
theorem pe_one {op} {t : TE} (h : PE X a t) : PE X (.BoolOp op [a] pos) t := fun pins s σ H Q I hw => BoolOp_one (h pins s σ H Q I hw)
theorem pe_and (ha : PE X a ta) (hb : PE X (.BoolOp .And (b :: rest) pos) tb) : PE X (.BoolOp .And (a :: b :: rest) pos) (tAndV ta tb) := by
  intro pins s σ H Q I h
  refine BoolOp_and (thn (ha pins s σ H _ I h) fun v s1 ⟨x, H1, I1, r1, q1⟩ => ?_)
  obtain ⟨c, rfl, q1⟩ := q1
  cases r1
  refine wpAny_truthy_bool ?_
  cases c with
  | true => exact hb pins s1 σ H1 Q I1 q1
  | false => exact ⟨.bl false, H1, I1, rfl, q1⟩
/-- a if t else b -/
def tIf (t : TT) (ta tb : TE) : TE := fun σ H Q => t σ H fun c H1 => if c = true then ta σ H1 Q else tb σ H1 Q
theorem pe_ifExp {c : Expr} (hc : PT X c tA) (ha : PE X a ta) (hb : PE X b tb) : PE X (.IfExp c a b pos) (tIf tA ta tb) := by
  intro pins s σ H Q I h
  refine wpAny_IfExp (thn (hc pins s σ H _ I h) fun d s1 ⟨H1, I1, q1⟩ => ?_)
  cases d with
  | true => exact ha pins s1 σ H1 Q I1 q1
  | false => exact hb pins s1 σ H1 Q I1 q1
end
end L2

namespace L2
open PySem PySem.Spec PyProof.Rows

/-! ### a list, a tuple that is read: tracked, frozen, or an object of the module -/
def SqL (K : PySem.W.Frag) (H : Hp) (a : Addr) (xs : List V) : Prop :=
  Rd H a (.lst xs) ∨
    ∃ (o : Obj) (its : Array Value) (n : Nat), K.lookup a = some o ∧ o.cls = .type "list" ∧ o.dict = none ∧ o.data = .seq its n ∧ its.size ≤ sizeLine ∧ Vals xs its.toList
def SqT (K : PySem.W.Frag) (H : Hp) (a : Addr) (xs : List V) : Prop :=
  Rd H a (.tup xs) ∨
    ∃ (o : Obj) (its : Array Value) (n : Nat), K.lookup a = some o ∧ o.cls = .type "tuple" ∧ o.data = .seq its n ∧ its.size ≤ sizeLine ∧ Vals xs its.toList
def absV : Value → Option V
  | .none => some .non
  | .bool b => some (.bl b)
  | .int i _ => some (.int i)
  | .str x _ => some (.str x)
  | .bytes b _ => some (.byt b)
  | .float b _ => some (.flt b)
  | .ref a => some (.ref a)
  | .type n => some (.ty n)
  | _ => none
theorem RelV.abs {x : V} {u : Value} (r : RelV x u) : absV u = some x := by
  cases x with
  | non => cases r; rfl
  | bl _ => cases r; rfl
  | int _ => obtain ⟨t, rfl⟩ := r; rfl
  | str _ => obtain ⟨t, rfl⟩ := r; rfl
  | byt _ => obtain ⟨t, rfl⟩ := r; rfl
  | flt _ => obtain ⟨t, rfl⟩ := r; rfl
  | ref _ => cases r; rfl
  | ty _ => cases r; rfl
theorem RelV.inj {x y : V} {u : Value} (r : RelV x u) (q : RelV y u) : x = y := Option.some.inj (r.abs.symm.trans q.abs)
theorem Vals.inj : ∀ {xs ys : List V} {us : List Value}, Vals xs us → Vals ys us → xs = ys
  | _, _, _, .nil, .nil => rfl
  | _, _, _, .cons r t, .cons r' t' => by rw [r.inj r', Vals.inj t t']
section
variable {X : Cx} {pins : List (Addr × Obj)} {σ : St} {H : Hp} {s : Shared} {a : Addr} {xs ys : List V}
theorem SqL.of {K : PySem.W.Frag} (h : H a = some (.lst xs)) : SqL K H a xs := .inl (.inl h)
theorem SqT.of {K : PySem.W.Frag} (h : H a = some (.tup xs)) : SqT K H a xs := .inl (.inl h)
theorem Inv.list (I : Inv X pins σ H s) (h : SqL X.K H a xs) : ∃ its : List Value, Vals xs its ∧ PlainL s.heap a its.toArray ∧ xs.length ≤ sizeLine := by
  rcases h with h | ⟨o, its, n, hk, hc, hd, hs, hz, r⟩
  · obtain ⟨z, its, n, r, e⟩ := h.ok I.hok
    exact ⟨its, r, ⟨_, n, e, rfl, rfl, rfl⟩, z⟩
  · refine ⟨its.toList, r, ⟨o, n, I.kIn a o hk, hc, hd, by simpa using hs⟩, ?_⟩
    have e := r.length
    simp only [Array.length_toList] at e
    omega
theorem Inv.tuple (I : Inv X pins σ H s) (h : SqT X.K H a xs) : ∃ its : List Value, Vals xs its ∧ IsTup s.heap a its.toArray ∧ xs.length ≤ sizeLine := by
  rcases h with h | ⟨o, its, n, hk, hc, hs, hz, r⟩
  · obtain ⟨z, its, r, p⟩ := h.ok I.hok
    exact ⟨its, r, p, z⟩
  · refine ⟨its.toList, r, ⟨o, I.kIn a o hk, hc, n, by simpa using hs⟩, ?_⟩
    have e := r.length
    simp only [Array.length_toList] at e
    omega
theorem Inv.list_inj (I : Inv X pins σ H s) (h : SqL X.K H a xs) (h' : SqL X.K H a ys) : xs = ys := by
  obtain ⟨its, r, ⟨o, n, e, _, _, d⟩, _⟩ := I.list h
  obtain ⟨its', r', ⟨o', n', e', _, _, d'⟩, _⟩ := I.list h'
  rw [e] at e'; cases e'
  rw [d] at d'
  injection d' with d1 _
  have : its = its' := by simpa using congrArg Array.toList d1
  subst this
  exact r.inj r'
theorem Inv.tuple_inj (I : Inv X pins σ H s) (h : SqT X.K H a xs) (h' : SqT X.K H a ys) : xs = ys := by
  obtain ⟨its, r, ⟨o, e, _, n, d⟩, _⟩ := I.tuple h
  obtain ⟨its', r', ⟨o', e', _, n', d'⟩, _⟩ := I.tuple h'
  rw [e] at e'; cases e'
  rw [d] at d'
  injection d' with d1 _
  have : its = its' := by simpa using congrArg Array.toList d1
  subst this
  exact r.inj r'
end

/-! ### another wish about exceptions -/
abbrev Cx.wish (X : Cx) (E : Value → Shared → Prop) : Cx := { X with xe := E }
/-- no exception leaves -/
abbrev Cx.nox (X : Cx) : Cx := X.wish fun _ _ => False
theorem Cx.Ok.wish {X : Cx} (ok : X.Ok) (E : Value → Shared → Prop) : (X.wish E).Ok :=
  ⟨ok.mod, ok.kind, ok.glob, ok.blt, ok.above, ok.inj, ok.has, ok.cab, ok.hd, ok.frames, ok.stk, ok.exf, ok.bs, ok.bsz, ok.noex, ok.exfs, ok.funs, ok.frf⟩
theorem Cx.Ok.unwish {X : Cx} {E : Value → Shared → Prop} (ok : (X.wish E).Ok) : X.Ok :=
  ⟨ok.mod, ok.kind, ok.glob, ok.blt, ok.above, ok.inj, ok.has, ok.cab, ok.hd, ok.frames, ok.stk, ok.exf, ok.bs, ok.bsz, ok.noex, ok.exfs, ok.funs, ok.frf⟩
section
variable {X : Cx} {pins : List (Addr × Obj)} {σ : St} {H : Hp} {s : Shared} {E : Value → Shared → Prop}
theorem Inv.wish (I : Inv X pins σ H s) (E : Value → Shared → Prop) : Inv (X.wish E) pins σ H s := ⟨I.ok.wish E, I.os, I.bare, I.base, I.loc, I.cell, I.free, I.freeC, I.pin, I.hok, I.len⟩
theorem Inv.unwish (I : Inv (X.wish E) pins σ H s) : Inv X pins σ H s := ⟨I.ok.unwish, I.os, I.bare, I.base, I.loc, I.cell, I.free, I.freeC, I.pin, I.hok, I.len⟩
theorem SP.unwish {D : Ends} {f : Flow} {s' : Shared} (h : SP (X.wish E) pins D f s') : SP X pins D f s' := by
  cases f with
  | next => obtain ⟨σ', H', I, q⟩ := h; exact ⟨σ', H', I.unwish, q⟩
  | brk => obtain ⟨σ', H', I, q⟩ := h; exact ⟨σ', H', I.unwish, q⟩
  | cont => obtain ⟨σ', H', I, q⟩ := h; exact ⟨σ', H', I.unwish, q⟩
  | ret u => obtain ⟨v, σ', H', I, r, q⟩ := h; exact ⟨v, σ', H', I.unwish, r, q⟩
theorem PE.nox {e : Expr} {t : TE} (h : PE X.nox e t) : PE X e t := fun pins s σ H Q I hw =>
  wpAny_mono (h pins s σ H Q (I.wish _) hw) (fun _ _ ⟨v, H', I', r, q⟩ => ⟨v, H', I'.unwish, r, q⟩) fun _ _ z => False.elim z
theorem PT.nox {e : Expr} {t : TT} (h : PT X.nox e t) : PT X e t := fun pins s σ H Q I hw =>
  wpAny_mono (h pins s σ H Q (I.wish _) hw) (fun _ _ ⟨H', I', q⟩ => ⟨H', I'.unwish, q⟩) fun _ _ z => False.elim z
theorem PSs.nox {st : List Stmt} {t : TS} (h : PSs X.nox st t) : PSs X st t := fun pins s σ H D I hw =>
  wpAny_mono (h pins s σ H D (I.wish _) hw) (fun _ _ q => q.unwish) fun _ _ z => False.elim z
end

/-! ### blocks and small statements -/
section
variable {X : Cx} {st : Stmt} {rest : List Stmt} {t u : TS} {e : Expr} {te : TE} {pos : Pos}
def tNext : TS := fun D σ H => D.nx σ H
def tSeq (t u : TS) : TS := fun D σ H => t { D with nx := u D } σ H
theorem pss_nil : PSs X [] tNext := fun _ _ σ H _ I h => wpAny_execs_nil ⟨σ, H, I, h⟩
theorem pss_cons (h1 : PS X st t) (h2 : PSs X rest u) : PSs X (st :: rest) (tSeq t u) := by
  intro pins s σ H D I h
  refine wpAny_execs_cons (thn (h1 pins s σ H { D with nx := u D } I h) fun f s1 q => ?_)
  cases f with
  | next =>
    obtain ⟨σ', H', I', q⟩ := q
    exact h2 pins s1 σ' H' D I' q
  | ret v => exact q
  | brk => exact q
  | cont => exact q
theorem pss_one (h1 : PS X st t) : PSs X [st] t := by
  intro pins s σ H D I h
  refine wpAny_execs_cons (thn (h1 pins s σ H D I h) fun f s1 q => ?_)
  cases f with
  | next => exact wpAny_execs_nil q
  | ret v => exact q
  | brk => exact q
  | cont => exact q
def tBreak : TS := fun D σ H => D.bk σ H
def tCont : TS := fun D σ H => D.ct σ H
/-- in a def's body nothing is shown -/
theorem Inv.quiet {pins : List (Addr × Obj)} {σ : St} {H : Hp} {s : Shared} (I : Inv X pins σ H s) : interactive X.env = false := by simp [interactive, I.ok.kind]
/-- an expression whose value is dropped -/
def tDrop (te : TE) : TS := fun D σ H => te σ H fun _ H1 => D.nx σ H1
theorem ps_expr (he : PE X e te) (hs : swapsWith e none pos.line X.env = pure false := by rfl) : PS X (.Expr e pos) (tDrop te) := by
  intro pins s σ H D I h
  exact wpAny_Expr_any (thn (he pins s σ H _ I h) fun v s1 ⟨x, H1, I1, r1, q1⟩ => ⟨σ, H1, I1, q1⟩) I.quiet hs
def tRet (te : TE) : TS := fun D σ H => te σ H D.rt
theorem ps_ret (he : PE X e te) : PS X (.Return (some e) pos) (tRet te) := by
  intro pins s σ H D I h
  exact wpAny_Return_some (thn (he pins s σ H _ I h) fun v s1 ⟨x, H1, I1, r1, q1⟩ => ⟨x, σ, H1, I1, r1, q1⟩)
def tRetN : TS := fun D _ H => D.rt .non H
def tIfS (c : TT) (t u : TS) : TS := fun D σ H => c σ H fun b H1 => if b = true then t D σ H1 else u D σ H1
theorem ps_if {c : Expr} {a b : List Stmt} {tc : TT} (hc : PT X c tc) (ha : PSs X a t) (hb : PSs X b u) : PS X (.If c a b pos) (tIfS tc t u) := by
  intro pins s σ H D I h
  refine wpAny_If (thn (hc pins s σ H _ I h) fun d s1 ⟨H1, I1, q1⟩ => ?_)
  cases d with
  | true => exact ha pins s1 σ H1 D I1 q1
  | false => exact hb pins s1 σ H1 D I1 q1
/-- code that the proof never comes to -/
def tNever : TS := fun _ _ _ => False
end

/-! ### targets -/
abbrev TG := V → St → Hp → (St → Hp → Prop) → Prop
abbrev TGs := List V → St → Hp → (St → Hp → Prop) → Prop
def PG (X : Cx) (target : Expr) (t : TG) : Prop :=
  ∀ (pins : List (Addr × Obj)) (s : Shared) (σ : St) (H : Hp) (v : V) (u : Value) (Q : St → Hp → Prop), Inv X pins σ H s → RelV v u → t v σ H Q →
    wpAny (model X.prog X.w) X.A (assign target X.env u) (fun _ s' => ∃ σ' H', Inv X pins σ' H' s' ∧ Q σ' H') X.xe s
/-- several targets, one after another -/
def PGs (X : Cx) (ts : List Expr) (t : TGs) : Prop :=
  ∀ (pins : List (Addr × Obj)) (s : Shared) (σ : St) (H : Hp) (vs : List V) (us : List Value) (Q : St → Hp → Prop), Inv X pins σ H s → Vals vs us → t vs σ H Q →
    wpAny (model X.prog X.w) X.A (assignInOrder ((assignEach ts X.env).map (·.2)) us) (fun _ s' => ∃ σ' H', Inv X pins σ' H' s' ∧ Q σ' H') X.xe s
/-- o[i] = v, by values -/
abbrev TSet := V → V → V → Hp → (Hp → Prop) → Prop
def PSet (X : Cx) (t : TSet) : Prop :=
  ∀ (pins : List (Addr × Obj)) (s : Shared) (σ : St) (H : Hp) (o i v : V) (ov iv u : Value) (Q : Hp → Prop), Inv X pins σ H s → RelV o ov → RelV i iv → RelV v u → t o i v H Q →
    wpAny (model X.prog X.w) X.A (setItem ov iv u) (fun _ s' => ∃ H', Inv X pins σ H' s' ∧ Q H') X.xe s
/-- a op= b, by values -/
abbrev TIp := V → V → Hp → VK → Prop
def PIp (X : Cx) (op : Operator) (t : TIp) : Prop :=
  ∀ (pins : List (Addr × Obj)) (s : Shared) (σ : St) (H : Hp) (x y : V) (v u : Value) (Q : VK), Inv X pins σ H s → RelV x v → RelV y u → t x y H Q →
    wpAny (model X.prog X.w) X.A (inplaceOp op v u) (EP X pins σ Q) X.xe s
section
variable {X : Cx} {pos : Pos}
def gName (i : Nat) : TG := fun v σ H Q => Q (σ.set i (some v)) H
theorem pg_name {i : Nat} {x : Str} (hN : X.N.Nodup) (hi : X.N[i]? = some x) (hx : Loc X.env.scope x) (hf : X.fn x = true ∨ X.env.scope.names.lookup x = some .local := by first | exact .inl rfl | exact .inr rfl | assumption) : PG X (.Name x pos) (gName i) := by
  intro pins s σ H v u Q I r h
  exact wpAny_assign_Name (store_ok I hN hi hx r (fun s' I' => ⟨_, H, I', h⟩) hf)
def gNil : TGs := fun vs σ H Q => vs = [] ∧ Q σ H
def gCons (t : TG) (u : TGs) : TGs := fun vs σ H Q => ∃ v r, vs = v :: r ∧ t v σ H fun σ' H' => u r σ' H' Q
/-- (a, b, ..) = a tuple of that length -/
def gTup (K : PySem.W.Frag) (n : Nat) (t : TGs) : TG := fun v σ H Q => ∃ a xs, v = .ref a ∧ SqT K H a xs ∧ xs.length = n ∧ t xs σ H Q
/-- o[i] = .. -/
def gSub (to ti : TE) (t : TSet) : TG := fun v σ H Q => to σ H fun o H1 => ti σ H1 fun i H2 => t o i v H2 fun H3 => Q σ H3
theorem pg_sub {o i : Expr} {to ti : TE} {t : TSet} (ho : PE X o to) (hi : PE X i ti) (hs : PSet X t)
    (ha : ∀ v, assign (.Subscript o i pos) X.env v = (do
      let ov ← holding [v] (eval o X.env)
      let iv ← holding [v, ov] (eval i X.env)
      standAt pos
      holding [v, ov, iv] (setItem ov iv v)
      release [v, ov, iv] []) := by intro _; rfl) : PG X (.Subscript o i pos) (gSub to ti t) := by
  intro pins s σ H v u Q I r h
  rw [ha]
  refine wpAny_bind (wpAny_holding (thn (ho pins s σ H _ I h) fun ov s1 ⟨x, H1, I1, r1, q1⟩ => ?_))
  refine wpAny_bind (wpAny_holding (thn (hi pins s1 σ H1 _ I1 q1) fun iv s2 ⟨y, H2, I2, r2, q2⟩ => ?_))
  refine wpAny_bind (wpAny_standAt (wpAny_bind (wpAny_holding (thn (hs pins s2 σ H2 x y v ov iv u _ I2 r1 r2 r q2) fun _ s3 ⟨H3, I3, q3⟩ => ?_))))
  exact wpAny_release ⟨σ, H3, I3, q3⟩
/-- target = value -/
def tAsg (te : TE) (g : TG) : TS := fun D σ H => te σ H fun x H1 => g x σ H1 D.nx
theorem ps_asg {tg e : Expr} {te : TE} {g : TG} (he : PE X e te) (hg : PG X tg g) (hs : swapsWithSole [tg] e pos.line X.env = pure false := by rfl) (hw : swappedStores [tg] e X.env = pure none := by rfl)
    (h1 : (assignEach [tg] X.env).map (·.2) = [assign tg X.env] := by rfl) : PS X (.Assign [tg] e pos) (tAsg te g) := by
  intro pins s σ H D I h
  refine wpAny_Assign_stores (thn (he pins s σ H _ I h) fun v s1 ⟨x, H1, I1, r1, q1⟩ => ?_) hs hw
  rw [h1]
  exact thn (hg pins s1 σ H1 x v _ I1 r1 q1) fun _ s2 q => q
/-- name = value -/
theorem ps_set {i : Nat} {x : Str} {e : Expr} {te : TE} {pos' : Pos} (hN : X.N.Nodup) (hi : X.N[i]? = some x) (hx : Loc X.env.scope x) (he : PE X e te) (hs : swapsWith e (some (.Name x pos')) pos.line X.env = pure false := by rfl) (hf : X.fn x = true ∨ X.env.scope.names.lookup x = some .local := by first | exact .inl rfl | exact .inr rfl | assumption) :
    PS X (.Assign [.Name x pos'] e pos) (tAsg te (gName i)) := by
  intro pins s σ H D I h
  refine wpAny_Assign_Name (thn (he pins s σ H _ I h) fun v s1 ⟨y, H1, I1, r1, q1⟩ => ?_) hs
  exact store_ok I1 hN hi hx r1 (fun s2 I2 => ⟨_, H1, I2, q1⟩) hf
/-- a, b = x, y with plain local names: stored from the right; the pair itself is not tracked (the opening rows as in PyProof/Rows/TupAssign.lean:23) -/
def tPar (i j : Nat) (ta : TA) : TS := fun D σ H => ta σ H fun vs H1 => ∃ v w, vs = [v, w] ∧ D.nx ((σ.set i (some v)).set j (some w)) H1
/-- name op= e -/
def tAug (i : Nat) (te : TE) (ti : TIp) : TS := fun D σ H => ∃ x, σ[i]? = some (some x) ∧ te σ H fun y H1 => ti x y H1 fun z H2 => D.nx (σ.set i (some z)) H2
/-- o[i] op= e -/
def tAugS (to ti te : TE) (tget : V → V → Hp → VK → Prop) (tip : TIp) (tset : TSet) : TS := fun D σ H => to σ H fun o H1 => ti σ H1 fun i H2 => tget o i H2 fun x H3 => te σ H3 fun y H4 => tip x y H4 fun z H5 => tset o i z H5 fun H6 => D.nx σ H6
/-- o[i], by values -/
def PGet (X : Cx) (t : V → V → Hp → VK → Prop) : Prop :=
  ∀ (pins : List (Addr × Obj)) (s : Shared) (σ : St) (H : Hp) (o i : V) (ov iv : Value) (Q : VK), Inv X pins σ H s → RelV o ov → RelV i iv → t o i H Q →
    wpAny (model X.prog X.w) X.A (getItem ov iv) (EP X pins σ Q) X.xe s
/-- ints -/
def ipI (f : Int → Int → Int) : TIp := fun x y H Q => ∃ i j, x = .int i ∧ y = .int j ∧ Q (.int (f i j)) H
end

/-! ### while -/
section
variable {X : Cx} {pos : Pos}
/-- the invariant W with its measure -/
def tWhile (c : TT) (tb : TS) : TS := fun D σ H => ∃ W : Nat → St → Hp → Prop, (∃ m, W m σ H) ∧ ∀ m σ H, W m σ H →
  c σ H fun b H1 => if b = true then ∃ N : St → Hp → Prop, (∀ σ' H', N σ' H' → ∃ m', m' < m ∧ W m' σ' H') ∧ tb { D with nx := N, ct := N, bk := D.nx } σ H1 else D.nx σ H1
theorem ps_while {c : Expr} {body : List Stmt} {tc : TT} {tb : TS} (hp : PassesOwn (model X.prog X.w) X.A X.env X.xe) (hc : PT X c tc) (hb : PSs X body tb) : PS X (.While c body [] pos) (tWhile tc tb) := by
  intro pins s σ H D I h
  obtain ⟨W, ⟨m0, w0⟩, turn⟩ := h
  refine wpAny_While (codeAny_whileLoop (fun n s' => ∃ σ' H', Inv X pins σ' H' s' ∧ W n σ' H') ?_ m0 ⟨σ, H, I, w0⟩)
  rintro n s1 ⟨σ1, H1, I1, w1⟩
  refine wpAny_passesOwn hp (thn (hc pins s1 σ1 H1 _ I1 (turn n σ1 H1 w1)) fun b s2 ⟨H2, I2, q2⟩ => ?_)
  cases b with
  | true =>
    obtain ⟨N, hN, q2⟩ := q2
    rw [if_pos rfl]
    refine wpAny_passesOwn hp (thn (hb pins s2 σ1 H2 _ I2 q2) fun f s3 q3 => ?_)
    cases f with
    | next =>
      obtain ⟨σ3, H3, I3, n3⟩ := q3
      obtain ⟨m', hm, w3⟩ := hN σ3 H3 n3
      exact ⟨m', hm, σ3, H3, I3, w3⟩
    | cont =>
      obtain ⟨σ3, H3, I3, n3⟩ := q3
      obtain ⟨m', hm, w3⟩ := hN σ3 H3 n3
      exact ⟨m', hm, σ3, H3, I3, w3⟩
    | brk => exact q3
    | ret v => exact q3
  | false =>
    rw [if_neg Bool.false_ne_true]
    exact wpAny_execs_nil ⟨σ1, H2, I2, q2⟩
end

/-! ### what a loop or a comprehension walks -/
/-- at turn i: it yields x (the heap may grow), or it stops -/
structure It where
  go : Nat → Hp → Prop
  yld : Nat → Hp → V → Hp → Prop
  stop : Nat → Hp → Prop
/-- the iterator's own objects may turn: they are not the frame's, not pinned, younger than the entry (or a comprehension's own) -/
def FpOk (X : Cx) (pins : List (Addr × Obj)) (H : Hp) (b : Addr) : Prop :=
  H b = none ∧ b ≠ X.env.locals ∧ b ∉ X.fs ∧ (b ∈ X.ex ∨ X.s₀.heap.objs.size ≤ b) ∧ (∀ x c, X.env.cells.lookup x = some c → c ≠ b) ∧ ∀ p ∈ X.pn ++ pins, p.1 ≠ b
theorem Inv.fpOk {X : Cx} {pins : List (Addr × Obj)} {σ : St} {H H' : Hp} {s : Shared} {b : Addr} (I : Inv X pins σ H s) (hb : s.heap.objs.size ≤ b) (hn : H' b = none) : FpOk X pins H' b := by
  refine ⟨hn, Nat.ne_of_gt (Nat.lt_of_lt_of_le I.lt hb), I.nofs hb, .inr (Nat.le_trans I.sz hb), fun x c e z => ?_, fun p hp z => ?_⟩
  · obtain ⟨v, q⟩ := I.cell x c e
    exact absurd (Nat.lt_of_lt_of_le q.lt (by rw [z]; exact hb)) (Nat.lt_irrefl _)
  · exact absurd (Nat.lt_of_lt_of_le (Heap.lt_size (I.pin p hp).1) (by rw [z]; exact hb)) (Nat.lt_irrefl _)
structure Turn (P : Program) (w : World) (K : PySem.W.Frag) (tg : Expr) (J : It) (fp : List Addr) (it : Addr) (tn : Nat → Heap → Prop) : Prop where
  mem : it ∈ fp
  obj : ∀ i h, tn i h → ∀ b ∈ fp, ∃ o, h.get? b = some o ∧ ∀ v, o.data ≠ .cell v
  keep : ∀ i h h', tn i h → (∀ b ∈ fp, ∀ o, h.get? b = some o → h'.get? b = some o) → tn i h'
  item : ∀ (X : Cx), X.prog = P → X.w = w → X.K = K → X.calm = true → ∀ (i : Nat) (pins : List (Addr × Obj)) (s : Shared) (σ : St) (H : Hp) (E : Value → Shared → Prop), Inv X pins σ H s → (∀ b ∈ fp, FpOk X pins H b) → tn i s.heap → J.go i H →
    wpAny (model P w) X.A (pyNext (.ref it)) (fun r s1 => ∃ u, r = some u ∧
      wpAny (model P w) X.A (letOwnedTupleGo tg (.ref it) u) (fun _ s2 => ∃ x H', Inv X pins σ H' s2 ∧ RelV x u ∧ J.yld i H x H' ∧ tn (i + 1) s2.heap ∧ ∀ b ∈ fp, H' b = none) E s1) E s
  done : ∀ (X : Cx), X.prog = P → X.w = w → X.K = K → X.calm = true → ∀ (i : Nat) (pins : List (Addr × Obj)) (s : Shared) (σ : St) (H : Hp) (E : Value → Shared → Prop), Inv X pins σ H s → (∀ b ∈ fp, FpOk X pins H b) → tn i s.heap → J.stop i H →
    wpAny (model P w) X.A (pyNext (.ref it)) (fun r s1 => r = none ∧ Inv X pins σ H s1) E s
  self : ∀ (A : Around) (i : Nat) (s : Shared) (Q : Value → Shared → Prop) (E : Value → Shared → Prop), tn i s.heap → Q (.ref it) s → wpAny (model P w) A (pyIter (.ref it)) Q E s
abbrev TI := St → Hp → (It → Hp → Prop) → Prop
/-- an iterator has come -/
def PIE (X : Cx) (pins : List (Addr × Obj)) (σ : St) (tg : Expr) (R : It → Hp → Prop) (itv : Value) (s2 : Shared) : Prop :=
  ∃ (it : Addr) (fp : List Addr) (tn : Nat → Heap → Prop) (J : It) (H' : Hp), itv = .ref it ∧ Inv X pins σ H' s2 ∧ Turn X.prog X.w X.K tg J fp it tn ∧ tn 0 s2.heap ∧ (∀ b ∈ fp, FpOk X pins H' b) ∧ R J H'
def PI (X : Cx) (tg iter : Expr) (wi : TI) : Prop :=
  ∀ (pins : List (Addr × Obj)) (s : Shared) (σ : St) (H : Hp) (R : It → Hp → Prop), Inv X pins σ H s → wi σ H R →
    wpAny (model X.prog X.w) X.A (eval iter X.env) (fun v s1 => wpAny (model X.prog X.w) X.A (pyIter v) (PIE X pins σ tg R) X.xe s1) X.xe s

/-- the step ahead of the store is nothing for an iterator that keeps no tuple -/
theorem go_of {M : Model} {A : Around} {E : Value → Shared → Prop} {s : Shared} {tg : Expr} {it : Addr} {u : Value} {o : Obj} {n : String} {vs : Array Value} {Q : Unit → Shared → Prop} (ho : s.heap.get? it = some o) (hc : o.cls = .type n) (hd : o.data = .fields vs)
    (hn : ["enumerate", "zip", "dict_itemiterator", "dict_reverseitemiterator", "odict_iterator", "itertools.zip_longest", "itertools.pairwise"].contains n = false) (hQ : Q () s) : wpAny M A (letOwnedTupleGo tg (.ref it) u) Q E s := by
  unfold letOwnedTupleGo
  cases tg <;> first
    | exact wpAny_pure hQ
    | (cases u <;> first
        | exact wpAny_pure hQ
        | (refine wpAny_bind (wpAny_load ho ?_)
           rw [hc, hd]
           show wpAny M A (if (["enumerate", "zip", "dict_itemiterator", "dict_reverseitemiterator", "odict_iterator", "itertools.zip_longest", "itertools.pairwise"].contains n && vs[0]? == some (rawInt _)) = true then _ else _) Q E s
           rw [if_neg (by intro h; rw [hn, Bool.false_and] at h; cases h)]
           exact wpAny_pure hQ))

/-- the list at a, as it stands at each turn (a loop may append to it) -/
def Itl (K : PySem.W.Frag) (a : Addr) : It :=
  ⟨fun i H => ∃ xs x, SqL K H a xs ∧ xs[i]? = some x, fun i H x H' => H' = H ∧ ∀ xs, SqL K H a xs → xs[i]? = some x, fun i H => ∃ xs, SqL K H a xs ∧ xs.length ≤ i⟩
def Itt (K : PySem.W.Frag) (a : Addr) : It :=
  ⟨fun i H => ∃ xs x, SqT K H a xs ∧ xs[i]? = some x, fun i H x H' => H' = H ∧ ∀ xs, SqT K H a xs → xs[i]? = some x, fun i H => ∃ xs, SqT K H a xs ∧ xs.length ≤ i⟩
/-- lo, lo + 1, .. (n of them) -/
def Itr (lo : Int) (n : Nat) : It := ⟨fun i _ => i < n, fun i H x H' => H' = H ∧ x = .int (lo + i), fun i _ => n ≤ i⟩
theorem turn_list {P : Program} {w : World} {K : PySem.W.Frag} {tg : Expr} (a it : Addr) : Turn P w K tg (Itl K a) [it] it (fun i h => h.IsListIter it a i) where
  mem := by simp
  obj := fun i h st b hb => by
    have e : b = it := by simpa using hb
    subst e
    obtain ⟨o, e, c, d⟩ := st
    exact ⟨o, e, fun v z => by rw [d] at z; cases z⟩
  keep := fun i h h' st k => st.at fun o e => k it (by simp) o e
  item := by
    intro X hP hw hK hc i pins s σ H E I hf st hg
    subst hP hw hK
    obtain ⟨xs, x, hq, hx⟩ := hg
    obtain ⟨its, rv, p, hz⟩ := I.list hq
    obtain ⟨u, hu, ru⟩ := rv.get hx
    obtain ⟨f0, f1, f2, f3, f4, f5⟩ := hf it (by simp)
    refine wpAny_pyNext_list_item st p.isList (x := u) (by simpa using hu) fun h' st' sb => ?_
    have I1 : Inv X pins σ H { s with heap := h' } := I.turned (t' := s.toks) (fun b o hb e => (sb.2 b hb).trans e) f0 f1 f3 f4 f5
    obtain ⟨o, e, c, d⟩ := id st'
    exact ⟨u, rfl, go_of (s := { s with heap := h' }) e c d (by decide) ⟨x, H, I1, ru, ⟨rfl, fun ys hy => by rw [I.list_inj hy hq]; exact hx⟩, st', fun b hb => (hf b hb).1⟩⟩
  done := by
    intro X hP hw hK hc i pins s σ H E I hf st hg
    subst hP hw hK
    obtain ⟨xs, hq, hx⟩ := hg
    obtain ⟨its, rv, p, hz⟩ := I.list hq
    obtain ⟨f0, f1, f2, f3, f4, f5⟩ := hf it (by simp)
    have hl := rv.length
    exact wpAny_pyNext_list_end (I.ok.hd hc) st p.isList (by simp; omega) fun h' eb => ⟨rfl, I.turned (t' := s.toks) (fun b o hb e => eb b o hb e) f0 f1 f3 f4 f5⟩
  self := fun _ _ _ _ _ st h => wpAny_pyIter_listiter st h
theorem turn_tuple {P : Program} {w : World} {K : PySem.W.Frag} {tg : Expr} (a it : Addr) : Turn P w K tg (Itt K a) [it] it (fun i h => h.IsTupleIter it a i) where
  mem := by simp
  obj := fun i h st b hb => by
    have e : b = it := by simpa using hb
    subst e
    obtain ⟨o, e, c, d⟩ := st
    exact ⟨o, e, fun v z => by rw [d] at z; cases z⟩
  keep := fun i h h' st k => st.at fun o e => k it (by simp) o e
  item := by
    intro X hP hw hK hc i pins s σ H E I hf st hg
    subst hP hw hK
    obtain ⟨xs, x, hq, hx⟩ := hg
    obtain ⟨its, rv, p, hz⟩ := I.tuple hq
    obtain ⟨u, hu, ru⟩ := rv.get hx
    obtain ⟨f0, f1, f2, f3, f4, f5⟩ := hf it (by simp)
    refine wpAny_pyNext_tuple_item st (show s.heap.IsTuple a its.toArray from p) (x := u) (by simpa using hu) fun h' st' sb => ?_
    have I1 : Inv X pins σ H { s with heap := h' } := I.turned (t' := s.toks) (fun b o hb e => (sb.2 b hb).trans e) f0 f1 f3 f4 f5
    obtain ⟨o, e, c, d⟩ := id st'
    exact ⟨u, rfl, go_of (s := { s with heap := h' }) e c d (by decide) ⟨x, H, I1, ru, ⟨rfl, fun ys hy => by rw [I.tuple_inj hy hq]; exact hx⟩, st', fun b hb => (hf b hb).1⟩⟩
  done := by
    intro X hP hw hK hc i pins s σ H E I hf st hg
    subst hP hw hK
    obtain ⟨xs, hq, hx⟩ := hg
    obtain ⟨its, rv, p, hz⟩ := I.tuple hq
    obtain ⟨f0, f1, f2, f3, f4, f5⟩ := hf it (by simp)
    have hl := rv.length
    exact wpAny_pyNext_tuple_end (I.ok.hd hc) st (show s.heap.IsTuple a its.toArray from p) (by simp; omega) fun h' eb => ⟨rfl, I.turned (t' := s.toks) (fun b o hb e => eb b o hb e) f0 f1 f3 f4 f5⟩
  self := fun _ _ _ _ _ st h => wpAny_pyIter_tupleiter st h
theorem turn_range {P : Program} {w : World} {K : PySem.W.Frag} {tg : Expr} (it : Addr) (lo : Int) (n : Nat) : Turn P w K tg (Itr lo n) [it] it (fun i h => IsRangeIter h it (lo + (i : Nat) * 1) ((n : Int) - (i : Nat)) 1) where
  mem := by simp
  obj := fun i h st b hb => by
    have e : b = it := by simpa using hb
    subst e
    exact ⟨_, st, fun v z => by
      have z' : Data.fields _ = Data.cell v := z
      cases z'⟩
  keep := fun i h h' st k => k it (by simp) _ st
  item := by
    intro X hP hw hK hc i pins s σ H E I hf st hg
    subst hP hw hK
    obtain ⟨f0, f1, f2, f3, f4, f5⟩ := hf it (by simp)
    have W := Walks.range (prog := X.prog) (w := X.w) (I.ok.hd hc) it lo 1 n
    refine W.item i s _ _ hg st fun v h' tk hv st' kk => ?_
    obtain ⟨t, rfl⟩ := hv
    have I1 : Inv X pins σ H { s with heap := h', toks := tk } := I.turned (fun b o hb e => kk b o (by simpa using hb) e) f0 f1 f3 f4 f5
    refine ⟨_, rfl, go_of (s := { s with heap := h', toks := tk }) (n := "range_iterator") st' rfl rfl (by decide) ⟨.int (lo + i), H, I1, ⟨t, ?_⟩, ⟨rfl, rfl⟩, st', fun b hb => (hf b hb).1⟩⟩
    rw [Int.mul_one]
  done := by
    intro X hP hw hK hc i pins s σ H E I hf st hg
    subst hP hw hK
    obtain ⟨f0, f1, f2, f3, f4, f5⟩ := hf it (by simp)
    exact wpAny_pyNext_range_end (I.ok.hd hc) st (by have : n ≤ i := hg; omega) fun h' eb => ⟨rfl, I.turned (t' := s.toks) (fun b o hb e => eb b o hb e) f0 f1 f3 f4 f5⟩
  self := fun _ _ _ _ _ st h => wpAny_pyIter_rangeiter st h
end L2

namespace L2
open PySem PySem.Spec PyProof.Rows
section
variable {X : Cx} {tg : Expr}
def iList (K : PySem.W.Frag) (tl : TE) : TI := fun σ H R => tl σ H fun x H1 => ∃ a, x = .ref a ∧ (∃ xs, SqL K H1 a xs) ∧ R (Itl K a) H1
def iTup (K : PySem.W.Frag) (tl : TE) : TI := fun σ H R => tl σ H fun x H1 => ∃ a, x = .ref a ∧ (∃ xs, SqT K H1 a xs) ∧ R (Itt K a) H1
/-- a range object just made, walked -/
theorem range_it {pins : List (Addr × Obj)} {σ : St} {H : Hp} {s : Shared} {R : It → Hp → Prop} {E : Value → Shared → Prop} {lo hi : Int} {t u v : Tok} {tk : Nat} (I : Inv X pins σ H s) (h1 : -(2 ^ 62) ≤ lo) (h2 : lo < 2 ^ 62) (h3 : -(2 ^ 62) ≤ hi) (h4 : hi < 2 ^ 62)
    (q : R (Itr lo (hi - lo).toNat) H) : wpAny (model X.prog X.w) X.A (pyIter (.ref s.heap.objs.size)) (PIE X pins σ tg R) E { s with heap := s.heap.push { cls := .type "range", data := .fields #[.int lo t, .int hi u, .int 1 v] }, toks := tk } := by
  refine wpAny_pyIter_range (IsRange.new ..) (small_one h1 h2 h3 h4) ?_
  have I1 : Inv X pins σ H { s with heap := s.heap.push { cls := .type "range", data := .fields #[.int lo t, .int hi u, .int 1 v] }, toks := tk } := I.kept fun b o e => Heap.get?_push_of_some _ e
  refine ⟨(s.heap.push { cls := .type "range", data := .fields #[.int lo t, .int hi u, .int 1 v] }).objs.size, [(s.heap.push { cls := .type "range", data := .fields #[.int lo t, .int hi u, .int 1 v] }).objs.size], _, _, H, rfl,
    I1.kept (t' := tk) fun b o e => Heap.get?_push_of_some _ e, turn_range _ lo (hi - lo).toNat, ?_, fun b hb => ?_, q⟩
  · have e1 : lo + ((0 : Nat) : Int) * 1 = lo := by simp
    have e2 : (((hi - lo).toNat : Nat) : Int) - ((0 : Nat) : Int) = Builtin.Range.rangeSize lo hi 1 := by rw [rangeSize_one]; split <;> omega
    show IsRangeIter _ _ (lo + ((0 : Nat) : Int) * 1) ((((hi - lo).toNat : Nat) : Int) - ((0 : Nat) : Int)) 1
    rw [e1, e2]
    exact Heap.get?_push_size _ rfl
  · have e : b = (s.heap.push { cls := .type "range", data := .fields #[.int lo t, .int hi u, .int 1 v] }).objs.size := by simpa using hb
    subst e
    exact I1.fpOk (Nat.le_refl _) (I1.hok.fresh (Nat.le_refl _))
def iRng1 (ta : TA) : TI := fun σ H R => ta σ H fun vs H1 => ∃ j : Int, vs = [.int j] ∧ -(2 ^ 62) ≤ j ∧ j < 2 ^ 62 ∧ R (Itr 0 j.toNat) H1
def iRng2 (ta : TA) : TI := fun σ H R => ta σ H fun vs H1 => ∃ i j : Int, vs = [.int i, .int j] ∧ (-(2 ^ 62) ≤ i ∧ i < 2 ^ 62 ∧ -(2 ^ 62) ≤ j ∧ j < 2 ^ 62) ∧ R (Itr i (j - i).toNat) H1
theorem pi_range1 {a : Expr} {ta : TA} {p pos : Pos} (hg : Gl X "range") (hm : X.mg "range" = none) (ha : PA X [a] ta) (hs : starEach [a] X.env = [(false, eval a X.env)] := by rfl) : PI X tg (.Call (.Name "range" p) [a] [] pos) (iRng1 ta) := by
  intro pins s σ H R I h
  refine Call_ (ld_blt I hg hm boot_range (PyProof.Rows.callWith_type1 (thn (ha pos pins s σ H _ I h) fun us s1 ⟨vs, H1, I1, r1, q1⟩ => ?_) hs rfl))
  obtain ⟨j, e, q1, q2, q⟩ := q1
  subst e
  cases r1 with
  | cons r rr =>
    cases rr
    obtain ⟨t, rfl⟩ := r
    exact call_range_1 (range_it I1 (by omega) (by omega) q1 q2 (by simpa using q))
/-! ### for -/
/-- W: the invariant by the turn and a measure; N: what the body is to reach -/
def tFor (wi : TI) (g : TG) (tb : TS) : TS := fun D σ H => wi σ H fun J H1 => ∃ W : Nat → Nat → St → Hp → Prop, (∃ m, W 0 m σ H1) ∧ ∀ i m σ H, W i m σ H →
  (J.stop i H ∧ D.nx σ H) ∨ (J.go i H ∧ ∃ N : St → Hp → Prop, (∀ σ' H', N σ' H' → ∃ m', m' < m ∧ W (i + 1) m' σ' H') ∧ ∀ x H', J.yld i H x H' → g x σ H' fun σ2 H2 => tb { D with nx := N, ct := N, bk := D.nx } σ2 H2)
/-- the records at fp as they stand -/
def pinsAt (fp : List Addr) (h : Heap) : List (Addr × Obj) := fp.filterMap fun b => (h.get? b).map fun o => (b, o)
theorem mem_pinsAt {fp : List Addr} {h : Heap} {b : Addr} {o : Obj} (hb : b ∈ fp) (e : h.get? b = some o) : (b, o) ∈ pinsAt fp h := List.mem_filterMap.mpr ⟨b, hb, by rw [e]; rfl⟩
theorem of_pinsAt {fp : List Addr} {h : Heap} {p : Addr × Obj} (hp : p ∈ pinsAt fp h) : p.1 ∈ fp ∧ h.get? p.1 = some p.2 := by
  obtain ⟨b, hb, e⟩ := List.mem_filterMap.mp hp
  cases q : h.get? b with
  | none => rw [q] at e; cases e
  | some o =>
    rw [q] at e
    have e' : (b, o) = p := Option.some.inj e
    subst e'
    exact ⟨hb, q⟩
theorem Inv.pinned {pins : List (Addr × Obj)} {σ : St} {H : Hp} {s : Shared} {fp : List Addr} (I : Inv X pins σ H s) (hf : ∀ b ∈ fp, FpOk X pins H b) (ho : ∀ b ∈ fp, ∃ o, s.heap.get? b = some o ∧ ∀ v, o.data ≠ .cell v) : Inv X (pins ++ pinsAt fp s.heap) σ H s :=
  I.pins_of fun p hp => (List.mem_append.mp hp).elim (fun z => I.pin p (List.mem_append_right _ z)) fun z => by
    obtain ⟨hb, e⟩ := of_pinsAt z
    obtain ⟨f0, f1, f2, _⟩ := hf p.1 hb
    obtain ⟨o, e', d⟩ := ho p.1 hb
    rw [e] at e'; cases e'
    exact ⟨e, f0, f1, f2, d⟩
theorem Inv.unpinned {pins pl : List (Addr × Obj)} {σ : St} {H : Hp} {s : Shared} (I : Inv X (pins ++ pl) σ H s) : Inv X pins σ H s := I.pins_of fun p hp => I.pin p (List.mem_append_right _ (List.mem_append_left _ hp))
theorem ps_for {iter : Expr} {body : List Stmt} {wi : TI} {g : TG} {tb : TS} {pos : Pos} (hp : PassesOwn (model X.prog X.w) X.A X.env X.xe) (hc : X.calm = true) (hi : PI X tg iter wi) (hg : PG X tg g) (hb : PSs X body tb)
    (hs : ∀ x, foldedSetIterable iter X.env x = pure x := by intro _; rfl) : PS X (.For tg iter body [] pos) (tFor wi g tb) := by
  intro pins s σ H D I h
  refine wpAny_For (thn (hi pins s σ H _ I h) fun v s1 h1 => thn h1 fun itv s2 h2 => ?_) hs
  obtain ⟨it, fp, tn, J, H2, e, I2, T, st2, f2, W, ⟨m0, w0⟩, turn⟩ := h2
  subst e
  -- what stays true of the iterator's objects through the loop
  have stat : ∀ {H' : Hp}, (∀ b ∈ fp, H' b = none) → ∀ b ∈ fp, FpOk X pins H' b := fun hn b hb => ⟨hn b hb, (f2 b hb).2⟩
  refine codeAny_forLoop_any (fun n s' => ∃ i σ' H', Inv X pins σ' H' s' ∧ tn i s'.heap ∧ (∀ b ∈ fp, H' b = none) ∧ W i n σ' H') ?_ m0 ⟨0, σ, H2, I2, st2, fun b hb => (f2 b hb).1, w0⟩
  rintro n s3 ⟨i, σ3, H3, I3, st3, fr3, w3⟩
  rcases turn i n σ3 H3 w3 with ⟨stop, qn⟩ | ⟨go, N, hN, step⟩
  · refine wpAny_passesOwn hp (thn (T.done X rfl rfl rfl hc i pins s3 σ3 H3 X.xe I3 (stat fr3) st3 stop) fun r s4 ⟨hr, I4⟩ => ?_)
    subst hr
    exact wpAny_execs_nil ⟨σ3, H3, I4, qn⟩
  · refine wpAny_passesOwn hp (thn (T.item X rfl rfl rfl hc i pins s3 σ3 H3 X.xe I3 (stat fr3) st3 go) fun r s4 ⟨u, hr, h4⟩ => ?_)
    subst hr
    refine wpAny_passesOwn hp (thn h4 fun _ s5 ⟨x, H5, I5, r5, y5, st5, fr5⟩ => ?_)
    have I5' := I5.pinned (stat fr5) (T.obj _ _ st5)
    refine wpAny_passesOwn hp (thn (hg _ s5 σ3 H5 x u _ I5' r5 (step x H5 y5)) fun _ s6 ⟨σ6, H6, I6, q6⟩ => ?_)
    refine wpAny_passesOwn hp (thn (hb _ s6 σ6 H6 _ I6 q6) fun f s7 q7 => ?_)
    have again : ∀ {σ7 : St} {H7 : Hp}, Inv X (pins ++ pinsAt fp s5.heap) σ7 H7 s7 → N σ7 H7 → ∃ m, m < n ∧ ∃ i σ' H', Inv X pins σ' H' s7 ∧ tn i s7.heap ∧ (∀ b ∈ fp, H' b = none) ∧ W i m σ' H' := fun {σ7 H7} I7 n7 => by
      obtain ⟨m', hm, w7⟩ := hN σ7 H7 n7
      refine ⟨m', hm, i + 1, σ7, H7, I7.unpinned, T.keep _ _ _ st5 fun b hb o e => (I7.pin (b, o) (List.mem_append_right _ (List.mem_append_right _ (mem_pinsAt hb e)))).1, fun b hb => ?_, w7⟩
      obtain ⟨o, e, d⟩ := T.obj _ _ st5 b hb
      exact (I7.pin (b, o) (List.mem_append_right _ (List.mem_append_right _ (mem_pinsAt hb e)))).2.1
    cases f with
    | next => obtain ⟨σ7, H7, I7, n7⟩ := q7; exact again I7 n7
    | cont => obtain ⟨σ7, H7, I7, n7⟩ := q7; exact again I7 n7
    | brk => obtain ⟨σ7, H7, I7, q7⟩ := q7; exact ⟨σ7, H7, I7.unpinned, q7⟩
    | ret v => obtain ⟨x7, σ7, H7, I7, r7, q7⟩ := q7; exact ⟨x7, σ7, H7, I7.unpinned, r7, q7⟩
end

/-! ### the forms one uses -/
end L2

namespace L2
open PySem PySem.Spec PyProof.Rows

abbrev R2 := V → V → Hp → VK → Prop
/-- a two-place operation on values: f is binaryOp op, inplaceOp op or compareOp op -/
def OpR (X : Cx) (f : Value → Value → Sem Value) (r : R2) : Prop :=
  ∀ (pins : List (Addr × Obj)) (s : Shared) (σ : St) (H : Hp) (x y : V) (v u : Value) (Q : VK), Inv X pins σ H s → RelV x v → RelV y u → r x y H Q →
    wpAny (model X.prog X.w) X.A (f v u) (EP X pins σ Q) X.xe s
/-- a one-place operation -/
def UnR (X : Cx) (f : Value → Sem Value) (r : V → Hp → VK → Prop) : Prop :=
  ∀ (pins : List (Addr × Obj)) (s : Shared) (σ : St) (H : Hp) (x : V) (v : Value) (Q : VK), Inv X pins σ H s → RelV x v → r x H Q →
    wpAny (model X.prog X.w) X.A (f v) (EP X pins σ Q) X.xe s
/-- a call of a value that is known (a builtin, a type) with values -/
def CallR (X : Cx) (f : Value) (r : List V → Hp → VK → Prop) : Prop :=
  ∀ (pins : List (Addr × Obj)) (s : Shared) (σ : St) (H : Hp) (xs : List V) (us : List Value) (Q : VK), Inv X pins σ H s → Vals xs us → r xs H Q →
    wpAny (model X.prog X.w) X.A (call f us) (EP X pins σ Q) X.xe s
/-- a value's truth -/
def TruR (X : Cx) (r : V → Hp → (Bool → Hp → Prop) → Prop) : Prop :=
  ∀ (pins : List (Addr × Obj)) (s : Shared) (σ : St) (H : Hp) (x : V) (v : Value) (Q : Bool → Hp → Prop), Inv X pins σ H s → RelV x v → r x H Q →
    wpAny (model X.prog X.w) X.A (truthy v) (TP X pins σ Q) X.xe s

def tOp (r : R2) (ta tb : TE) : TE := fun σ H Q => ta σ H fun x H1 => tb σ H1 fun y H2 => r x y H2 Q
def tUn (r : V → Hp → VK → Prop) (ta : TE) : TE := fun σ H Q => ta σ H fun x H1 => r x H1 Q
/-- ints in, under C, and a value out -/
def rI (C : Int → Int → Prop) (g : Int → Int → V) : R2 := fun x y H Q => ∃ i j, x = .int i ∧ y = .int j ∧ C i j ∧ Q (g i j) H
def rI0 (g : Int → Int → V) : R2 := fun x y H Q => ∃ i j, x = .int i ∧ y = .int j ∧ Q (g i j) H
def rU (g : Int → V) : V → Hp → VK → Prop := fun x H Q => ∃ i, x = .int i ∧ Q (g i) H

section
variable {X : Cx} {a b c : Expr} {ta tb tc : TE} {pos : Pos}

theorem binT (ha : PE X a ta) (hb : PE X b tb) {pins : List (Addr × Obj)} {s : Shared} {σ : St} {H : Hp} {R : V → V → Hp → Prop} (I : Inv X pins σ H s)
    (h : ta σ H fun x H1 => tb σ H1 fun y H2 => R x y H2) {Q : Value → Shared → Prop} {f : Value → Value → Sem Value}
    (hf : ∀ v u s2 x y H2, Inv X pins σ H2 s2 → RelV x v → RelV y u → R x y H2 → wpAny (model X.prog X.w) X.A (f v u) Q X.xe s2) :
    wpAny (model X.prog X.w) X.A (eval a X.env) (fun v s₁ => wpAny (model X.prog X.w) X.A (eval b X.env) (fun u s₂ => wpAny (model X.prog X.w) X.A (f v u) Q X.xe s₂) X.xe s₁) X.xe s := by
  refine thn (ha pins s σ H _ I h) fun v s1 ⟨x, H1, I1, r1, q1⟩ => ?_
  refine thn (hb pins s1 σ H1 _ I1 q1) fun u s2 ⟨y, H2, I2, r2, q2⟩ => ?_
  exact hf v u s2 x y H2 I2 r1 r2 q2

theorem pe_op {op : Operator} {r : R2} (ho : OpR X (binaryOp op) r) (ha : PE X a ta) (hb : PE X b tb) : PE X (.BinOp a op b pos) (tOp r ta tb) := by
  intro pins s σ H Q I h
  exact wpAny_BinOp (binT ha hb I h fun v u s2 x y H2 I2 rx ry q => ho pins s2 σ H2 x y v u Q I2 rx ry q)
/-! ### ints -/
theorem opI {f : Value → Value → Sem Value} {C : Int → Int → Prop} {g : Int → Int → Int}
    (rule : ∀ (i j : Int) (t u : Tok) (s : Shared) (Q : Value → Shared → Prop) (E : Value → Shared → Prop), C i j → Q (.int (g i j) s.toks) { s with toks := s.toks + 1 } → wpAny (model X.prog X.w) X.A (f (.int i t) (.int j u)) Q E s) :
    OpR X f (rI C fun i j => .int (g i j)) := by
  intro pins s σ H x y v u Q I rx ry h
  obtain ⟨i, j, rfl, rfl, hc, q⟩ := h
  obtain ⟨t, rfl⟩ := rx
  obtain ⟨t', rfl⟩ := ry
  exact rule i j t t' s _ _ hc ⟨.int (g i j), H, I.tok _, ⟨_, rfl⟩, q⟩
theorem opI0 {f : Value → Value → Sem Value} {g : Int → Int → Int}
    (rule : ∀ (i j : Int) (t u : Tok) (s : Shared) (Q : Value → Shared → Prop) (E : Value → Shared → Prop), Q (.int (g i j) s.toks) { s with toks := s.toks + 1 } → wpAny (model X.prog X.w) X.A (f (.int i t) (.int j u)) Q E s) :
    OpR X f (rI0 fun i j => .int (g i j)) := by
  intro pins s σ H x y v u Q I rx ry h
  obtain ⟨i, j, rfl, rfl, q⟩ := h
  obtain ⟨t, rfl⟩ := rx
  obtain ⟨t', rfl⟩ := ry
  exact rule i j t t' s _ _ ⟨.int (g i j), H, I.tok _, ⟨_, rfl⟩, q⟩
theorem opB0 {f : Value → Value → Sem Value} {g : Int → Int → Bool}
    (rule : ∀ (i j : Int) (t u : Tok) (s : Shared) (Q : Value → Shared → Prop) (E : Value → Shared → Prop), Q (.bool (g i j)) s → wpAny (model X.prog X.w) X.A (f (.int i t) (.int j u)) Q E s) :
    OpR X f (rI0 fun i j => .bl (g i j)) := by
  intro pins s σ H x y v u Q I rx ry h
  obtain ⟨i, j, rfl, rfl, q⟩ := h
  obtain ⟨t, rfl⟩ := rx
  obtain ⟨t', rfl⟩ := ry
  exact rule i j t t' s _ _ ⟨.bl (g i j), H, I, rfl, q⟩

def CDiv (i j : Int) : Prop := 0 < j ∧ j < 1073741824
def CDivN (i j : Int) : Prop := j ≠ 0 ∧ j.natAbs < 1073741824
def CPow (i j : Int) : Prop := 0 ≤ j ∧ j ≤ 1000000 ∧ i.natAbs < 2 ^ 64
def CMul (i j : Int) : Prop := (-(2 ^ 64) < i ∧ i < 2 ^ 64) ∨ (-(2 ^ 64) < j ∧ j < 2 ^ 64)
theorem CMul.ok {i j : Int} (h : CMul i j) : IntMulOk i j := by
  rcases h with ⟨h1, h2⟩ | ⟨h1, h2⟩
  · exact .of_left (intBits_le_64 h1 h2)
  · exact .of_right (intBits_le_64 h1 h2)
theorem two_pow_nn (k : Nat) : (0 : Int) ≤ 2 ^ k := by
  rw [two_pow_cast]
  exact Int.natCast_nonneg _

theorem op_add : OpR X (binaryOp .Add) (rI0 fun i j => .int (i + j)) := opI0 fun _ _ _ _ _ _ _ q => add_int q
theorem op_sub : OpR X (binaryOp .Sub) (rI0 fun i j => .int (i - j)) := opI0 fun _ _ _ _ _ _ _ q => sub_int q
theorem op_mul : OpR X (binaryOp .Mult) (rI CMul fun i j => .int (i * j)) := opI fun _ _ _ _ _ _ _ hc q => mul_int q hc.ok
/-- % by a positive divisor of any size -/
theorem op_mod : OpR X (binaryOp .Mod) (rI (fun _ j => 0 < j) fun i j => .int (i % j)) := opI fun i j _ _ _ _ _ hc q => by
  have h1 : (0 : Int) < j := hc
  exact mod_int' (by omega) (by rw [Int.fmod_eq_emod_of_nonneg i (by omega)]; exact q)
theorem op_shl : OpR X (binaryOp .LShift) (rI CPow fun i j => .int (i * 2 ^ j.toNat)) := opI fun _ _ _ _ _ _ _ hc q => lshift_int_small hc.1 hc.2.1 hc.2.2 q
theorem op_shr : OpR X (binaryOp .RShift) (rI (fun _ j => 0 ≤ j) fun i j => .int (i / 2 ^ j.toNat)) := opI fun i j _ _ _ _ _ hc q =>
  rshift_int hc (by rw [Int.fdiv_eq_ediv_of_nonneg i (two_pow_nn _)]; exact q)
theorem op_and : OpR X (binaryOp .BitAnd) (rI0 fun i j => .int (Builtin.bitAnd i j)) := opI0 fun _ _ _ _ _ _ _ q => and_int q
theorem op_or : OpR X (binaryOp .BitOr) (rI0 fun i j => .int (Builtin.bitOr i j)) := opI0 fun _ _ _ _ _ _ _ q => or_int q
theorem op_xor : OpR X (binaryOp .BitXor) (rI0 fun i j => .int (Builtin.bitXor i j)) := opI0 fun _ _ _ _ _ _ _ q => xor_int q

/-! ### bools among ints: n += (a < b) -/
end

/-! ### comparisons -/
/-- the scalars that == tells apart as data does -/
def scal : V → V → Bool
  | .non, .non => true | .non, .int _ => true | .int _, .non => true | .non, .bl _ => true | .bl _, .non => true | .non, .str _ => true | .str _, .non => true
  | .int _, .int _ => true | .bl _, .bl _ => true | .str _, .str _ => true | .byt _, .byt _ => true
  | .int _, .str _ => true | .str _, .int _ => true | .bl _, .str _ => true | .str _, .bl _ => true
  | _, _ => false
def rEq : R2 := fun x y H Q => scal x y = true ∧ Q (.bl (decide (x = y))) H
def rNe : R2 := fun x y H Q => scal x y = true ∧ Q (.bl (!decide (x = y))) H

theorem dec_int {i j : Int} : decide (V.int i = V.int j) = (i == j) := by
  rw [Bool.eq_iff_iff]
  simp
theorem dec_bl {i j : Bool} : decide (V.bl i = V.bl j) = (i == j) := by
  rw [Bool.eq_iff_iff]
  simp
theorem dec_str {i j : Str} : decide (V.str i = V.str j) = (i == j) := by
  rw [Bool.eq_iff_iff]
  simp
theorem dec_byt {i j : Array UInt8} : decide (V.byt i = V.byt j) = (i.toList == j.toList) := by
  rw [Bool.eq_iff_iff]
  cases i
  cases j
  simp

section
variable {X : Cx} {a b c : Expr} {ta tb tc : TE} {pos : Pos}
theorem fin_bl {pins : List (Addr × Obj)} {σ : St} {H : Hp} {s : Shared} {Q : VK} {k k' : Bool} (I : Inv X pins σ H s) (q : Q (.bl k) H) (e : k = k') : EP X pins σ Q (.bool k') s := by
  subst e
  exact ⟨.bl k, H, I, rfl, q⟩
theorem op_eq : OpR X (compareOp .Eq) rEq := by
  intro pins s σ H x y v u Q I rx ry h
  obtain ⟨hs, q⟩ := h
  cases x with
  | non =>
    cases rx
    cases y with
    | non => cases ry; exact PySem.EqNone.eq_none_none (fin_bl I q (by simp))
    | bl j => cases ry; exact PySem.EqNone.eq_none_bool (fin_bl I q (by simp))
    | int j => obtain ⟨t', rfl⟩ := ry; exact PySem.EqNone.eq_none_int (fin_bl I q (by simp))
    | str j => obtain ⟨t', rfl⟩ := ry; exact PySem.EqNone.eq_none_str (fin_bl I q (by simp))
    | _ => exact absurd (show false = true from hs) Bool.false_ne_true
  | bl i =>
    cases rx
    cases y with
    | non => cases ry; exact PySem.EqNone.eq_bool_none (fin_bl I q (by simp))
    | bl j => cases ry; exact eq_bool (fin_bl I q dec_bl)
    | str j => obtain ⟨t', rfl⟩ := ry; exact PySem.EqMixed.eq_bool_str (fin_bl I q (by simp))
    | _ => exact absurd (show false = true from hs) Bool.false_ne_true
  | int i =>
    obtain ⟨t, rfl⟩ := rx
    cases y with
    | non => cases ry; exact PySem.EqNone.eq_int_none (fin_bl I q (by simp))
    | int j => obtain ⟨t', rfl⟩ := ry; exact eq_int (fin_bl I q dec_int)
    | str j => obtain ⟨t', rfl⟩ := ry; exact PySem.EqMixed.eq_int_str (fin_bl I q (by simp))
    | _ => exact absurd (show false = true from hs) Bool.false_ne_true
  | str i =>
    obtain ⟨t, rfl⟩ := rx
    cases y with
    | non => cases ry; exact PySem.EqNone.eq_str_none (fin_bl I q (by simp))
    | bl j => cases ry; exact PySem.EqMixed.eq_str_bool (fin_bl I q (by simp))
    | int j => obtain ⟨t', rfl⟩ := ry; exact PySem.EqMixed.eq_str_int (fin_bl I q (by simp))
    | str j => obtain ⟨t', rfl⟩ := ry; exact eq_str (fin_bl I q dec_str)
    | _ => exact absurd (show false = true from hs) Bool.false_ne_true
  | byt i =>
    obtain ⟨t, rfl⟩ := rx
    cases y with
    | byt j => obtain ⟨t', rfl⟩ := ry; exact PySem.W.eq_bytes (fin_bl I q dec_byt)
    | _ => exact absurd (show false = true from hs) Bool.false_ne_true
  | _ => cases y <;> exact absurd (show false = true from hs) Bool.false_ne_true
theorem op_ne : OpR X (compareOp .NotEq) rNe := by
  intro pins s σ H x y v u Q I rx ry h
  obtain ⟨hs, q⟩ := h
  cases x with
  | non =>
    cases rx
    cases y with
    | non => cases ry; exact PySem.EqNone.ne_none_none (fin_bl I q (by simp))
    | bl j => cases ry; exact PySem.EqNone.ne_none_bool (fin_bl I q (by simp))
    | int j => obtain ⟨t', rfl⟩ := ry; exact PySem.EqNone.ne_none_int (fin_bl I q (by simp))
    | str j => obtain ⟨t', rfl⟩ := ry; exact PySem.EqNone.ne_none_str (fin_bl I q (by simp))
    | _ => exact absurd (show false = true from hs) Bool.false_ne_true
  | bl i =>
    cases rx
    cases y with
    | non => cases ry; exact PySem.EqNone.ne_bool_none (fin_bl I q (by simp))
    | bl j => cases ry; exact ne_bool (fin_bl I q (congrArg not dec_bl))
    | str j => obtain ⟨t', rfl⟩ := ry; exact PySem.EqMixed.ne_bool_str (fin_bl I q (by simp))
    | _ => exact absurd (show false = true from hs) Bool.false_ne_true
  | int i =>
    obtain ⟨t, rfl⟩ := rx
    cases y with
    | non => cases ry; exact PySem.EqNone.ne_int_none (fin_bl I q (by simp))
    | int j => obtain ⟨t', rfl⟩ := ry; exact ne_int (fin_bl I q (congrArg not dec_int))
    | str j => obtain ⟨t', rfl⟩ := ry; exact PySem.EqMixed.ne_int_str (fin_bl I q (by simp))
    | _ => exact absurd (show false = true from hs) Bool.false_ne_true
  | str i =>
    obtain ⟨t, rfl⟩ := rx
    cases y with
    | non => cases ry; exact PySem.EqNone.ne_str_none (fin_bl I q (by simp))
    | bl j => cases ry; exact PySem.EqMixed.ne_str_bool (fin_bl I q (by simp))
    | int j => obtain ⟨t', rfl⟩ := ry; exact PySem.EqMixed.ne_str_int (fin_bl I q (by simp))
    | str j => obtain ⟨t', rfl⟩ := ry; exact ne_str (fin_bl I q (congrArg not dec_str))
    | _ => exact absurd (show false = true from hs) Bool.false_ne_true
  | byt i =>
    obtain ⟨t, rfl⟩ := rx
    cases y with
    | byt j => obtain ⟨t', rfl⟩ := ry; exact PySem.W.ne_bytes (fin_bl I q (congrArg not dec_byt))
    | _ => exact absurd (show false = true from hs) Bool.false_ne_true
  | _ => cases y <;> exact absurd (show false = true from hs) Bool.false_ne_true

theorem op_lt : OpR X (compareOp .Lt) (rI0 fun i j => .bl (decide (i < j))) := opB0 fun _ _ _ _ _ _ _ q => lt_int q
theorem op_le : OpR X (compareOp .LtE) (rI0 fun i j => .bl (decide (i ≤ j))) := opB0 fun _ _ _ _ _ _ _ q => le_int q
theorem op_gt : OpR X (compareOp .Gt) (rI0 fun i j => .bl (decide (j < i))) := opB0 fun _ _ _ _ _ _ _ q => gt_int q
/-- the one string within the other -/
theorem op_in_str : OpR X (compareOp .In) (fun x y H Q => ∃ i j, x = .str i ∧ y = .str j ∧ Q (.bl (!(Builtin.Str.occurrences j i 0 j.length 1).isEmpty)) H) := by
  intro pins s σ H x y v u Q I rx ry h
  obtain ⟨i, j, rfl, rfl, q⟩ := h
  obtain ⟨t, rfl⟩ := rx
  obtain ⟨t', rfl⟩ := ry
  exact in_str (fin_bl I q rfl)

/-- is None, is not None: the right side a value none -/
theorem op_isN : OpR X (compareOp .Is) (fun x y H Q => y = .non ∧ Q (.bl (decide (x = .non))) H) := by
  intro pins s σ H x y v u Q I rx ry h
  obtain ⟨rfl, q⟩ := h
  cases ry
  refine is_none_gen (fin_bl I q ?_)
  cases x <;> first
    | (cases rx; rfl)
    | (obtain ⟨t, rfl⟩ := rx; rfl)
theorem op_notN : OpR X (compareOp .IsNot) (fun x y H Q => y = .non ∧ Q (.bl (!decide (x = .non))) H) := by
  intro pins s σ H x y v u Q I rx ry h
  obtain ⟨rfl, q⟩ := h
  cases ry
  refine isnot_none_gen (fin_bl I q ?_)
  cases x <;> first
    | (cases rx; rfl)
    | (obtain ⟨t, rfl⟩ := rx; rfl)

/-- is, is not of two objects that are tracked lists or instances -/
def isObj : HO → Bool
  | .lst _ => true
  | .ins _ _ _ => true
  | _ => false
/-- two rules for one operation: by cases -/
theorem OpR.or {f : Value → Value → Sem Value} {r r' : R2} (h : OpR X f r) (h' : OpR X f r') : OpR X f (fun x y H Q => r x y H Q ∨ r' x y H Q) := by
  intro pins s σ H x y v u Q I rx ry q
  rcases q with q | q
  · exact h pins s σ H x y v u Q I rx ry q
  · exact h' pins s σ H x y v u Q I rx ry q

theorem nomark (b : Expr) {op : CmpOp} (h : op ≠ .In := by decide) (h2 : op ≠ .NotIn := by decide) : behindInMarks op b = false := by
  have e1 : (op == CmpOp.In) = false := by cases op <;> first | rfl | exact absurd rfl h
  have e2 : (op == CmpOp.NotIn) = false := by cases op <;> first | rfl | exact absurd rfl h2
  cases b <;> simp [behindInMarks, e1, e2]
/-- a comparison as a value; hm: nomark b, or (for in, not in) by with_unfolding_all rfl -/
theorem pe_cmpR {op : CmpOp} {r : R2} (ho : OpR X (compareOp op) r) (ha : PE X a ta) (hb : PE X b tb) (hm : behindInMarks op b = false) : PE X (.Compare a [op] [b] pos) (tOp r ta tb) := by
  intro pins s σ H Q I h
  exact wpAny_Compare1 (binT ha hb I h fun v u s2 x y H2 I2 rx ry q => ho pins s2 σ H2 x y v u Q I2 rx ry q) hm
/-- a reading of a value as a test -/
def tTest (t : TE) : TT := fun σ H Q => t σ H fun x H' => ∃ k, x = .bl k ∧ Q k H'
theorem pt_cmpR {op : CmpOp} {r : R2} (ho : OpR X (compareOp op) r) (ha : PE X a ta) (hb : PE X b tb) (hm : behindInMarks op b = false) : PT X (.Compare a [op] [b] pos) (tTest (tOp r ta tb)) := by
  intro pins s σ H Q I h
  refine wpAny_isTrue_Compare1 (thn (ha pins s σ H _ I h) fun v s1 ⟨x, H1, I1, r1, q1⟩ => thn (hb pins s1 σ H1 _ I1 q1) fun u s2 ⟨y, H2, I2, r2, q2⟩ =>
    thn (ho pins s2 σ H2 x y v u _ I2 r1 r2 q2) fun c s3 ⟨z, H3, I3, r3, k, e, q3⟩ => ?_) hm
  subst e
  cases r3
  exact wpAny_truthy_bool ⟨H3, I3, q3⟩
/-- a op1 b op2 c -/
def tChain (r r' : R2) (ta tb tc : TE) : TE := fun σ H Q => ta σ H fun x H1 => tb σ H1 fun y H2 => r x y H2 fun z H3 => ∃ k, z = .bl k ∧
  (if k = true then tc σ H3 fun w' H4 => r' y w' H4 Q else Q (.bl false) H3)
/-! ### truth -/
/-- a value's truth by the abstract heap -/
def TruV (K : PySem.W.Frag) (x : V) (H : Hp) (k : Bool) : Prop :=
  match x with
  | .non => k = false
  | .bl b => k = b
  | .int i => k = (i != 0)
  | .str y => y.length ≤ sizeLine ∧ k = ((y.length : Int) != 0)
  | .byt y => y.size ≤ sizeLine ∧ k = ((y.size : Int) != 0)
  | .ref p => (∃ xs, SqL K H p xs ∧ k = !xs.isEmpty) ∨ (∃ xs, SqT K H p xs ∧ k = !xs.isEmpty) ∨ ∃ kvs, H p = some (.dK kvs) ∧ k = !kvs.isEmpty
  | _ => False
theorem isEmpty_kv {κ : Type} {kvs : List (κ × V)} {vs : List (κ × Value)} (r : KV kvs vs) : (!vs.isEmpty) = !kvs.isEmpty := by
  cases r <;> rfl
theorem isEmpty_of {xs : List V} {its : List Value} (r : Vals xs its) : (!its.toArray.isEmpty) = !xs.isEmpty := by
  cases r <;> simp
theorem line63 : (sizeLine : Nat) < 2 ^ 63 := by rw [sizeLine_eq]; decide
theorem tru_ok : TruR X (fun x H Q => ∃ k, TruV X.K x H k ∧ Q k H) := by
  intro pins s σ H x v Q I rx h
  obtain ⟨k, e, q⟩ := h
  have hl := line63
  have hs : sizeLine = 16777216 := sizeLine_eq
  cases x with
  | non =>
    cases rx
    have e' : k = false := e
    subst e'
    exact truthy_none ⟨H, I, q⟩
  | bl b =>
    cases rx
    have e' : k = b := e
    subst e'
    exact wpAny_truthy_bool ⟨H, I, q⟩
  | int i =>
    obtain ⟨t, rfl⟩ := rx
    have e' : k = (i != 0) := e
    subst e'
    exact PySem.P.truthy_int ⟨H, I, q⟩
  | str y =>
    obtain ⟨t, rfl⟩ := rx
    obtain ⟨hy, e'⟩ : y.length ≤ sizeLine ∧ k = ((y.length : Int) != 0) := e
    subst e'
    exact PySem.P.truthy_str (by omega) ⟨H, I.tok _, q⟩
  | byt y =>
    obtain ⟨t, rfl⟩ := rx
    obtain ⟨hy, e'⟩ : y.size ≤ sizeLine ∧ k = ((y.size : Int) != 0) := e
    subst e'
    exact PySem.W.truthy_bytes (by omega) ⟨H, I.tok _, q⟩
  | ref p =>
    cases rx
    have e' : (∃ xs, SqL X.K H p xs ∧ k = !xs.isEmpty) ∨ (∃ xs, SqT X.K H p xs ∧ k = !xs.isEmpty) ∨ ∃ kvs, H p = some (.dK kvs) ∧ k = !kvs.isEmpty := e
    rcases e' with ⟨xs, hx, e'⟩ | ⟨xs, hx, e'⟩ | ⟨kvs, hx, e'⟩
    · subst e'
      obtain ⟨its, r, pl, hz⟩ := I.list hx
      have hlen := r.length
      exact wpAny_truthy_list pl.isList (by simp only [List.size_toArray]; omega) ⟨H, I.tok _, by rw [isEmpty_of r]; exact q⟩
    · subst e'
      obtain ⟨its, r, pl, hz⟩ := I.tuple hx
      have hlen := r.length
      exact truthy_tuple pl (by simp only [List.size_toArray]; omega) ⟨H, I.tok _, by rw [isEmpty_of r]; exact q⟩
    · subst e'
      obtain ⟨hz, hS, vs, r, m⟩ : kvs.length ≤ sizeLine ∧ (p == sysModules) = false ∧ ∃ vs, KV kvs vs ∧ s.heap.DictOf (mixKind X.prog X.w) p vs := I.hok p _ hx
      have hlen : kvs.length = vs.length := Paired.length r
      exact wpAny_truthy_dict hS m (by omega) ⟨H, I.tok _, by rw [isEmpty_kv r]; exact q⟩
  | _ => exact (show False from e).elim
/-- any expression whose test is its value's truth (a name, a call, a subscript, a field ..: he by fun _ => rfl) -/
theorem pt_truth (ha : PE X a ta) (he : ∀ whole, isTrue a X.env whole = (do let v ← whole; standAt a.pos; holding [v] (truthy v))) :
    PT X a (fun σ H Q => ta σ H fun x H' => ∃ k, TruV X.K x H' k ∧ Q k H') := by
  intro pins s σ H Q I h
  exact isTrue_plain (thn (ha pins s σ H _ I h) fun v s1 ⟨x, H1, I1, r1, q1⟩ => tru_ok pins s1 σ H1 x v Q I1 r1 q1) (he _)

/-! ### strs and bytes -/
theorem op_add_str : OpR X (binaryOp .Add) (fun x y H Q => ∃ i j, x = .str i ∧ y = .str j ∧ i.length + j.length ≤ sizeLine ∧ Q (.str (i ++ j)) H) := by
  intro pins s σ H x y v u Q I rx ry h
  obtain ⟨i, j, rfl, rfl, hz, q⟩ := h
  obtain ⟨t, rfl⟩ := rx
  obtain ⟨t', rfl⟩ := ry
  exact add_str (fun t' tk => ⟨.str (i ++ j), H, I.tok _, ⟨_, rfl⟩, q⟩) hz
def PlainIxT (b : Expr) : Prop := ∀ o i, subscripted b false o i = operate [o, i] (getItem o i)
/-! ### scalar builtins, by CallR -/
theorem vals1 {x : V} {us : List Value} (r : Vals [x] us) : ∃ u, us = [u] ∧ RelV x u := by
  cases r with
  | cons r1 r2 => cases r2; exact ⟨_, rfl, r1⟩
theorem vals2 {x y : V} {us : List Value} (r : Vals [x, y] us) : ∃ u w', us = [u, w'] ∧ RelV x u ∧ RelV y w' := by
  cases r with
  | cons r1 r2 =>
    cases r2 with
    | cons r3 r4 => cases r4; exact ⟨_, _, rfl, r1, r3⟩
theorem call_min2 (hc : X.calm = true) : CallR X (.builtin "min") (fun xs H Q => ∃ i j, xs = [.int i, .int j] ∧ Q (.int (if j < i then j else i)) H) := by
  intro pins s σ H xs us Q I r h
  obtain ⟨i, j, rfl, q⟩ := h
  obtain ⟨u, w', rfl, ⟨t, rfl⟩, ⟨t', rfl⟩⟩ := vals2 r
  refine min_two_ints (I.ok.hd hc) fun h' tk k => ⟨_, H, I.kept k, ?_, q⟩
  by_cases hj : j < i
  · rw [if_pos hj, if_pos hj]; exact ⟨_, rfl⟩
  · rw [if_neg hj, if_neg hj]; exact ⟨_, rfl⟩
theorem call_str_int : CallR X (.type "str") (fun xs H Q => ∃ i, xs = [.int i] ∧ i.natAbs.log2 < 1920 ∧ Q (.str (toString i)) H) := by
  intro pins s σ H xs us Q I r h
  obtain ⟨i, rfl, hz, q⟩ := h
  obtain ⟨u, rfl, t, rfl⟩ := vals1 r
  exact PySem.P.str_of_int hz ⟨.str _, H, I.tok _, ⟨_, rfl⟩, q⟩
/-- len of a str, a bytes, a list, a tuple -/
def LenV (K : PySem.W.Frag) (x : V) (H : Hp) (n : Nat) : Prop :=
  match x with
  | .str y => y.length ≤ sizeLine ∧ n = y.length
  | .byt y => y.size ≤ sizeLine ∧ n = y.size
  | .ref p => (∃ xs, SqL K H p xs ∧ n = xs.length) ∨ ∃ xs, SqT K H p xs ∧ n = xs.length
  | _ => False
end
end L2

namespace L2
open PySem PySem.Spec PyProof.Rows

/-! ### an instance, its attributes a map -/
structure ObjM (h : Heap) (x dx C : Addr) (mA : Str → Option Value) : Prop where
  obj : h.get? x = some (PySem.W.instObj C dx)
  ns : h.Ns1 dx mA
  ne : dx ≠ x

theorem lookIn_ns {h : Heap} {dx : Addr} {mA : Str → Option Value} (n : h.Ns1 dx mA) : ∃ od, h.get? dx = some od ∧ ∀ name, PySem.W.lookIn name od = some (mA name) := by
  obtain ⟨o, es, ep, ho, hd, hk, _, hm⟩ := n
  refine ⟨o, ho, fun name => ?_⟩
  have e := hm name
  unfold nsFind findBy at e
  rw [← Array.find?_toList] at e
  unfold PySem.W.lookIn
  rw [hd]
  dsimp only
  split
  · rename_i y q
    rw [q] at e
    exact congrArg some e
  · rename_i q
    rw [q] at e
    have a : es.toList.any (·.refKey) = false := by
      rw [List.any_eq_false]
      intro y hy
      obtain ⟨z, t, hkey⟩ := hk y (Array.mem_toList_iff.mp hy)
      simp [DictEntry.refKey, hkey]
    have a' : ¬ es.toList.any (·.refKey) = true := by rw [a]; exact Bool.false_ne_true
    rw [if_neg a']
    exact congrArg some e

theorem ObjM.look {h : Heap} {x dx C : Addr} {mA : Str → Option Value} (I : ObjM h x dx C mA) : ∃ od, PySem.W.InstAt h x (PySem.W.instObj C dx) C (some od) ∧ ∀ name, PySem.W.lookIn name od = some (mA name) :=
  let ⟨od, ho, hl⟩ := lookIn_ns I.ns
  ⟨od, ⟨I.obj, rfl, rfl, ho⟩, hl⟩

section
variable {prog : Program} {w : World} {A : Around} {E : Value → Shared → Prop} {s : Shared} {K : PySem.W.Frag} {x dx C f : Addr} {mA : Str → Option Value} {name : Str} {v : Value}

theorem get_map {expr : Bool} {Q : Value → Shared → Prop} (X : K.In s.heap) (I : ObjM s.heap x dx C mA) (hg : PySem.W.plainGet K C name = true) (hh : PySem.W.hasDictIn K C = true)
    (ha : PySem.W.findIn K (.ref C) name = some none) (hv : mA name = some v) (hv' : PySem.W.handedIn v = true) (h : Q v { s with toks := s.toks + 1 }) :
    wpAny (model prog w) A (getAttr (.ref x) name expr) Q E s := by
  obtain ⟨od, J, hl⟩ := I.look
  exact PySem.W.get_value X J (PySem.W.plainGet_of hg).1 (PySem.W.findObj_own hh ha rfl (by rw [hl, hv])) hv' h

theorem get_meth {pl : Sem Bool} {Q : Value × List Value → Shared → Prop} (X : K.In s.heap) (I : ObjM s.heap x dx C mA) (hg : PySem.W.plainGet K C name = true)
    (hf : PySem.W.findIn K (.ref C) name = some (some (.ref f))) (ht : PySem.W.isFn K (.ref f) = true) (hv : mA name = none) (h : Q (.ref f, [.ref x]) s) :
    wpAny (model prog w) A (getMethod (.ref x) name pl) Q E s := by
  obtain ⟨od, J, hl⟩ := I.look
  exact PySem.W.method_fn X J (PySem.W.plainGet_of hg).1 (PySem.W.plainGet_of hg).2 hf (beq_iff_eq.mp ht) (by show (PySem.W.lookIn name od).map (·.isSome) = some false; rw [hl, hv]; rfl) h

theorem set_map {ns : List Str} {Q : Unit → Shared → Prop} (X : K.In s.heap) (I : ObjM s.heap x dx C mA)
    (hs : PySem.W.findIn K (.ref C) "__setattr__" = some (some (.builtin "object.__setattr__"))) (hp : PySem.W.plainOver K C = true) (ht : PySem.W.takerIn K C name = some none) (hh : PySem.W.hasDictIn K C = true)
    (hw : PySem.Within mA ns) (hsz : ns.length ≤ sizeLine)
    (h : ∀ h', ObjM h' x dx C (fun y => if y = name then some v else mA y) → Heap.SameBut dx s.heap h' → Q () { s with heap := h', toks := s.toks + 2 }) :
    wpAny (model prog w) A (setAttr (.ref x) name v) Q E s := by
  obtain ⟨od, J, hl⟩ := I.look
  refine PySem.W.set_plain X J hs (PySem.W.osa_open (s := { s with toks := s.toks + 1 }) (r := none) X J hp ht fun b => ?_)
  obtain ⟨cd, hc, hd'⟩ := PySem.W.any_some hh
  have hx : s.heap.get? x = some ⟨.ref C, some dx, .plain, #[]⟩ := I.obj
  refine wpAny_bind (wpAny_pure (wpAny_bind (wpAny_bind (wpAny_loadPart hx (wpAny_bind (PySem.W.Looks.here (s := { s with toks := s.toks + 1 }) (PySem.W.looks_clsIn X hc) ?_))))))
  rw [hd']
  refine wpAny_pure (a := some dx) (wpAny_bind (wpAny_pure (wpAny_bind ?_)))
  refine wpAny_nsSet1 (s := { s with toks := s.toks + 1 }) I.ns fun h' hn2 hs2 => ?_
  obtain ⟨oD, esD, epD, hoD, hdD, hcD⟩ := hn2.count (PySem.Within.cons name v hw)
  refine wpAny_bind (wpAny_lookBehind hoD (by rw [hdD]; exact pastItsLine_dict (Nat.le_trans hcD (by rw [List.length_cons]; omega))) ?_)
  exact wpAny_pure (h _ ⟨(hs2.2 _ (Ne.symm I.ne)).trans I.obj, hn2, I.ne⟩ hs2)

/-- C(..): the dict at the heap's end, the instance behind it; then its __init__ -/
theorem make_map {R : Result → Shared → Prop} {vs : List Value} {kw : List (Str × Value)} (X : K.In s.heap) (hm : PySem.W.makesIn K C = true)
    (hi : PySem.W.findIn K (.ref C) "__init__" = some (some (.ref f))) (hf : PySem.W.typeIn K (.ref f) = some (.type "function"))
    (h : codeAny (model prog w) (A.under (.builtin "type.__call__" ⟨.ref C :: vs, kw⟩)) (.call (.ref f) ⟨.ref (s.heap.objs.size + 1) :: vs, kw⟩) (PySem.W.InitBack (s.heap.objs.size + 1) R)
      { s with heap := (s.heap.push PySem.W.emptyDict).push (PySem.W.instObj C s.heap.objs.size) }) :
    codeAny (model prog w) A (.call (.ref C) ⟨vs, kw⟩) R s := by
  obtain ⟨hh, g, d, t, os⟩ := s
  exact PySem.W.make_core (PySem.W.makes_of X hm) (PySem.W.looks_findIn X hi) (fun self => PySem.W.bind_fn X self hf) (.inl rfl) h
end

/-! ### the attributes as a list of pairs -/
def putF (f : Str) (v : V) : List (Str × V) → List (Str × V)
  | [] => [(f, v)]
  | (g, x) :: r => if g = f then (g, v) :: r else (g, x) :: putF f v r
theorem lookup_putF (f g : Str) (v : V) : ∀ fs : List (Str × V), (putF f v fs).lookup g = if g = f then some v else fs.lookup g
  | [] => by
    show List.lookup g [(f, v)] = _
    by_cases h : g = f
    · have hb : (g == f) = true := beq_iff_eq.mpr h
      simp only [List.lookup, hb, if_pos h]
    · have hb : (g == f) = false := beq_eq_false_iff_ne.mpr h
      simp only [List.lookup, hb, if_neg h]
  | (k, x) :: r => by
    have ih := lookup_putF f g v r
    rw [show putF f v ((k, x) :: r) = (if k = f then (k, v) :: r else (k, x) :: putF f v r) from rfl]
    by_cases hk : k = f
    · rw [if_pos hk]
      by_cases h : g = k
      · have hb : (g == k) = true := beq_iff_eq.mpr h
        simp only [List.lookup, hb, if_pos (h.trans hk)]
      · have hb : (g == k) = false := beq_eq_false_iff_ne.mpr h
        simp only [List.lookup, hb, if_neg (fun e : g = f => h (e.trans hk.symm))]
    · rw [if_neg hk]
      by_cases h : g = k
      · have hb : (g == k) = true := beq_iff_eq.mpr h
        simp only [List.lookup, hb, if_neg (fun e : g = f => hk (h.symm.trans e))]
      · have hb : (g == k) = false := beq_eq_false_iff_ne.mpr h
        simp only [List.lookup, hb]
        exact ih
theorem keys_putF (f : Str) (v : V) : ∀ fs : List (Str × V), f ∈ (putF f v fs).map (·.1) ∧ ∀ g, g ∈ fs.map (·.1) → g ∈ (putF f v fs).map (·.1)
  | [] => ⟨by simp [putF], fun g h => by simp at h⟩
  | (k, x) :: r => by
    obtain ⟨i1, i2⟩ := keys_putF f v r
    rw [show putF f v ((k, x) :: r) = (if k = f then (k, v) :: r else (k, x) :: putF f v r) from rfl]
    by_cases hk : k = f
    · rw [if_pos hk]
      subst hk
      exact ⟨by simp, fun g h => by simpa using h⟩
    · rw [if_neg hk]
      refine ⟨?_, fun g h => ?_⟩
      · rw [List.map_cons]
        exact List.mem_cons_of_mem _ i1
      · rw [List.map_cons] at h ⊢
        rcases List.mem_cons.mp h with e | e
        · exact List.mem_cons.mpr (.inl e)
        · exact List.mem_cons_of_mem _ (i2 g e)
theorem length_putF (f : Str) (v : V) : ∀ fs : List (Str × V), (putF f v fs).length ≤ fs.length + 1
  | [] => by simp [putF]
  | (k, x) :: r => by
    have ih := length_putF f v r
    rw [show putF f v ((k, x) :: r) = (if k = f then (k, v) :: r else (k, x) :: putF f v r) from rfl]
    by_cases hk : k = f
    · rw [if_pos hk, List.length_cons, List.length_cons]; omega
    · rw [if_neg hk, List.length_cons, List.length_cons]; omega

theorem RelO.some_of {v : V} {o : Option Value} (r : RelO (some v) o) : ∃ u, o = some u ∧ RelV v u := by
  cases o with
  | none => exact (show False from r).elim
  | some u => exact ⟨u, rfl, r⟩
theorem RelO.none_of {o : Option Value} (r : RelO none o) : o = none := by
  cases o with
  | none => rfl
  | some u => exact (show False from r).elim
theorem handed_of {v : V} {u : Value} (r : RelV v u) : PySem.W.handedIn u = true := by
  cases v with
  | non => cases (show u = Value.none from r); rfl
  | bl b => cases (show u = Value.bool b from r); rfl
  | int i => obtain ⟨t, e⟩ := (show ∃ t, u = Value.int i t from r); cases e; rfl
  | str x => obtain ⟨t, e⟩ := (show ∃ t, u = Value.str x t from r); cases e; rfl
  | byt b => obtain ⟨t, e⟩ := (show ∃ t, u = Value.bytes b t from r); cases e; rfl
  | flt b => obtain ⟨t, e⟩ := (show ∃ t, u = Value.float b t from r); cases e; rfl
  | ref a => cases (show u = Value.ref a from r); rfl
  | ty n => cases (show u = Value.type n from r); rfl

section
variable {P : Program} {w : World} {H H' : Hp} {h h' : Heap} {a C dx : Addr} {fs fs' : List (Str × V)}
theorem ins_get (hok : HOk P w H h) (e : H a = some (.ins C dx fs)) : ∃ mA, ObjM h a dx C mA ∧ (∀ f, RelO (fs.lookup f) (mA f)) ∧ PySem.Within mA (fs.map (·.1)) ∧ fs.length ≤ 1000 ∧ H dx = some (.own a) := by
  obtain ⟨d, z, ne, ob, mA, n, r, q⟩ := (show ObjOk P w H h a (.ins C dx fs) from hok a _ e)
  exact ⟨mA, ⟨ob, n, ne⟩, r, q, z, d⟩
end

/-! ### what of the text a class must have -/
structure Cls (K : PySem.W.Frag) (C : Addr) : Prop where
  pg : PySem.W.plainGet K C Str.empty = true
  hd : PySem.W.hasDictIn K C = true
  po : PySem.W.plainOver K C = true
  sa : PySem.W.findIn K (.ref C) "__setattr__" = some (some (.builtin "object.__setattr__"))
theorem Cls.get {K : PySem.W.Frag} {C : Addr} (c : Cls K C) (f : Str) : PySem.W.plainGet K C f = true := c.pg
/-- no class of it has the name -/
def NoAttr (K : PySem.W.Frag) (C : Addr) (f : Str) : Prop := PySem.W.findIn K (.ref C) f = some none
theorem NoAttr.taker {K : PySem.W.Frag} {C : Addr} {f : Str} (n : NoAttr K C f) : PySem.W.takerIn K C f = some none := by
  unfold PySem.W.takerIn
  rw [show PySem.W.findIn K (.ref C) f = some none from n]
  rfl
/-- a constant of the class -/
structure Con (K : PySem.W.Frag) (C : Addr) (f : Str) (v : V) (u : Value) : Prop where
  at_ : PySem.W.findIn K (.ref C) f = some (some u)
  rel : RelV v u
  get : PySem.W.specialIn K u "__get__" = some none
  cp : PySem.W.copiedNames.contains f = false
/-- a method: a plain def of the class or of one above it -/
structure Meth (K : PySem.W.Frag) (C : Addr) (m : Str) (f : Addr) : Prop where
  at_ : PySem.W.findIn K (.ref C) m = some (some (.ref f))
  fn : PySem.W.isFn K (.ref f) = true
  kp : PySem.W.keepIn K (.ref f) = true

section
variable {X : Cx} {pins : List (Addr × Obj)} {σ : St} {H : Hp} {s : Shared} {a C dx : Addr} {fs : List (Str × V)} {f : Str} {v : V} {A : Around} {E : Value → Shared → Prop}

theorem getattr_ok {b : Bool} {Q : Value → Shared → Prop} (I : Inv X pins σ H s) (e : H a = some (.ins C dx fs)) (c : Cls X.K C) (n : NoAttr X.K C f) (l : fs.lookup f = some v)
    (h : ∀ u s', Inv X pins σ H s' → RelV v u → Q u s') : wpAny (model X.prog X.w) A (getAttr (.ref a) f b) Q E s := by
  obtain ⟨mA, O, r, _, _, _⟩ := ins_get I.hok e
  obtain ⟨u, hu, ru⟩ := RelO.some_of (v := v) (o := mA f) (by rw [← l]; exact r f)
  exact get_map I.kIn O (c.get f) c.hd n hu (handed_of ru) (h u _ (I.tok _) ru)

theorem getmeth_ok {m : Str} {g : Addr} {pl : Sem Bool} {Q : Value × List Value → Shared → Prop} (I : Inv X pins σ H s) (e : H a = some (.ins C dx fs)) (c : Cls X.K C) (k : Meth X.K C m g) (l : fs.lookup m = none)
    (h : Q (.ref g, [.ref a]) s) : wpAny (model X.prog X.w) A (getMethod (.ref a) m pl) Q E s := by
  obtain ⟨mA, O, r, _, _, _⟩ := ins_get I.hok e
  have hn : mA m = none := RelO.none_of (by rw [← l]; exact r m)
  exact get_meth I.kIn O (c.get m) k.at_ k.fn hn h

theorem setattr_ok {y : V} {u : Value} {Q : Unit → Shared → Prop} (I : Inv X pins σ H s) (e : H a = some (.ins C dx fs)) (c : Cls X.K C) (n : NoAttr X.K C f) (hl : fs.length < 1000) (ry : RelV y u)
    (h : ∀ s', Inv X pins σ (upd H a (.ins C dx (putF f y fs))) s' → Q () s') : wpAny (model X.prog X.w) A (setAttr (.ref a) f u) Q E s := by
  obtain ⟨mA, O, r, wi, _, ho⟩ := ins_get I.hok e
  have hz : (fs.map (·.1)).length ≤ sizeLine := by rw [List.length_map, sizeLine_eq]; omega
  refine set_map I.kIn O c.sa c.po n.taker c.hd wi hz fun h' O' sb => h _ ?_
  have hd : ∃ o, h'.get? dx = some o := let ⟨o, _, _, e', _⟩ := O'.ns; ⟨o, e'⟩
  refine I.write (x := a) (e := dx) (by rw [e]; exact True.intro) (.inr ho) (fun b q hb z => (sb.2 b hb).trans z) hd ?_
  refine ⟨by rw [upd_ne O.ne]; exact ho, ?_, O.ne, O'.obj, _, O'.ns, fun g => ?_, fun g hg => ?_⟩
  · have := length_putF f y fs; omega
  · show RelO ((putF f y fs).lookup g) (if g = f then some u else mA g)
    rw [lookup_putF]
    by_cases q : g = f
    · rw [if_pos q, if_pos q]; exact ry
    · rw [if_neg q, if_neg q]; exact r g
  · by_cases q : g = f
    · rw [q]; exact (keys_putF f y fs).1
    · refine (keys_putF f y fs).2 g (wi g fun z => hg ?_)
      show (if g = f then some u else mA g) = none
      rw [if_neg q]; exact z

/-- a new instance, tracked, without attributes -/
theorem Inv.made (I : Inv X pins σ H s) : Inv X pins σ (upd (upd H s.heap.objs.size (.own (s.heap.objs.size + 1))) (s.heap.objs.size + 1) (.ins C s.heap.objs.size []))
    { s with heap := (s.heap.push PySem.W.emptyDict).push (PySem.W.instObj C s.heap.objs.size) } := by
  have e1 : (s.heap.push PySem.W.emptyDict).get? s.heap.objs.size = some PySem.W.emptyDict := Heap.get?_push_size s.heap rfl
  have e2 : ((s.heap.push PySem.W.emptyDict).push (PySem.W.instObj C s.heap.objs.size)).get? (s.heap.objs.size + 1) = some (PySem.W.instObj C s.heap.objs.size) := by
    have := Heap.get?_push_size (s.heap.push PySem.W.emptyDict) (o := PySem.W.instObj C s.heap.objs.size) rfl
    rwa [Heap.size_push] at this
  have e3 : (s.heap.push PySem.W.emptyDict).Ns s.heap.objs.size (fun _ => none) := ⟨PySem.W.emptyDict, #[], _, e1, rfl, (fun e he => absurd he (by simp)), fun _ => rfl⟩
  have I1 := I.laid (a := s.heap.objs.size) (o := .own (s.heap.objs.size + 1)) (h' := s.heap.push PySem.W.emptyDict) (t' := s.toks) (fun b u q => Heap.get?_push_of_some _ q) (Nat.le_refl _) ⟨_, e1⟩
  refine I1.laid (a := s.heap.objs.size + 1) (o := .ins C s.heap.objs.size []) (t' := s.toks) (fun b u q => Heap.get?_push_of_some _ q) (Nat.le_of_eq (Heap.size_push _ _)) ?_
  have ne : s.heap.objs.size ≠ s.heap.objs.size + 1 := Nat.ne_of_lt (Nat.lt_succ_self _)
  refine ⟨by rw [upd_ne ne, upd_same], Nat.zero_le _, ne, e2, fun _ => none, (Heap.Ns1.of_empty e3).at fun o q => Heap.get?_push_of_some _ q, fun _ => True.intro, fun y hy => absurd rfl hy⟩

/-- e.f where nothing but the object is asked: through attributeBase (super) and the last hold -/
theorem attr_of {prog : Program} {w : World} {env : Env} {e : Expr} {f : Str} {pos : Pos} {s : Shared} {Q : Value → Shared → Prop} (hb : attributeBase e f env (eval e env) = eval e env)
    (h : wpAny (model prog w) A (eval e env) (fun o s₁ => wpAny (model prog w) A (getAttr o f true) Q E s₁) E s) : wpAny (model prog w) A (eval (.Attribute e f pos) env) Q E s :=
  Attribute_any_ h (by rw [arm_eval_Attribute, hb])
end

/-! ### readings and rules -/
/-- e.f, an attribute of the instance -/
def tFld (K : PySem.W.Frag) (ta : TE) (f : Str) : TE := fun σ H Q => ta σ H fun x H1 => ∃ a C dx fs v, x = .ref a ∧ H1 a = some (.ins C dx fs) ∧ Cls K C ∧ NoAttr K C f ∧ fs.lookup f = some v ∧ Q v H1
/-- e.f, a constant of the class -/
def tCon (K : PySem.W.Frag) (ta : TE) (f : Str) : TE := fun σ H Q => ta σ H fun x H1 => ∃ a C dx fs v u, x = .ref a ∧ H1 a = some (.ins C dx fs) ∧ Cls K C ∧ Con K C f v u ∧ fs.lookup f = none ∧ Q v H1
/-- e.f = value -/
def sFld (K : PySem.W.Frag) (ta tv : TE) (f : Str) : TS := fun D σ H => tv σ H fun y H1 => ta σ H1 fun x H2 => ∃ a C dx fs, x = .ref a ∧ H2 a = some (.ins C dx fs) ∧ Cls K C ∧ NoAttr K C f ∧ fs.length < 1000 ∧
  D.nx σ (upd H2 a (.ins C dx (putF f y fs)))
/-- an augmented operator on two values -/
def InOp (X : Cx) (op : Operator) (rd : V → V → Hp → VK → Prop) : Prop :=
  ∀ (pins : List (Addr × Obj)) (s : Shared) (σ : St) (H : Hp) (x y : V) (u v : Value) (Q : VK), Inv X pins σ H s → RelV x u → RelV y v → rd x y H Q → wpAny (model X.prog X.w) X.A (inplaceOp op u v) (EP X pins σ Q) X.xe s
/-- e.f op= value -/
def sFldAug (K : PySem.W.Frag) (ta tv : TE) (rd : V → V → Hp → VK → Prop) (f : Str) : TS := fun D σ H => ta σ H fun x H1 => ∃ a C dx fs v, x = .ref a ∧ H1 a = some (.ins C dx fs) ∧ Cls K C ∧ NoAttr K C f ∧ fs.lookup f = some v ∧
  tv σ H1 fun y H2 => rd v y H2 fun z H3 => ∃ dx' fs', H3 a = some (.ins C dx' fs') ∧ fs'.length < 1000 ∧ D.nx σ (upd H3 a (.ins C dx' (putF f z fs')))

section
variable {X : Cx} {o e value : Expr} {f : Str} {pos pos' tpos : Pos} {ta tv : TE}
theorem pe_fld (he : PE X e ta) (hb : attributeBase e f X.env (eval e X.env) = eval e X.env) : PE X (.Attribute e f pos) (tFld X.K ta f) := by
  intro pins s σ H Q I h
  refine attr_of hb (thn (he pins s σ H _ I h) fun u s1 ⟨x, H1, I1, rx, a, C, dx, fs, v, ex, ea, c, n, l, q⟩ => ?_)
  subst ex
  obtain rfl : u = Value.ref a := rx
  exact getattr_ok I1 ea c n l fun u' s2 I2 ru => ⟨v, H1, I2, ru, q⟩
theorem ps_fld (ha : PE X o ta) (hv : PE X value tv) (hs : swapsWith value (some (.Attribute o f pos')) pos.line X.env = pure false) : PS X (.Assign [.Attribute o f pos'] value pos) (sFld X.K ta tv f) := by
  intro pins s σ H D I h
  refine plainObj_wpAny_Assign_Attribute (thn (hv pins s σ H _ I h) fun u s1 ⟨y, H1, I1, ry, q⟩ => thn (ha pins s1 σ H1 _ I1 q) fun ov s2 ⟨x, H2, I2, rx, a, C, dx, fs, ex, ea, c, n, l, q2⟩ => ?_) hs
  subst ex
  obtain rfl : ov = Value.ref a := rx
  exact setattr_ok I2 ea c n l ry fun s3 I3 => ⟨σ, _, I3, q2⟩
def rAdd : V → V → Hp → VK → Prop := fun x y H Q => ∃ i j, x = .int i ∧ y = .int j ∧ Q (.int (i + j)) H
def rSub : V → V → Hp → VK → Prop := fun x y H Q => ∃ i j, x = .int i ∧ y = .int j ∧ Q (.int (i - j)) H
end

/-! ### isinstance -/
section
variable {X : Cx} {pins : List (Addr × Obj)} {σ : St} {H : Hp} {s : Shared} {A : Around} {E : Value → Shared → Prop} {Q : Value → Shared → Prop} {c : Value} {b : Bool}
/-- the type of a value, as the fragment's deciders take it; for an instance its class -/
inductive TyOf (K : PySem.W.Frag) (H : Hp) : V → Value → Prop where
  | non : TyOf K H .non (.type "NoneType")
  | bl (x : Bool) : TyOf K H (.bl x) (.type "bool")
  | int (i : Int) : TyOf K H (.int i) (.type "int")
  | str (x : Str) : TyOf K H (.str x) (.type "str")
  | flt (x : UInt64) : TyOf K H (.flt x) (.type "float")
  | lst {a : Addr} {xs : List V} (e : H a = some (.lst xs)) : TyOf K H (.ref a) (.type "list")
  | frz {a : Addr} {o : Obj} {xs : List V} (e : H a = some (.frz o (.lst xs))) : TyOf K H (.ref a) (.type "list")
  | tup {a : Addr} {xs : List V} (e : H a = some (.tup xs)) : TyOf K H (.ref a) (.type "tuple")
  | dK {a : Addr} {kvs : List (Key × V)} (e : H a = some (.dK kvs)) : TyOf K H (.ref a) (.type "dict")
  | dT {a : Addr} {kvs : List (List Key × V)} (e : H a = some (.dT kvs)) : TyOf K H (.ref a) (.type "dict")
  | ins {a C dx : Addr} {fs : List (Str × V)} (e : H a = some (.ins C dx fs)) (cl : Cls K C) (ha : PySem.W.findIn K (.ref C) "__class__" = some (some (.builtin "object.__class__")))
      (hn : PySem.W.specialIn K (.builtin "object.__class__") "__get__" = some (some (.builtin "getset_descriptor.__get__"))) (htk : PySem.W.takesIn K (.builtin "object.__class__") = some true)
      (hm : PySem.W.mroIn K C (.type "object") = some true) : TyOf K H (.ref a) (.ref C)
/-- isinstance(x, c) for one class c, a built-in or an own one: kitOne's answer -/
theorem isinst_ok {x : V} {u t : Value} (I : Inv X pins σ H s) (rx : RelV x u) (ty : TyOf X.K H x t) (e : PySem.W.kitOne X.K t c = some b) (h : ∀ tk, Q (.bool b) { s with toks := tk }) :
    wpAny (model X.prog X.w) A (call (.builtin "isinstance") [u, c]) Q E s := by
  cases ty with
  | non => cases (show u = Value.none from rx); exact PySem.W.kia_one PySem.W.kitx_none I.kIn True.intro e (fun z => nomatch z) h
  | bl y => cases (show u = Value.bool y from rx); exact PySem.W.kia_one PySem.W.kitx_bool I.kIn True.intro e (fun z => nomatch z) h
  | int i => obtain ⟨t, q⟩ := (show ∃ t, u = Value.int i t from rx); cases q; exact PySem.W.kia_one PySem.W.kitx_int I.kIn True.intro e (fun z => nomatch z) h
  | str y => obtain ⟨t, q⟩ := (show ∃ t, u = Value.str y t from rx); cases q; exact PySem.W.kia_one PySem.W.kitx_str I.kIn True.intro e (fun z => nomatch z) h
  | flt y => obtain ⟨t, q⟩ := (show ∃ t, u = Value.float y t from rx); cases q; exact PySem.W.kia_one PySem.W.kitx_float I.kIn True.intro e (fun z => nomatch z) h
  | @lst a xs ea =>
    cases (show u = Value.ref a from rx)
    obtain ⟨_, _, n, _, h1⟩ := (show ObjOk X.prog X.w H s.heap a (.lst xs) from I.hok a _ ea)
    exact PySem.W.kia_one PySem.W.kitx_list I.kIn ⟨_, h1, rfl⟩ e (fun z => nomatch z) h
  | @frz a ob xs ea =>
    cases (show u = Value.ref a from rx)
    obtain ⟨_, _, _, n, _, h1⟩ := (show ObjOk X.prog X.w H s.heap a (.frz ob (.lst xs)) from I.hok a _ ea)
    exact PySem.W.kia_one PySem.W.kitx_list I.kIn ⟨_, h1, rfl⟩ e (fun z => nomatch z) h
  | @tup a xs ea =>
    cases (show u = Value.ref a from rx)
    obtain ⟨_, _, _, p⟩ := (show ObjOk X.prog X.w H s.heap a (.tup xs) from I.hok a _ ea)
    obtain ⟨o, h1, h2, _⟩ := p
    exact PySem.W.kia_one PySem.W.kitx_tuple I.kIn ⟨o, h1, h2⟩ e (fun z => nomatch z) h
  | @dK a kvs ea =>
    cases (show u = Value.ref a from rx)
    obtain ⟨_, _, vs, _, p⟩ := (show ObjOk X.prog X.w H s.heap a (.dK kvs) from I.hok a _ ea)
    obtain ⟨o, es, ep, h1, h2, _⟩ := p
    exact PySem.W.kia_one PySem.W.kitx_dict I.kIn ⟨o, h1, h2.1⟩ e (fun z => nomatch z) h
  | @dT a kvs ea =>
    cases (show u = Value.ref a from rx)
    obtain ⟨_, _, xs, _, o, es, ep, h1, h2, _⟩ := (show ObjOk X.prog X.w H s.heap a (.dT kvs) from I.hok a _ ea)
    exact PySem.W.kia_one PySem.W.kitx_dict I.kIn ⟨o, h1, h2.1⟩ e (fun z => nomatch z) h
  | @ins a C dx fs ea cl ha hn htk hm =>
    cases (show u = Value.ref a from rx)
    obtain ⟨mA, O, _⟩ := ins_get I.hok ea
    obtain ⟨od, J, _⟩ := O.look
    exact PySem.W.kia_one (PySem.W.kitx_own (cl.get _) cl.hd ha hn htk hm) I.kIn J e (fun z => nomatch z) h
end
end L2

namespace L2
open PySem PySem.Spec PyProof.Rows

/-! ### room -/
structure Room (k : Nat) (A : Around) : Prop where
  hd : A.handled = none
  dp : A.depth + 3 * k + 5 < recursionLimit
  un : A.units + 16 * k + 200 < cLine
theorem Room.mono {j k : Nat} {A : Around} (r : Room k A) (h : j ≤ k) : Room j A := ⟨r.hd, by have := r.dp; omega, by have := r.un; omega⟩
theorem Room.deeper {k : Nat} {A : Around} (r : Room (k + 1) A) (env : Env) : Room k (A.deeper env) :=
  ⟨r.hd, by have := r.dp; show A.depth + 1 + 3 * k + 5 < _; omega, by have := r.un; show A.units + 3 + 16 * k + 200 < _; omega⟩
theorem Room.in1 {k : Nat} {A : Around} (r : Room (k + 1) A) : Room k A.in1 :=
  ⟨r.hd, by have := r.dp; show A.depth + 3 * k + 5 < _; omega, by have := r.un; show A.units + 1 + 16 * k + 200 < _; omega⟩
theorem make_depth {A : Around} {C : Addr} {us : List Value} {kw : List (Str × Value)} : (A.under (.builtin "type.__call__" ⟨.ref C :: us, kw⟩)).depth = A.depth + 1 := by
  first | rfl | simp [Around.under, Code.weight, Code.isCreation, Code.isGuard, Code.isCaller, Code.frames, Code.isFrame, guardIds]
theorem make_units {A : Around} {C : Addr} {us : List Value} {kw : List (Str × Value)} : (A.under (.builtin "type.__call__" ⟨.ref C :: us, kw⟩)).units = A.units + 1 := by
  first | rfl | simp [Around.under, Code.cUnits, Code.frames, Code.isFrame]
theorem Room.make {k : Nat} {A : Around} (r : Room (k + 1) A) (C : Addr) (us : List Value) (kw : List (Str × Value)) : Room k (A.under (.builtin "type.__call__" ⟨.ref C :: us, kw⟩)) :=
  ⟨r.hd, by have := r.dp; rw [make_depth]; omega, by have := r.un; rw [make_units]; omega⟩
theorem Room.depth {k : Nat} {A : Around} (r : Room k A) : A.depth < recursionLimit := by have := r.dp; omega
theorem Room.units {k : Nat} {A : Around} (r : Room k A) : A.units + 64 < cLine := by have := r.un; omega
/-! ### argument lists and displays -/
def tNil : TA := fun _ H Q => Q [] H
def tCons (ta : TE) (tr : TA) : TA := fun σ H Q => ta σ H fun x H1 => tr σ H1 fun xs H2 => Q (x :: xs) H2
section
variable {X : Cx} {e : Expr} {es : List Expr} {te : TE} {t : TA} {pos : Pos}
theorem pa_nil : PA X [] tNil := fun _ _ _ _ H Q I h => Calls.spliced_nil ⟨[], H, I, .nil, h⟩
theorem pa_cons (ha : PE X e te) (hr : PA X es t) (hs : starEach (e :: es) X.env = (false, eval e X.env) :: starEach es X.env := by rfl) : PA X (e :: es) (tCons te t) := by
  intro pos pins s σ H Q I h
  rw [hs]
  show wpAny _ _ (spliced ((false, eval e X.env) :: backTo pos (starEach es X.env))) _ _ s
  refine Calls.spliced_cons (thn (ha pins s σ H _ I h) fun u s1 ⟨x, H1, I1, r1, q1⟩ => ?_)
  exact thn (hr pos pins s1 σ H1 _ I1 q1) fun us s2 ⟨xs, H2, I2, r2, q2⟩ => ⟨x :: xs, H2, I2, .cons r1 r2, q2⟩

/-- a tuple, a list of written items -/
def tTup (t : TA) : TE := fun σ H Q => t σ H fun xs H1 => xs.length ≤ sizeLine ∧ ∀ p, H1 p = none → Q (.ref p) (upd H1 p (.tup xs))
def tLst (t : TA) : TE := fun σ H Q => t σ H fun xs H1 => xs.length ≤ sizeLine ∧ ∀ p, H1 p = none → Q (.ref p) (upd H1 p (.lst xs))
theorem pe_tup {x1} (h : PA X es t) : PE X (.Tuple es x1 pos) (tTup t) := by
  intro pins s σ H Q I hq
  refine wpAny_Tuple_spliced (thn (h pos pins s σ H _ I hq) fun us s1 ⟨xs, H1, I1, r, z, q⟩ => ⟨by rw [← r.length]; exact z, ?_⟩)
  have hf : H1 s1.heap.objs.size = none := I1.hok.fresh (Nat.le_refl _)
  refine ⟨.ref s1.heap.objs.size, upd H1 s1.heap.objs.size (.tup xs), I1.laid (t' := s1.toks) (fun b u e => Heap.get?_push_of_some _ e) (Nat.le_refl _) ?_, rfl, q _ hf⟩
  exact ⟨z, us, r, ⟨_, Heap.get?_push_size _ rfl, rfl, _, rfl⟩⟩
theorem pe_lst (h : PA X es t) : PE X (.List es pos) (tLst t) := by
  intro pins s σ H Q I hq
  refine wpAny_List_spliced (thn (h pos pins s σ H _ I hq) fun us s1 ⟨xs, H1, I1, r, z, q⟩ => ⟨by rw [← r.length]; exact z, ?_⟩)
  have hf : H1 s1.heap.objs.size = none := I1.hok.fresh (Nat.le_refl _)
  refine ⟨.ref s1.heap.objs.size, upd H1 s1.heap.objs.size (.lst xs), I1.laid (t' := s1.toks) (fun b u e => Heap.get?_push_of_some _ e) (Nat.le_refl _) ?_, rfl, q _ hf⟩
  exact ⟨z, us, 0, r, Heap.get?_push_size _ rfl⟩
end

/-! ### what a def promises -/
/-- a def's promise: the bound arguments in the parameters' order, the heap, the wanted end, the wanted exception -/
abbrev Sp := List V → Hp → VK → XK → Prop
/-- how an exception lies behind a call (file 08 gives it): the callers' frames, abstract heap and state ahead of the call, the wish, the exception, the state -/
abbrev CXT := List Env → Hp → Shared → XK → Value → Shared → Prop

/-- the state at a call -/
structure Env0 (P : Program) (w : World) (K : PySem.W.Frag) (mg : Str → Option Value) (base : Heap) (A : Around) (outer : List Env) (s : Shared) (H : Hp) : Prop where
  frames : A.frames = some outer
  mod : Mod K mg base
  bs : ∀ b o, base.get? b = some o → s.heap.get? b = some o ∧ H b = none
  bsz : base.objs.size ≤ s.heap.objs.size
  funs : s.heap.FunFrames base outer
  frf : ∀ b ∈ frs outer, H b = none
  hok : HOk P w H s.heap
  bare : AllBare s.gens
/-- a call's end -/
def CE (outer : List Env) (P : Program) (w : World) (H : Hp) (s : Shared) (Q : VK) (u : Value) (s' : Shared) : Prop :=
  ∃ v H', s'.os = s.os ∧ AllBare s'.gens ∧ Un (frs outer) [] H H' s.heap s'.heap ∧ HOk P w H' s'.heap ∧ RelV v u ∧ Q v H'
def CR (CX : CXT) (outer : List Env) (P : Program) (w : World) (H : Hp) (s : Shared) (Q : VK) (E : XK) (r : Result) (s' : Shared) : Prop :=
  match r with
  | .ok (.ret u) => CE outer P w H s Q u s'
  | .ok _ => False
  | .error e => CX outer H s E e s'
structure FnOk (P : Program) (w : World) (K : PySem.W.Frag) (mg : Str → Option Value) (base : Heap) (CX : CXT) (k : Nat) (f : Addr) (fd : FuncData) (ps : List Str) (sp : Sp) : Prop where
  len : ∀ vs H Q E, sp vs H Q E → vs.length = ps.length
  run : ∀ (A : Around) (outer : List Env) (s : Shared) (H : Hp) (args : Args) (us : List Value) (vs : List V) (Q : VK) (E : XK), Room k A → Env0 P w K mg base A outer s H → BindsTo s fd args (ps.zip us) → Vals vs us → sp vs H Q E →
    codeAny (model P w) A (.call (.ref f) args) (CR CX outer P w H s Q E) s
theorem FnOk.mono {P : Program} {w : World} {K : PySem.W.Frag} {mg : Str → Option Value} {base : Heap} {CX : CXT} {j k : Nat} {f : Addr} {fd : FuncData} {ps : List Str} {sp : Sp} (F : FnOk P w K mg base CX j f fd ps sp) (h : j ≤ k) :
    FnOk P w K mg base CX k f fd ps sp := ⟨F.len, fun A outer s H args us vs Q E hr => F.run A outer s H args us vs Q E (hr.mono h)⟩
/-- a weaker promise -/
theorem FnOk.imp {P : Program} {w : World} {K : PySem.W.Frag} {mg : Str → Option Value} {base : Heap} {CX : CXT} {k : Nat} {f : Addr} {fd : FuncData} {ps : List Str} {sp sp' : Sp} (F : FnOk P w K mg base CX k f fd ps sp)
    (h : ∀ vs H Q E, sp' vs H Q E → sp vs H Q E) : FnOk P w K mg base CX k f fd ps sp' :=
  ⟨fun vs H Q E q => F.len vs H Q E (h _ _ _ _ q), fun A outer s H args us vs Q E hr he hb hv hs => F.run A outer s H args us vs Q E hr he hb hv (h _ _ _ _ hs)⟩

theorem Env0.make {P : Program} {w : World} {K : PySem.W.Frag} {mg : Str → Option Value} {base : Heap} {A : Around} {outer : List Env} {s : Shared} {H : Hp} (e : Env0 P w K mg base A outer s H) (C : Addr) (us : List Value) (kw : List (Str × Value)) :
    Env0 P w K mg base (A.under (.builtin "type.__call__" ⟨.ref C :: us, kw⟩)) outer s H := ⟨by first | exact e.frames | (simpa [Around.under, Code.envs, Code.isFrame, pushEnvs] using e.frames), e.mod, e.bs, e.bsz, e.funs, e.frf, e.hok, e.bare⟩
theorem Env0.in1 {P : Program} {w : World} {K : PySem.W.Frag} {mg : Str → Option Value} {base : Heap} {A : Around} {outer : List Env} {s : Shared} {H : Hp} (e : Env0 P w K mg base A outer s H) :
    Env0 P w K mg base A.in1 outer s H := ⟨e.frames, e.mod, e.bs, e.bsz, e.funs, e.frf, e.hok, e.bare⟩

section
variable {X : Cx} {pins : List (Addr × Obj)} {σ : St} {H : Hp} {s s' : Shared}
/-- from a body: what a callee wants -/
theorem Inv.env0 (I : Inv X pins σ H s) : Env0 X.prog X.w X.K X.mg X.base X.A X.stack s H :=
  ⟨I.ok.frames, I.ok.mod, I.bs, Nat.le_trans I.ok.bsz I.sz, I.stack, I.stkFree, I.hok, I.bare⟩
/-- behind a call -/
theorem Inv.after {Q : VK} {u : Value} (I : Inv X pins σ H s) (h : CE X.stack X.prog X.w H s Q u s') : EP X pins σ Q u s' := by
  obtain ⟨v, H', os, bare, un, hok, r, q⟩ := h
  obtain ⟨hh, g, d, t, os'⟩ := s'
  obtain rfl : os' = s.os := os
  exact ⟨v, H', I.call (h' := hh) (g' := g) (d' := d) (t' := t) (ch := []) un hok bare (fun b z => absurd z (by simp)), r, q⟩
end

/-! ### calls -/
/-- f(..): the written arguments, then the defaults dvs; E: what is wanted of an exception -/
def tCall (sp : Sp) (dvs : List V) (E : XK) (t : TA) : TE := fun σ H Q => t σ H fun vs H1 => sp (vs ++ dvs) H1 Q E
/-- o.m(..) of an instance of the class at C -/
def tMeth (C : Addr) (m : Str) (sp : Sp) (dvs : List V) (E : XK) (ta : TE) (t : TA) : TE := fun σ H Q => ta σ H fun x H1 => ∃ a dx fs, x = .ref a ∧ H1 a = some (.ins C dx fs) ∧ fs.lookup m = none ∧
  t σ H1 fun vs H2 => sp (x :: (vs ++ dvs)) H2 Q E
/-- C(..): a new instance and its dict, then __init__ -/
def tMake (C : Addr) (sp : Sp) (dvs : List V) (E : XK) (t : TA) : TE := fun σ H Q => t σ H fun vs H1 => ∀ x dx, H1 x = none → H1 dx = none → dx ≠ x →
  sp (.ref x :: (vs ++ dvs)) (upd (upd H1 dx (.own x)) x (.ins C dx [])) (fun v H2 => v = .non ∧ Q (.ref x) H2) E

/-- how the parameters are bound: us the positional arguments, kw the keywords' values by name, ds the defaults that fill up -/
def Binds (K : PySem.W.Frag) (fd : FuncData) (ps : List Str) (ds : List Value) : Prop :=
  ∀ (s : Shared) (us : List Value), K.In s.heap → (us ++ ds).length = ps.length → BindsTo s fd ⟨us, []⟩ (ps.zip (us ++ ds))
/-- every parameter is given -/
theorem Binds.all {K : PySem.W.Frag} {fd : FuncData} {ps : List Str} (h : ∀ us : List Value, us.length = ps.length → bindArgs fd ⟨us, []⟩ = pure (ps.zip us)) : Binds K fd ps [] := fun s us _ hl => by
  rw [List.append_nil] at hl ⊢
  exact .of_eq (h us hl)

/-- an exception of a callee reaches what this body wants of exceptions -/
def Passes (CX : CXT) (X : Cx) (E : XK) : Prop := ∀ (pins : List (Addr × Obj)) (σ : St) (H : Hp) (s : Shared) (e : Value) (s' : Shared), Inv X pins σ H s → CX X.stack H s E e s' → X.xe e s'

section
variable {X : Cx} {CX : CXT} {k : Nat} {f C : Addr} {fd : FuncData} {ps : List Str} {sp : Sp} {dvs : List V} {ds : List Value} {E : XK} {x m : Str} {p pos apos : Pos} {e o : Expr} {es : List Expr} {ta : TE} {t : TA}

/-- the callee runs -/
theorem run_fn {pins : List (Addr × Obj)} {σ : St} {H : Hp} {s : Shared} {Q : VK} {us : List Value} {vs : List V} (F : FnOk X.prog X.w X.K X.mg X.base CX k f fd ps sp) (hr : Room k X.A) (hb : Binds X.K fd ps ds) (hd : Vals dvs ds) (hx : Passes CX X E)
    (I : Inv X pins σ H s) (r : Vals vs us) (h : sp (vs ++ dvs) H Q E) : wpAny (model X.prog X.w) X.A (call (.ref f) us) (EP X pins σ Q) X.xe s := by
  have r2 : Vals (vs ++ dvs) (us ++ ds) := r.append hd
  have hl : (us ++ ds).length = ps.length := by rw [← r2.length]; exact F.len _ _ _ _ h
  refine wpAny_call (codeAny_mono (F.run X.A X.stack s H ⟨us, []⟩ (us ++ ds) (vs ++ dvs) Q E hr I.env0 (hb s us I.kIn hl) r2 h) fun r s' hq => ?_)
  cases r with
  | error e => exact hx pins σ H s e s' I hq
  | ok fl =>
    cases fl with
    | ret u => exact I.after hq
    | next => exact False.elim hq
    | brk => exact False.elim hq
    | cont => exact False.elim hq

theorem pe_call (F : FnOk X.prog X.w X.K X.mg X.base CX k f fd ps sp) (hr : Room k X.A) (hg : Gl X x) (hm : X.mg x = some (.ref f)) (hk : PySem.W.keepIn X.K (.ref f) = true) (hb : Binds X.K fd ps ds) (hd : Vals dvs ds) (hx : Passes CX X E)
    (ha : PA X (e :: es) t) (hdb : (x == ("__debug__" : Str)) = false := by decide) (he : starEach (e :: es) X.env = (false, eval e X.env) :: starEach es X.env := by rfl) (hpl : (backTo pos (starEach es X.env)).any (·.1) = false := by rfl) :
    PE X (.Call (.Name x p) (e :: es) [] pos) (tCall sp dvs E t) := by
  intro pins s σ H Q I h
  refine wpAny_Call_Name_kw (ld_glob I hg hm ?_ hdb)
  refine PySem.W.callWith_K (h₀ := X.base) I.ok.mod.kin hk (thn (ha pos pins s σ H _ I h) fun us s1 ⟨vs, H1, I1, r, q⟩ => ⟨I1.kIn, ?_⟩) he hpl
  exact run_fn F hr hb hd hx I1 r q
/-- what a class must have to be made -/
structure Mk (K : PySem.W.Frag) (C f : Addr) : Prop where
  makes : PySem.W.makesIn K C = true
  init : PySem.W.findIn K (.ref C) "__init__" = some (some (.ref f))
  fn : PySem.W.isFn K (.ref f) = true
  kp : PySem.W.keepIn K (.ref C) = true

theorem run_make {pins : List (Addr × Obj)} {σ : St} {H : Hp} {s : Shared} {Q : VK} {us : List Value} {vs : List V} (M : Mk X.K C f) (F : FnOk X.prog X.w X.K X.mg X.base CX k f fd ps sp) (hr : Room (k + 1) X.A) (hb : Binds X.K fd ps ds) (hd : Vals dvs ds)
    (hx : Passes CX X E) (I : Inv X pins σ H s) (r : Vals vs us)
    (h : ∀ x dx, H x = none → H dx = none → dx ≠ x → sp (.ref x :: (vs ++ dvs)) (upd (upd H dx (.own x)) x (.ins C dx [])) (fun v H2 => v = .non ∧ Q (.ref x) H2) E) :
    wpAny (model X.prog X.w) X.A (call (.ref C) us) (EP X pins σ Q) X.xe s := by
  have hq := h (s.heap.objs.size + 1) s.heap.objs.size (I.hok.fresh (Nat.le_succ _)) (I.hok.fresh (Nat.le_refl _)) (Nat.ne_of_lt (Nat.lt_succ_self _))
  have I2 := Inv.made (C := C) I
  have r2 : Vals (V.ref (s.heap.objs.size + 1) :: (vs ++ dvs)) (Value.ref (s.heap.objs.size + 1) :: (us ++ ds)) := .cons rfl (r.append hd)
  have hl : (Value.ref (s.heap.objs.size + 1) :: us ++ ds).length = ps.length := by
    have e := r2.length
    rw [F.len _ _ _ _ hq] at e
    exact e.symm
  refine wpAny_call (make_map (f := f) I.kIn M.makes M.init (beq_iff_eq.mp M.fn) (codeAny_mono (F.run _ X.stack _ _ ⟨Value.ref (s.heap.objs.size + 1) :: us, []⟩ (Value.ref (s.heap.objs.size + 1) :: (us ++ ds)) _ _ E (hr.make C us [])
    (I2.env0.make C us []) (hb _ (Value.ref (s.heap.objs.size + 1) :: us) I2.kIn hl) r2 hq) fun r s' hq' => ?_))
  cases r with
  | error e => exact hx pins σ _ _ e s' I2 hq'
  | ok fl =>
    cases fl with
    | ret u =>
      obtain ⟨v, H', I3, rv, ev, q3⟩ := I2.after hq'
      subst ev
      exact ⟨rv, ⟨V.ref (s.heap.objs.size + 1), H', I3, rfl, q3⟩⟩
    | next => exact False.elim hq'
    | brk => exact False.elim hq'
    | cont => exact False.elim hq'
theorem pe_make (M : Mk X.K C f) (F : FnOk X.prog X.w X.K X.mg X.base CX k f fd ps sp) (hr : Room (k + 1) X.A) (hg : Gl X x) (hm : X.mg x = some (.ref C)) (hb : Binds X.K fd ps ds) (hd : Vals dvs ds) (hx : Passes CX X E)
    (ha : PA X (e :: es) t) (hdb : (x == ("__debug__" : Str)) = false := by decide) (he : starEach (e :: es) X.env = (false, eval e X.env) :: starEach es X.env := by rfl) (hpl : (backTo pos (starEach es X.env)).any (·.1) = false := by rfl) :
    PE X (.Call (.Name x p) (e :: es) [] pos) (tMake C sp dvs E t) := by
  intro pins s σ H Q I h
  refine wpAny_Call_Name_kw (ld_glob I hg hm ?_ hdb)
  refine PySem.W.callWith_K (h₀ := X.base) I.ok.mod.kin M.kp (thn (ha pos pins s σ H _ I h) fun us s1 ⟨vs, H1, I1, r, q⟩ => ⟨I1.kIn, ?_⟩) he hpl
  exact run_make M F hr hb hd hx I1 r q
theorem pe_make0 (M : Mk X.K C f) (F : FnOk X.prog X.w X.K X.mg X.base CX k f fd ps sp) (hr : Room (k + 1) X.A) (hg : Gl X x) (hm : X.mg x = some (.ref C)) (hb : Binds X.K fd ps ds) (hd : Vals dvs ds) (hx : Passes CX X E)
    (hdb : (x == ("__debug__" : Str)) = false := by decide) : PE X (.Call (.Name x p) [] [] pos) (tMake C sp dvs E tNil) := by
  intro pins s σ H Q I h
  refine wpAny_Call_Name_kw (ld_glob I hg hm ?_ hdb)
  exact PySem.W.callWith_K0 I.kIn M.kp (run_make (us := []) M F hr hb hd hx I .nil h)
end

/-! ### keywords -/
/-- the values of the keywords, from the left -/
def PK (X : Cx) (kws : List Keyword) (t : TA) : Prop :=
  ∀ (pos : Pos) (pins : List (Addr × Obj)) (s : Shared) (σ : St) (H : Hp) (Q : List V → Hp → Prop), Inv X pins σ H s → t σ H Q → wpAny (model X.prog X.w) X.A (evalAll ((backToKw pos (keywordEach kws X.env)).map (·.2))) (AP X pins σ Q) X.xe s
section
variable {X : Cx} {CX : CXT} {k : Nat} {f C : Addr} {fd : FuncData} {ps ks : List Str} {sp : Sp} {E : XK} {x m : Str} {p pos apos kpos : Pos} {e o : Expr} {es : List Expr} {kws : List Keyword} {te ta : TE} {t tk : TA} {nm : Option Str}
/-- how a call with keywords binds: g puts the positional values us and the keywords' values ws (names ks) in the parameters' order, defaults among them -/
structure KBinds (K : PySem.W.Frag) (fd : FuncData) (ps ks : List Str) (g : List Value → List Value → List Value) (gV : List V → List V → List V) : Prop where
  to : ∀ (s : Shared) (us ws : List Value), K.In s.heap → (g us ws).length = ps.length → BindsTo s fd ⟨us, ks.zip ws⟩ (ps.zip (g us ws))
  rel : ∀ {vs : List V} {us : List Value} {zs : List V} {ws : List Value}, Vals vs us → Vals zs ws → Vals (gV vs zs) (g us ws)
def tCallK (sp : Sp) (gV : List V → List V → List V) (E : XK) (t tk : TA) : TE := fun σ H Q => t σ H fun vs H1 => tk σ H1 fun zs H2 => sp (gV vs zs) H2 Q E
variable {g : List Value → List Value → List Value} {gV : List V → List V → List V}
end

/-! ### a def's body keeps its promise -/
/-- names: the parameters first -/
structure FnScope (N P : List Str) (sc : Scope) : Prop where
  kind : sc.kind = .function
  co : sc.isCoroutine = false
  gen : sc.isGenerator = false
  nd : N.Nodup
  pre : N.take P.length = P
  par : ∀ x ∈ P, sc.names.lookup x = some .local ∨ sc.names.lookup x = some .cell
  nofree : ∀ y ∈ sc.names, y.2 ≠ .free

theorem bindL_out {kindOf : Str → Option NameKind} {x : Str} : ∀ {binds : List (Str × Value)} {m : Str → Option Value}, (∀ v, (x, v) ∉ binds) → bindL kindOf binds m x = m x
  | [], _, _ => rfl
  | (n, v) :: r, m, h => by
    unfold bindL
    rw [bindL_out fun w hw => h w (List.mem_cons_of_mem _ hw)]
    split
    · have : x ≠ n := by rintro rfl; exact h v List.mem_cons_self
      simp [this]
    · rfl
theorem bindC_out {kindOf : Str → Option NameKind} {x : Str} : ∀ {binds : List (Str × Value)} {m : Str → Option Value}, (∀ v, (x, v) ∉ binds) → bindC kindOf binds m x = m x
  | [], _, _ => rfl
  | (n, v) :: r, m, h => by
    unfold bindC
    rw [bindC_out fun w hw => h w (List.mem_cons_of_mem _ hw)]
    split
    · rfl
    · have : x ≠ n := by rintro rfl; exact h v List.mem_cons_self
      simp [this]
theorem bindL_get {kindOf : Str → Option NameKind} {x : Str} {v : Value} : ∀ {P : List Str} {vs : List Value} {i : Nat} {m : Str → Option Value}, P.Nodup → P[i]? = some x → vs[i]? = some v → kindOf x = some .local →
    bindL kindOf (P.zip vs) m x = some v
  | [], _, _, _, _, h, _, _ => by simp at h
  | _ :: _, [], _, _, _, _, h, _ => by simp at h
  | p :: P, w :: vs, 0, m, nd, h1, h2, hk => by
    simp at h1 h2; subst h1; subst h2
    show bindL kindOf ((p, w) :: P.zip vs) m p = _
    unfold bindL
    rw [bindL_out fun v hv => (List.nodup_cons.mp nd).1 (List.of_mem_zip hv).1, if_pos hk]
    simp
  | p :: P, w :: vs, i + 1, m, nd, h1, h2, hk => by
    show bindL kindOf ((p, w) :: P.zip vs) m x = _
    unfold bindL
    exact bindL_get (i := i) (List.nodup_cons.mp nd).2 (by simpa using h1) (by simpa using h2) hk
theorem bindC_get {kindOf : Str → Option NameKind} {x : Str} {v : Value} : ∀ {P : List Str} {vs : List Value} {i : Nat} {m : Str → Option Value}, P.Nodup → P[i]? = some x → vs[i]? = some v → kindOf x ≠ some .local →
    bindC kindOf (P.zip vs) m x = some v
  | [], _, _, _, _, h, _, _ => by simp at h
  | _ :: _, [], _, _, _, _, h, _ => by simp at h
  | p :: P, w :: vs, 0, m, nd, h1, h2, hk => by
    simp at h1 h2; subst h1; subst h2
    show bindC kindOf ((p, w) :: P.zip vs) m p = _
    unfold bindC
    rw [bindC_out fun v hv => (List.nodup_cons.mp nd).1 (List.of_mem_zip hv).1, if_neg hk]
    simp
  | p :: P, w :: vs, i + 1, m, nd, h1, h2, hk => by
    show bindC kindOf ((p, w) :: P.zip vs) m x = _
    unfold bindC
    exact bindC_get (i := i) (List.nodup_cons.mp nd).2 (by simpa using h1) (by simpa using h2) hk

/-- the names' values at the entry -/
def start (N : List Str) (vs : List V) : St := vs.map some ++ List.replicate (N.length - vs.length) none

/-- the context of a def's body, at its entry; an exception leaves the frame, then lies as CX says -/
def cxOf (CX : CXT) (P : Program) (w : World) (K : PySem.W.Frag) (mg : Str → Option Value) (base : Heap) (N : List Str) (qual : Str) (scope : Scope) (f : Addr) (cd : Value) (A : Around) (outer : List Env) (s : Shared) (H : Hp) (E : XK) : Cx where
  prog := P
  w := w
  K := K
  mg := mg
  base := base
  A := A.deeper (envOfC qual scope s.heap.objs.size f cd)
  N := N
  s₀ := s
  H₀ := H
  env := envOfC qual scope s.heap.objs.size f cd
  outer := outer
  stack := envOfC qual scope s.heap.objs.size f cd :: outer
  ex := []
  calm := true
  fn := fun _ => true
  pn := []
  xe := fun e s' => wpAny (model P w) (A.deeper (envOfC qual scope s.heap.objs.size f cd)) (leaving (envOfC qual scope s.heap.objs.size f cd) e) (fun _ s'' => CX outer H s E e s'') (fun e' s'' => CX outer H s E e' s'') s'

theorem cell_has {sc : Scope} {n : Nat} {x : Str} (h : sc.names.lookup x = some .cell) : ∃ c, (cellsFrom n sc.names []).lookup x = some c := by
  have q := PySem.W.cellsFrom_some sc.names n [] (.inl h)
  exact Option.isSome_iff_exists.mp q

theorem inv_start {CX : CXT} {P : Program} {w : World} {K : PySem.W.Frag} {mg : Str → Option Value} {base : Heap} {N ps : List Str} {qual : Str} {scope : Scope} {f : Addr} {cd : Value} {A : Around} {outer : List Env} {s s1 : Shared} {H : Hp} {E : XK} {us : List Value} {vs : List V}
    (S : FnScope N ps scope) (hd : A.handled = none) (e0 : Env0 P w K mg base A outer s H) (hl : vs.length = ps.length) (r : Vals vs us)
    (x : InCallC s s.heap.objs.size (bindL (envOfC qual scope s.heap.objs.size f cd).kindOf (ps.zip us) fun _ => none) (cellsFrom (s.heap.objs.size + 1) scope.names []) (bindC (envOfC qual scope s.heap.objs.size f cd).kindOf (ps.zip us) fun _ => none) s1) :
    Inv (cxOf CX P w K mg base N qual scope f cd A outer s H E) [] (start N vs) H s1 := by
  have hpl : ps.length ≤ N.length := by have := congrArg List.length S.pre; rw [List.length_take] at this; omega
  obtain ⟨h1, tk, rfl, hk⟩ := x.done
  have noA : ∀ b : Addr, b ∉ (cxOf CX P w K mg base N qual scope f cd A outer s H E).ex := fun b z => absurd (show b ∈ ([] : List Addr) from z) (by simp)
  refine ⟨⟨e0.mod, S.kind, rfl, rfl, Nat.le_refl _, fun y z c h1 h2 => ?_, fun y hy => ?_, fun y c _ h => ?_, fun _ => hd, Around.frames_deeper e0.frames, .inr ⟨rfl, rfl⟩, fun b z => absurd z (noA b), e0.bs, e0.bsz, fun b _ _ => noA b, fun b z => absurd z (noA b), e0.funs, e0.frf⟩,
    rfl, e0.bare, Un.kept hk, ⟨_, x.toInCall.ns, fun i y v h1 h2 h3 => ?_⟩, fun y c h => ⟨_, x.cell y c h⟩, e0.hok.fresh (Nat.le_refl _), fun y c h => ?_, fun p hp => absurd (show p ∈ ([] : List (Addr × Obj)) from hp) (by simp), e0.hok.kept hk, ?_⟩
  · exact name_of_addr x.apart (PySem.mem_of_lookup h1) (PySem.mem_of_lookup h2)
  · have hy : scope.names.lookup y = some .cell ∨ scope.names.lookup y = some .free := hy
    rcases hy with hy | hy
    · exact cell_has hy
    · exact absurd rfl (S.nofree _ (PySem.mem_of_lookup hy))
  · exact Nat.le_of_lt (x.above y c (PySem.mem_of_lookup h))
  · have hi : i < vs.length := by
      unfold start at h2
      by_cases hi : i < vs.length
      · exact hi
      · rw [List.getElem?_append_right (by simpa using hi)] at h2
        rw [List.getElem?_replicate] at h2
        split at h2 <;> cases h2
    have ha : vs[i]? = some v := by
      unfold start at h2
      rw [List.getElem?_append_left (by simpa using hi), List.getElem?_map] at h2
      cases e : vs[i]? with
      | none => rw [e] at h2; cases h2
      | some a => rw [e] at h2; cases h2; rfl
    obtain ⟨u, hu, rv⟩ := r.get ha
    have hp : ps[i]? = some y := by
      rw [← S.pre, List.getElem?_take_of_lt (by omega)]; exact h1
    have ndP : ps.Nodup := by rw [← S.pre]; exact S.nd.sublist (List.take_sublist _ _)
    refine ⟨u, rv, ?_⟩
    rcases S.par y (List.mem_of_getElem? hp) with k | k
    · exact .inl ⟨k, bindL_get ndP hp hu k⟩
    · obtain ⟨c, e⟩ := cell_has (n := s.heap.objs.size + 1) k
      refine .inr ⟨.inl k, c, e, ?_⟩
      have q := x.cell y c e
      rw [bindC_get ndP hp hu (by show scope.names.lookup y ≠ _; rw [k]; decide)] at q
      exact q
  · exact e0.hok.fresh (Nat.le_of_lt (x.above y c (PySem.mem_of_lookup h)))
  · unfold start
    show _ = N.length
    rw [List.length_append, List.length_map, List.length_replicate]
    omega

/-- THE RULE: a def (or a method) of the text, by its body. The body's reading t is chosen for each entry; it is run at the parameters' values -/
theorem fn_of {CX : CXT} {P : Program} {w : World} {K : PySem.W.Frag} {mg : Str → Option Value} {base : Heap} {k : Nat} {f : Addr} {name qual : Str} {params : Arguments} {body : List Stmt} {scope : Scope} {dV kV doc pm cdv ct oc : Value} {an od : Option Addr}
    {osl : Array (Option Value)} {N ps : List Str} {sp : Sp} (lk : K.lookup f = some ⟨oc, od, .func (PySem.W.fnOf name qual params body scope dV kV doc pm an cdv ct), osl⟩) (hcd : PySem.W.codeIn K cdv qual = true) (S : FnScope N ps scope)
    (len : ∀ vs H Q E, sp vs H Q E → vs.length = ps.length)
    (hbody : ∀ (A : Around) (outer : List Env) (s : Shared) (H : Hp) (vs : List V) (Q : VK) (E : XK), Room k (A.deeper (envOfC qual scope s.heap.objs.size f cdv)) → sp vs H Q E →
      ∃ t, PSs (cxOf CX P w K mg base N qual scope f cdv A outer s H E) body t ∧ t { nx := fun _ H' => Q .non H', rt := Q } (start N vs) H) :
    FnOk P w K mg base CX (k + 1) f (PySem.W.fnOf name qual params body scope dV kV doc pm an cdv ct) ps sp := by
  refine ⟨len, fun A outer s H args us vs Q E hr e0 hb r hsp => ?_⟩
  have hl := len _ _ _ _ hsp
  have KX : K.In s.heap := e0.mod.kin.keeps fun b o e => (e0.bs b o e).1
  have lim : s.heap.NoLimit := e0.mod.nolimit.keeps fun b o e => (e0.bs b o e).1
  have hkind : ∀ y ∈ ps.zip us, scope.names.lookup y.1 = some .local ∨ (scope.names.lookup y.1 = some .cell ∧ ((cellsFrom (s.heap.objs.size + 1) scope.names []).lookup y.1).isSome = true) := fun ⟨n, v⟩ hy => by
    rcases S.par n (List.of_mem_zip hy).1 with q | q
    · exact .inl q
    · exact .inr ⟨q, PySem.W.cellsFrom_some _ _ _ (.inl q)⟩
  refine codeAny_call_function hr.depth (KX _ _ lk) rfl S.co S.gen rfl (PySem.W.codeRec_of KX hcd) (hb _ _ _ _ ?_)
  refine wpAny_newFunctionEnv_cells S.kind hkind fun env he s1 x => ?_
  subst he
  refine ⟨lim.keeps x.toInCall.keep, codeAny_func ?_⟩
  obtain ⟨t, ht, hq⟩ := hbody A outer s H vs Q E (hr.deeper _) hsp
  have I : Inv (cxOf CX P w K mg base N qual scope f cdv A outer s H E) [] (start N vs) H s1 := inv_start S hr.hd e0 hl r x
  refine wpAny_mono (ht [] s1 (start N vs) H _ I hq) (fun fl s' hs => ?_) fun e s' hs => hs
  have fin : ∀ {σ' : St} {H' : Hp} {v : V} {u : Value}, Inv (cxOf CX P w K mg base N qual scope f cdv A outer s H E) [] σ' H' s' → RelV v u → Q v H' → CE outer P w H s Q u s' :=
    fun {σ' H' v u} J rv q => ⟨v, H', J.os, J.bare, J.base, J.hok, rv, q⟩
  cases fl with
  | ret u =>
    obtain ⟨v, σ', H', J, rv, q⟩ := hs
    exact fin J rv q
  | next =>
    obtain ⟨σ', H', J, q⟩ := hs
    exact fin (v := V.non) (u := Value.none) J rfl q
  | brk =>
    obtain ⟨_, _, _, q⟩ := hs
    exact False.elim q
  | cont =>
    obtain ⟨_, _, _, q⟩ := hs
    exact False.elim q
end L2

namespace L2
open PySem PySem.Spec PyProof.Rows
section
variable {X : Cx} {x : Str} {p pos : Pos} {e : Expr} {es : List Expr} {t : TA} {id T : String} {r : List V → Hp → VK → Prop}

def tCB (r : List V → Hp → VK → Prop) (t : TA) : TE := fun σ H Q => t σ H fun vs H1 => r vs H1 Q
/-- f(e, ..), f a built-in function -/
theorem pe_callB (hc : CallR X (.builtin id) r) (hg : Gl X x) (hm : X.mg x = none) (hv : bootBuiltins x = some (.builtin id)) (ha : PA X (e :: es) t) (hn : x ≠ "__name__" := by decide) (hdb : (x == ("__debug__" : Str)) = false := by decide)
    (he : starEach (e :: es) X.env = (false, eval e X.env) :: starEach es X.env := by rfl) (hpl : (backTo pos (starEach es X.env)).any (·.1) = false := by rfl) : PE X (.Call (.Name x p) (e :: es) [] pos) (tCB r t) := by
  intro pins s σ H Q I h
  refine wpAny_Call_Name_kw (ld_blt I hg hm hv ?_ hn hdb)
  exact PyProof.Rows.callWith_builtin1 (thn (ha pos pins s σ H _ I h) fun us s1 ⟨vs, H1, I1, r1, q1⟩ => hc pins s1 σ H1 vs us Q I1 r1 q1) he hpl
/-- T(e, ..), T a built-in type -/
theorem pe_callTy (hc : CallR X (.type T) r) (hg : Gl X x) (hm : X.mg x = none) (hv : bootBuiltins x = some (.type T)) (ha : PA X (e :: es) t) (hn : x ≠ "__name__" := by decide) (hdb : (x == ("__debug__" : Str)) = false := by decide)
    (he : starEach (e :: es) X.env = (false, eval e X.env) :: starEach es X.env := by rfl) (hpl : (backTo pos (starEach es X.env)).any (·.1) = false := by rfl) : PE X (.Call (.Name x p) (e :: es) [] pos) (tCB r t) := by
  intro pins s σ H Q I h
  refine wpAny_Call_Name_kw (ld_blt I hg hm hv ?_ hn hdb)
  exact PyProof.Rows.callWith_type1 (thn (ha pos pins s σ H _ I h) fun us s1 ⟨vs, H1, I1, r1, q1⟩ => hc pins s1 σ H1 vs us Q I1 r1 q1) he hpl
end
end L2

namespace HT
open PySem PyProof.Rows

/-- t < u of tuples of ints -/
def lexLt : List Int → List Int → Bool
  | [], [] => false
  | [], _ :: _ => true
  | _ :: _, [] => false
  | x :: xs, y :: ys => if x = y then lexLt xs ys else decide (x < y)
section
open PySem.SeqAt
open PySem.AutoSeq1 (wpAny_loadPart')
open PySem.MeetsSeq PySem.MeetsSeq2 PySem.MeetsSeq3

end

section
variable {prog : Program} {w : World} {A : Around} {E : Value → Shared → Prop} {s : Shared}

/-! ### t[a:b], not the whole -/
/-- a slice's bound as a place among n (d where it is left out) -/
def sIx (n d : Nat) : Option Int → Nat
  | none => d
  | some v => if v < 0 then (v + (n : Int)).toNat else min v.toNat n
theorem sIx_none (n d : Nat) : sIx n d none = d := rfl
end
end HT

namespace L2
open PySem PySem.Spec PyProof.Rows

/-! ### the parts of a slice -/
abbrev TO := St → Hp → (Option Int → Hp → Prop) → Prop
/-- a slice's part (left out, or an int) -/
def PO (X : Cx) (e : Option Expr) (t : TO) : Prop :=
  ∀ (pins : List (Addr × Obj)) (s : Shared) (σ : St) (H : Hp) (Q : Option Int → Hp → Prop), Inv X pins σ H s → t σ H Q →
    wpAny (model X.prog X.w) X.A (evalPart e X.env) (fun u s' => ∃ o H', Inv X pins σ H' s' ∧ IsPart u o ∧ Q o H') X.xe s
def tNoPart : TO := fun _ H Q => Q none H
def tPart (t : TE) : TO := fun σ H Q => t σ H fun x H1 => ∃ i, x = .int i ∧ Q (some i) H1

theorem intsAre_of {ns : List Int} : ∀ {us : List Value}, Vals (ns.map V.int) us → IntsAre us ns := by
  induction ns with
  | nil => intro us r; rw [List.map_nil] at r; cases r; exact .nil
  | cons n ns ih =>
    intro us r
    rw [List.map_cons] at r
    cases r with
    | cons r1 r2 =>
      obtain ⟨t, e⟩ := r1
      subst e
      exact .cons n t (ih r2)

section
variable {X : Cx} {e : Expr} {te : TE} {lo hi : Option Expr} {tl th : TO} {pos p2 : Pos}

theorem po_none : PO X none tNoPart := by
  intro pins s σ H Q I h
  rw [evalPart_none]
  exact wpAny_pure ⟨none, H, I, .none, h⟩
theorem po_some (h : PE X e te) : PO X (some e) (tPart te) := by
  intro pins s σ H Q I hw
  rw [evalPart_some]
  refine thn (h pins s σ H _ I hw) fun u s1 ⟨x, H1, I1, r1, q1⟩ => ?_
  obtain ⟨i, rfl, q⟩ := q1
  obtain ⟨t, rfl⟩ := r1
  exact ⟨some i, H1, I1, .int i t, q⟩

/-- what a slice of a value is, by values: the slice object stands at sl -/
def SlR (X : Cx) (r : V → Option Int → Option Int → Hp → VK → Prop) : Prop :=
  ∀ (pins : List (Addr × Obj)) (s : Shared) (σ : St) (H : Hp) (x : V) (v vl vu : Value) (lo hi : Option Int) (sl : Addr) (Q : VK), Inv X pins σ H s → RelV x v → s.heap.IsSliceOf sl vl vu .none → IsPart vl lo → IsPart vu hi → r x lo hi H Q →
    ∃ T id, typeLookup (.type T) "__getitem__" = pure (some (.builtin id)) ∧ s.TypeIs v T ∧ wpAny (model X.prog X.w) X.A (getItem v (.ref sl)) (EP X pins σ Q) X.xe s
theorem SlR.or {r r' : V → Option Int → Option Int → Hp → VK → Prop} (h : SlR X r) (h' : SlR X r') : SlR X (fun x lo hi H Q => r x lo hi H Q ∨ r' x lo hi H Q) := by
  intro pins s σ H x v vl vu lo hi sl Q I rx hs pl pu q
  rcases q with q | q
  · exact h pins s σ H x v vl vu lo hi sl Q I rx hs pl pu q
  · exact h' pins s σ H x v vl vu lo hi sl Q I rx hs pl pu q
def tSl (r : V → Option Int → Option Int → Hp → VK → Prop) (te : TE) (tl th : TO) : TE := fun σ H Q => te σ H fun x H1 => tl σ H1 fun l H2 => th σ H2 fun u H3 => r x l u H3 Q
/-- a[lo:hi], any a -/
theorem pe_slice {r : V → Option Int → Option Int → Hp → VK → Prop} (hr : SlR X r) (he : PE X e te) (hl : PO X lo tl) (hu : PO X hi th) : PE X (.Subscript e (.Slice lo hi none p2) pos) (tSl r te tl th) := by
  intro pins s σ H Q I h
  refine Subscript_ (thn (he pins s σ H _ I h) fun v s1 ⟨x, H1, I1, r1, q1⟩ => ?_)
  refine wpAny_Slice (thn (hl pins s1 σ H1 _ I1 q1) fun vl s2 ⟨l, H2, I2, pl, q2⟩ => thn (hu pins s2 σ H2 _ I2 q2) fun vu s3 ⟨u, H3, I3, pu, q3⟩ => ?_)
  rw [evalPart_none]
  refine wpAny_pure ?_
  have I4 : Inv X pins σ H3 { s3 with heap := s3.heap.push { cls := .type "slice", data := .fields #[vl, vu, .none] } } := I3.kept (t' := s3.toks) fun b ob q => Heap.get?_push_of_some _ q
  obtain ⟨T, id, hT, ht, hg⟩ := hr pins { s3 with heap := s3.heap.push { cls := .type "slice", data := .fields #[vl, vu, .none] } } σ H3 x v vl vu l u s3.heap.objs.size Q I4 r1 (Heap.IsSliceOf.new ..) pl pu q3
  show wpAny (model X.prog X.w) X.A (subscriptTail e (.Slice lo hi none p2) v (.ref s3.heap.objs.size)) (EP X pins σ Q) X.xe { s3 with heap := s3.heap.push { cls := .type "slice", data := .fields #[vl, vu, .none] } }
  exact tail_any (ops := [.ref s3.heap.objs.size, v]) ht hT hg (by with_unfolding_all rfl)

/-- the items of xs[lo:hi] -/
def cutV (xs : List V) (lo hi : Option Int) : List V := (xs.drop (HT.sIx xs.length 0 lo)).take (HT.sIx xs.length xs.length hi - HT.sIx xs.length 0 lo)
theorem cutV_length (xs : List V) (lo hi : Option Int) : (cutV xs lo hi).length ≤ xs.length := by
  unfold cutV
  rw [List.length_take, List.length_drop]
  omega
/-- t[lo:hi], not the whole of it (the whole would be t itself) -/
def rSlT (K : PySem.W.Frag) : V → Option Int → Option Int → Hp → VK → Prop := fun x lo hi H Q => ∃ a xs, x = .ref a ∧ SqT K H a xs ∧
  ¬ (HT.sIx xs.length 0 lo = 0 ∧ HT.sIx xs.length xs.length hi = xs.length) ∧ ∀ p, H p = none → Q (.ref p) (upd H p (.tup (cutV xs lo hi)))
/-! ### t < u, t + u -/
def rLtT (K : PySem.W.Frag) : R2 := fun x y H Q => ∃ a b ns ms, x = .ref a ∧ y = .ref b ∧ SqT K H a (ns.map V.int) ∧ SqT K H b (ms.map V.int) ∧ Q (.bl (HT.lexLt ns ms)) H
/-- t + u, t not empty: u empty gives t itself -/
def rCatT (K : PySem.W.Frag) : R2 := fun x y H Q => ∃ a b xs ys, x = .ref a ∧ y = .ref b ∧ SqT K H a xs ∧ SqT K H b ys ∧ xs ≠ [] ∧ xs.length + ys.length ≤ sizeLine ∧
  (ys = [] → Q (.ref a) H) ∧ (ys ≠ [] → ∀ p, H p = none → Q (.ref p) (upd H p (.tup (xs ++ ys))))
end
end L2

namespace L2
open PySem PySem.Spec PyProof.Rows

/-! ### places -/
/-- the place that an index of any sign means -/
def ixN (n : Nat) (i : Int) : Option Nat := if 0 ≤ i then (if i < n then some i.toNat else none) else if -(n : Int) ≤ i then some (i + n).toNat else none
def atI {α : Type} (xs : List α) (i : Int) : Option α := (ixN xs.length i).bind fun j => xs[j]?
theorem ixN_seq {n : Nat} {i : Int} {j : Nat} (h : ixN n i = some j) : seqIndex? i n = some j ∧ j < n ∧ -(n : Int) ≤ i ∧ i < n := by
  unfold ixN at h
  by_cases h0 : 0 ≤ i
  · rw [if_pos h0] at h
    by_cases h1 : i < n
    · rw [if_pos h1] at h
      have e : i.toNat = j := Option.some.inj h
      exact ⟨by rw [seqIndex_of h0 h1, e], by omega, by omega, h1⟩
    · rw [if_neg h1] at h; cases h
  · rw [if_neg h0] at h
    by_cases h1 : -(n : Int) ≤ i
    · rw [if_pos h1] at h
      have e : (i + n).toNat = j := Option.some.inj h
      exact ⟨by rw [seqIndex_neg (by omega) h1, e], by omega, h1, by omega⟩
    · rw [if_neg h1] at h; cases h
theorem atI_get {α : Type} {xs : List α} {i : Int} {v : α} (h : atI xs i = some v) : ∃ j, seqIndex? i xs.length = some j ∧ xs[j]? = some v ∧ j < xs.length ∧ -(xs.length : Int) ≤ i ∧ i < xs.length := by
  unfold atI at h
  cases e : ixN xs.length i with
  | none => rw [e] at h; cases h
  | some j =>
    rw [e] at h
    obtain ⟨h1, h2, h3, h4⟩ := ixN_seq e
    exact ⟨j, h1, h, h2, h3, h4⟩
theorem atI_nat {α : Type} {xs : List α} {j : Nat} {v : α} (h : xs[j]? = some v) : atI xs (j : Int) = some v := by
  have hj : j < xs.length := (List.getElem?_eq_some_iff.mp h).1
  have e : ixN xs.length (j : Int) = some j := by
    unfold ixN
    rw [if_pos (by omega), if_pos (by omega)]; simp
  unfold atI; rw [e]; exact h
/-! ### what may be subscripted -/
/-- what stands as an index of a plain subscript -/
def PlainIx (b : Expr) : Prop := ∀ o i, subscripted b false o i = operate [o, i] (getItem o i)
/-- a subscript by values -/
def IxR (X : Cx) (r : R2) : Prop :=
  ∀ (value slice : Expr) (pins : List (Addr × Obj)) (s : Shared) (σ : St) (H : Hp) (x y : V) (v u : Value) (Q : VK), Inv X pins σ H s → RelV x v → RelV y u → r x y H Q →
    subscripted slice false v u = operate [v, u] (getItem v u) → wpAny (model X.prog X.w) X.A (subscriptTail value slice v u) (EP X pins σ Q) X.xe s
/-- a call of a builtin's method by values: the receiver, the arguments -/
def MtR (X : Cx) (id : String) (r : V → List V → Hp → VK → Prop) : Prop :=
  ∀ (pins : List (Addr × Obj)) (s : Shared) (σ : St) (H : Hp) (x : V) (xs : List V) (v : Value) (us : List Value) (Q : VK), Inv X pins σ H s → RelV x v → Vals xs us → r x xs H Q →
    wpAny (model X.prog X.w) X.A (call (.builtin id) (v :: us)) (EP X pins σ Q) X.xe s
section
variable {X : Cx} {a b : Expr} {ta tb : TE} {pos : Pos}
theorem IxR.or {r r' : R2} (h : IxR X r) (h' : IxR X r') : IxR X (fun x y H Q => r x y H Q ∨ r' x y H Q) := by
  intro value slice pins s σ H x y v u Q I rx ry q hs
  rcases q with q | q
  · exact h value slice pins s σ H x y v u Q I rx ry q hs
  · exact h' value slice pins s σ H x y v u Q I rx ry q hs
theorem MtR.or {id : String} {r r' : V → List V → Hp → VK → Prop} (h : MtR X id r) (h' : MtR X id r') : MtR X id (fun x xs H Q => r x xs H Q ∨ r' x xs H Q) := by
  intro pins s σ H x xs v us Q I rx rs q
  rcases q with q | q
  · exact h pins s σ H x xs v us Q I rx rs q
  · exact h' pins s σ H x xs v us Q I rx rs q
/-- a[b] -/
theorem pe_ix {r : R2} (hr : IxR X r) (ha : PE X a ta) (hb : PE X b tb) (hs : PlainIx b) : PE X (.Subscript a b pos) (tOp r ta tb) := by
  intro pins s σ H Q I h
  exact Subscript_ (binT ha hb I h fun v u s2 x y H2 I2 rx ry q => hr a b pins s2 σ H2 x y v u Q I2 rx ry q (hs _ _))

def rIxL (K : PySem.W.Frag) : R2 := fun x y H Q => ∃ p xs i v, x = .ref p ∧ y = .int i ∧ SqL K H p xs ∧ atI xs i = some v ∧ Q v H
def rIxT (K : PySem.W.Frag) : R2 := fun x y H Q => ∃ p xs i v, x = .ref p ∧ y = .int i ∧ SqT K H p xs ∧ atI xs i = some v ∧ Q v H
def rIxS : R2 := fun x y H Q => ∃ z i c, x = .str z ∧ y = .int i ∧ z.length ≤ sizeLine ∧ atI z.cps.toList i = some c ∧ Q (.str ⟨#[c]⟩) H
theorem ix_list : IxR X (rIxL X.K) := by
  intro value slice pins s σ H x y v u Q I rx ry h hs
  obtain ⟨p, xs, i, z, rfl, rfl, hq, he, q⟩ := h
  cases rx
  obtain ⟨t, rfl⟩ := ry
  obtain ⟨its, r, pl, hz⟩ := I.list hq
  obtain ⟨j, h1, h2, h3, h4, h5⟩ := atI_get he
  obtain ⟨w, ew, rw'⟩ := r.get h2
  have hl := r.length
  have hn := line63
  have fin : EP X pins σ Q w s := ⟨z, H, I, rw', q⟩
  by_cases h0 : 0 ≤ i
  · have hj : i.toNat = j := by
      rw [seqIndex_of h0 h5] at h1
      exact Option.some.inj h1
    exact item_listR pl.isList h0 (by omega) (by rw [hj]; simpa using ew) fin hs
  · have hj : (i + (its.toArray.size : Int)).toNat = j := by
      rw [seqIndex_neg (by omega) h4] at h1
      rw [List.size_toArray, ← hl]
      exact Option.some.inj h1
    exact subscriptTail_builtinR (x := w) pl.isList.typeIs slot_list_getitem.lookup
      (wpAny_getItem_list_neg (Q := fun r s' => r = w ∧ EP X pins σ Q r s') pl.isList (by omega) (by rw [List.size_toArray] <;> omega) (by omega) (by rw [hj]; simpa using ew) ⟨rfl, fin⟩) hs
theorem ix_tup : IxR X (rIxT X.K) := by
  intro value slice pins s σ H x y v u Q I rx ry h hs
  obtain ⟨p, xs, i, z, rfl, rfl, hq, he, q⟩ := h
  cases rx
  obtain ⟨t, rfl⟩ := ry
  obtain ⟨its, r, pl, hz⟩ := I.tuple hq
  obtain ⟨j, h1, h2, h3, h4, h5⟩ := atI_get he
  obtain ⟨w, ew, rw'⟩ := r.get h2
  have hl := r.length
  have hn := line63
  have fin : EP X pins σ Q w s := ⟨z, H, I, rw', q⟩
  exact subscriptTail_builtinR (x := w) pl.typeIs slot_tuple_getitem.lookup
    (getItem_tuple (j := j) (Q := fun r s' => r = w ∧ EP X pins σ Q r s') pl (by omega) (by omega) (by rw [List.size_toArray, ← hl]; exact h1) (by simpa using ew) ⟨rfl, fin⟩) hs
theorem ix_str : IxR X rIxS := by
  intro value slice pins s σ H x y v u Q I rx ry h hs
  obtain ⟨z, i, c, rfl, rfl, hz, he, q⟩ := h
  obtain ⟨t, rfl⟩ := rx
  obtain ⟨t', rfl⟩ := ry
  obtain ⟨j, h1, h2, h3, h4, h5⟩ := atI_get he
  have hl : z.cps.toList.length = z.length := by simp [Str.length]
  rw [hl] at h1 h4 h5
  have hn := line63
  exact tail_any (typeIs_str s z t) slot_str_getitem.lookup (getItem_str (c := c) (by
    have e1 : decide (i < -(2 ^ 63 : Int)) = false := decide_eq_false (by omega)
    have e2 : decide (i ≥ 2 ^ 63) = false := decide_eq_false (by omega)
    rw [e1, e2, Bool.or_false]) (by rw [h1]; simpa using h2) ⟨.str ⟨#[c]⟩, H, I.tok _, ⟨_, rfl⟩, q⟩) hs
/-- list, tuple or str -/
def rIx (K : PySem.W.Frag) : R2 := fun x y H Q => rIxL K x y H Q ∨ rIxT K x y H Q ∨ rIxS x y H Q
theorem ix_seq : IxR X (rIx X.K) := ix_list.or (ix_tup.or ix_str)

/-! ### xs[i] = v, any sign -/
/-- the list's object behind a store -/
theorem mapSeq_set (its : List Value) (n j : Nat) (u : Value) : Obj.mapSeq (·.setIfInBounds j u) { cls := .type "list", data := .seq its.toArray n } = { cls := .type "list", data := .seq (its.set j u).toArray n } := by
  simp [Obj.mapSeq]
theorem Inv.lst {pins : List (Addr × Obj)} {σ : St} {H : Hp} {s : Shared} {p : Addr} {xs : List V} (I : Inv X pins σ H s) (h : H p = some (.lst xs)) :
    ∃ (its : List Value) (n : Nat), Vals xs its ∧ s.heap.get? p = some { cls := .type "list", data := .seq its.toArray n } ∧ xs.length ≤ sizeLine := by
  obtain ⟨z, its, n, r, e⟩ := I.hok p _ h
  exact ⟨its, n, r, e, z⟩
/-- the list at p is written by an update of its object -/
theorem Inv.lstUpd {pins : List (Addr × Obj)} {σ : St} {H : Hp} {s : Shared} {p : Addr} {xs ys : List V} {its its' : List Value} {n n' : Nat} {f : Obj → Obj} (I : Inv X pins σ H s) (h : H p = some (.lst xs))
    (ho : s.heap.get? p = some { cls := .type "list", data := .seq its.toArray n }) (hf : f { cls := .type "list", data := .seq its.toArray n } = { cls := .type "list", data := .seq its'.toArray n' }) (r : Vals ys its') (hz : ys.length ≤ sizeLine) (t : Nat) :
    Inv X pins σ (upd H p (.lst ys)) { s with heap := s.heap.update p f, toks := t } := by
  have e : (s.heap.update p f).get? p = some { cls := .type "list", data := .seq its'.toArray n' } := by
    rw [Heap.get?_update_self f ho (by rw [hf] <;> rfl), hf]
  refine I.write (x := p) (e := p) (by rw [h]; trivial) (.inl rfl) (fun b u hb q => (Heap.get?_update_other _ _ (Ne.symm hb)).trans q) ⟨_, e⟩ ?_
  exact ⟨hz, its', n', r, e⟩
def rSetL : V → V → V → Hp → (Hp → Prop) → Prop := fun o i v H Q => ∃ p xs k j, o = .ref p ∧ i = .int k ∧ H p = some (.lst xs) ∧ ixN xs.length k = some j ∧ Q (upd H p (.lst (xs.set j v)))
theorem set_list : PSet X rSetL := by
  intro pins s σ H o i v ov iv u Q I ro ri rv h
  obtain ⟨p, xs, k, j, rfl, rfl, hp, hj, q⟩ := h
  cases ro
  obtain ⟨t, rfl⟩ := ri
  obtain ⟨its, n, r, ho, hz⟩ := I.lst hp
  obtain ⟨h1, h2, h3, h4⟩ := ixN_seq hj
  have hl := r.length
  have hn := line63
  have I' : Inv X pins σ (upd H p (.lst (xs.set j v))) { s with heap := s.heap.update p (Obj.mapSeq (·.setIfInBounds j u)) } :=
    I.lstUpd hp ho (mapSeq_set its n j u) (r.set rv j) (by rw [List.length_set]; exact hz) s.toks
  by_cases h0 : 0 ≤ k
  · have hk : k.toNat = j := by
      rw [seqIndex_of h0 h4] at h1
      exact Option.some.inj h1
    exact PySem.W.ki_setAt ho h0 (by omega) (by rw [List.size_toArray, ← hl]; exact h4) (by rw [hk]; exact ⟨_, I', q⟩)
  · have hk : (k + (its.toArray.size : Int)).toNat = j := by
      rw [seqIndex_neg (by omega) h3] at h1
      rw [List.size_toArray, ← hl]
      exact Option.some.inj h1
    exact PySem.W.ki_setBack ho (by omega) (by rw [List.size_toArray, ← hl]; exact h3) (by omega) (by rw [hk]; exact ⟨_, I', q⟩)

/-! ### slices -/
theorem slice_bounds (lo hi : Option Int) (n : Nat) : (sliceBounds lo hi none n).1 = ((HT.sIx n 0 lo : Nat) : Int) ∧ (sliceBounds lo hi none n).2.1 = ((HT.sIx n n hi : Nat) : Int) ∧ (sliceBounds lo hi none n).2.2 = 1 := by
  refine ⟨?_, ?_, rfl⟩
  · cases lo with
    | none => simp [sliceBounds, HT.sIx]
    | some i =>
      simp only [sliceBounds, HT.sIx, Option.getD_none, show (1 : Int) > 0 by decide, if_true]
      by_cases h : i < 0
      · simp only [h, if_true] <;> omega
      · simp only [h, if_false] <;> omega
  · cases hi with
    | none => simp [sliceBounds, HT.sIx]
    | some i =>
      simp only [sliceBounds, HT.sIx, Option.getD_none, show (1 : Int) > 0 by decide, if_true]
      by_cases h : i < 0
      · simp only [h, if_true] <;> omega
      · simp only [h, if_false] <;> omega
theorem slicePick_cut (its : List Value) (lo hi : Option Int) : slicePick its.toArray lo hi none = ((its.drop (HT.sIx its.length 0 lo)).take (HT.sIx its.length its.length hi - HT.sIx its.length 0 lo)).toArray := by
  obtain ⟨h1, h2, h3⟩ := slice_bounds lo hi its.toArray.size
  unfold slicePick
  rw [h1, h2, h3]
  simp only [sliceRange_one, pick_run, List.size_toArray] <;> rfl
/-- xs[lo:hi] of a list: a new list -/
def rSlL (K : PySem.W.Frag) : V → Option Int → Option Int → Hp → VK → Prop := fun x lo hi H Q => ∃ a xs, x = .ref a ∧ SqL K H a xs ∧ ∀ p, H p = none → Q (.ref p) (upd H p (.lst (cutV xs lo hi)))
theorem sl_list : SlR X (rSlL X.K) := by
  intro pins s σ H x v vl vu lo hi sl Q I rx hs pl pu h
  obtain ⟨a, xs, rfl, hx, q⟩ := h
  cases rx
  obtain ⟨its, r, ht, hz⟩ := I.list hx
  have hlen := r.length
  refine ⟨"list", _, slot_list_getitem.lookup, ht.isList.typeIs, ?_⟩
  refine wpAny_getItem_list_slice ht.isList hs pl pu .none (by simp) ?_ (by rw [List.size_toArray] <;> omega)
  rw [slicePick_cut, ← hlen]
  refine ⟨.ref s.heap.objs.size, _, I.laid (t' := s.toks) (o := .lst (cutV xs lo hi)) (fun b ob q => Heap.get?_push_of_some _ q) (Nat.le_refl _) ?_, rfl, q _ (I.hok.fresh (Nat.le_refl _))⟩
  exact ⟨Nat.le_trans (cutV_length xs lo hi) hz, _, 0, (r.drop (HT.sIx xs.length 0 lo)).take (HT.sIx xs.length xs.length hi - HT.sIx xs.length 0 lo), Heap.get?_push_size _ rfl⟩

/-! ### in, not in: flat items -/
def flatV : V → Bool
  | .non => true
  | .bl _ => true
  | .int _ => true
  | .str _ => true
  | _ => false
/-- == of flat values -/
def eqV : V → V → Bool
  | .non, .non => true
  | .bl a, .bl b => a == b
  | .bl a, .int b => (if a then 1 else 0) == b
  | .int a, .bl b => a == (if b then 1 else 0)
  | .int a, .int b => a == b
  | .str a, .str b => a == b
  | _, _ => false
theorem eqAt_V {A : Around} {s : Shared} {y x : V} {u v : Value} (ry : RelV y u) (rx : RelV x v) (fy : flatV y = true) (fx : flatV x = true) : SeqAt.EqAt A s u v (eqV y x) := by
  cases y with
  | non =>
    cases ry
    cases x with
    | non => cases rx; exact SeqAt.EqAt.same _
    | bl b => cases rx; exact SeqAt.EqAt.none_bool b
    | int b => obtain ⟨t, rfl⟩ := rx; exact SeqAt.EqAt.none_int b t
    | str b => obtain ⟨t, rfl⟩ := rx; exact SeqAt.EqAt.none_str b t
    | _ => exact absurd (show false = true from fx) Bool.false_ne_true
  | bl a =>
    cases ry
    cases x with
    | non => cases rx; exact SeqAt.EqAt.bool_none a
    | bl b => cases rx; exact SeqAt.EqAt.bool_bool a b
    | int b => obtain ⟨t, rfl⟩ := rx; exact SeqAt.EqAt.bool_int a b t
    | str b => obtain ⟨t, rfl⟩ := rx; exact SeqAt.EqAt.bool_str a b t
    | _ => exact absurd (show false = true from fx) Bool.false_ne_true
  | int a =>
    obtain ⟨t', rfl⟩ := ry
    cases x with
    | non => cases rx; exact SeqAt.EqAt.int_none a t'
    | bl b => cases rx; exact SeqAt.EqAt.int_bool a t' b
    | int b => obtain ⟨t, rfl⟩ := rx; exact SeqAt.EqAt.int_int a t' b t
    | str b => obtain ⟨t, rfl⟩ := rx; exact SeqAt.EqAt.int_str a t' b t
    | _ => exact absurd (show false = true from fx) Bool.false_ne_true
  | str a =>
    obtain ⟨t', rfl⟩ := ry
    cases x with
    | non => cases rx; exact SeqAt.EqAt.str_none a t'
    | bl b => cases rx; exact SeqAt.EqAt.str_bool a t' b
    | int b => obtain ⟨t, rfl⟩ := rx; exact SeqAt.EqAt.str_int a t' b t
    | str b => obtain ⟨t, rfl⟩ := rx; exact SeqAt.EqAt.str_str a t' b t
    | _ => exact absurd (show false = true from fx) Bool.false_ne_true
  | _ => exact absurd (show false = true from fy) Bool.false_ne_true
/-- the items' answers, read off the values (a value's own answer does not lean on its token) -/
def eqU (x : V) (u : Value) : Bool := match u with
  | .none => eqV .non x
  | .bool b => eqV (.bl b) x
  | .int i _ => eqV (.int i) x
  | .str z _ => eqV (.str z) x
  | _ => false
theorem eqU_of {x y : V} {u : Value} (r : RelV y u) (f : flatV y = true) : eqU x u = eqV y x := by
  cases y with
  | non => cases r; rfl
  | bl b => cases r; rfl
  | int i => obtain ⟨t, rfl⟩ := r; rfl
  | str z => obtain ⟨t, rfl⟩ := r; rfl
  | _ => exact absurd (show false = true from f) Bool.false_ne_true
theorem any_eqU {x : V} : ∀ {xs : List V} {us : List Value}, Vals xs us → xs.all flatV = true → us.any (eqU x) = xs.any fun y => eqV y x
  | _, _, .nil, _ => rfl
  | y :: xs, u :: us, .cons r t, f => by
    rw [List.all_cons, Bool.and_eq_true] at f
    rw [List.any_cons, List.any_cons, eqU_of r f.1, any_eqU t f.2]
theorem mem_eqAt {A : Around} {s : Shared} {x : V} {v : Value} (rx : RelV x v) (fx : flatV x = true) : ∀ {xs : List V} {us : List Value}, Vals xs us → xs.all flatV = true → ∀ u ∈ us, SeqAt.EqAt A s u v (eqU x u)
  | _, _, .nil, _ => fun u hu => by cases hu
  | y :: xs, u :: us, .cons r t, f => fun u' hu => by
    rw [List.all_cons, Bool.and_eq_true] at f
    rcases List.mem_cons.mp hu with rfl | hu
    · rw [eqU_of r f.1]; exact eqAt_V r rx f.1 fx
    · exact mem_eqAt rx fx t f.2 u' hu
def inV (x : V) (xs : List V) : Bool := xs.any fun y => eqV y x
/-- x in a list or tuple of flat items -/
def rIn (K : PySem.W.Frag) (neg : Bool) : R2 := fun x y H Q => ∃ p xs, y = .ref p ∧ (SqL K H p xs ∨ SqT K H p xs) ∧ flatV x = true ∧ xs.all flatV = true ∧ Q (.bl (if neg then !inV x xs else inV x xs)) H
theorem op_in_seq : OpR X (compareOp .In) (rIn X.K false) := by
  intro pins s σ H x y v u Q I rx ry h
  obtain ⟨p, xs, rfl, hq, fx, fs, q⟩ := h
  cases ry
  rcases hq with hq | hq
  · obtain ⟨its, r, pl, hz⟩ := I.list hq
    refine SeqAt.in_listAt (eqU x) pl.isList (fun w hw => mem_eqAt rx fx r fs w (by simpa using hw)) ⟨.bl _, H, I, rfl, ?_⟩
    rw [show its.toArray.any (eqU x) = its.any (eqU x) by simp, any_eqU r fs]
    exact q
  · obtain ⟨its, r, pl, hz⟩ := I.tuple hq
    refine SeqAt.in_tupleAt (eqU x) pl (fun w hw => mem_eqAt rx fx r fs w (by simpa using hw)) ⟨.bl _, H, I, rfl, ?_⟩
    rw [show its.toArray.any (eqU x) = its.any (eqU x) by simp, any_eqU r fs]
    exact q
/-! ### len, list(x), tuple(x) of any list or tuple that is read -/
theorem call_len_seq : CallR X (.builtin "len") (fun xs H Q => ∃ p ys, xs = [.ref p] ∧ (SqL X.K H p ys ∨ SqT X.K H p ys) ∧ Q (.int ys.length) H) := by
  intro pins s σ H xs us Q I r h
  obtain ⟨p, ys, rfl, hq, q⟩ := h
  obtain ⟨u, rfl, rx⟩ := vals1 r
  cases rx
  have hn := line63
  rcases hq with hq | hq
  · obtain ⟨its, r', pl, hz⟩ := I.list hq
    have hlen := r'.length
    exact Calls.call_len_list pl.isList (by simp only [List.size_toArray] <;> omega) ⟨.int ys.length, H, I.tok _, ⟨s.toks + 1, by rw [List.size_toArray, hlen]⟩, q⟩
  · obtain ⟨its, r', pl, hz⟩ := I.tuple hq
    have hlen := r'.length
    exact len_tuple pl (by simp only [List.size_toArray] <;> omega) ⟨.int ys.length, H, I.tok _, ⟨s.toks + 1, by rw [List.size_toArray, hlen]⟩, q⟩
theorem call_len_str : CallR X (.builtin "len") (fun xs H Q => ∃ z, xs = [.str z] ∧ z.length ≤ sizeLine ∧ Q (.int z.length) H) := by
  intro pins s σ H xs us Q I r h
  obtain ⟨z, rfl, hz, q⟩ := h
  obtain ⟨u, rfl, t, rfl⟩ := vals1 r
  have hn := line63
  exact len_str (by omega) ⟨.int z.length, H, I.tok _, ⟨_, rfl⟩, q⟩
theorem CallR.or {f : Value} {r r' : List V → Hp → VK → Prop} (h : CallR X f r) (h' : CallR X f r') : CallR X f (fun xs H Q => r xs H Q ∨ r' xs H Q) := by
  intro pins s σ H xs us Q I rs q
  rcases q with q | q
  · exact h pins s σ H xs us Q I rs q
  · exact h' pins s σ H xs us Q I rs q
/-! ### the call of a builtin's method: o.m(..) -/
/-- the value is of that builtin type -/
def tyV (K : PySem.W.Frag) (T : String) (x : V) (H : Hp) : Prop := match x with
  | .str _ => T = "str"
  | .int _ => T = "int"
  | .ref p => (T = "list" ∧ ∃ xs, SqL K H p xs) ∨ (T = "tuple" ∧ ∃ o, K.lookup p = some o ∧ o.cls = .type "tuple" ∧ o.dict = none) ∨
      (T = "dict" ∧ ((∃ kvs, H p = some (.dK kvs)) ∨ ∃ kvs, H p = some (.dT kvs))) ∨ (T = "set" ∧ ∃ S n, H p = some (.set S n))
  | _ => False
theorem tyV_is {pins : List (Addr × Obj)} {σ : St} {H : Hp} {s : Shared} {T : String} {x : V} {v : Value} (I : Inv X pins σ H s) (r : RelV x v) (ty : tyV X.K T x H) :
    s.TypeIs v T ∧ ∀ a, v = .ref a → ∃ ob, s.heap.get? a = some ob ∧ ob.dict = none := by
  cases x with
  | str z =>
    obtain ⟨t, rfl⟩ := r
    cases (show T = "str" from ty)
    exact ⟨typeIs_str s z t, fun _ e => nomatch e⟩
  | int i =>
    obtain ⟨t, rfl⟩ := r
    cases (show T = "int" from ty)
    exact ⟨typeIs_int s i t, fun _ e => nomatch e⟩
  | ref p =>
    cases r
    rcases ty with ⟨rfl, xs, hq⟩ | ⟨rfl, o, hk, hc, hd⟩ | ⟨rfl, hk⟩ | ⟨rfl, S, n, hk⟩
    · obtain ⟨its, _, pl, _⟩ := I.list hq
      refine ⟨pl.isList.typeIs, fun a e => ?_⟩
      cases e
      obtain ⟨o, n, e, c, hd, _⟩ := pl
      exact ⟨o, e, hd⟩
    · refine ⟨⟨o, I.kIn p o hk, hc⟩, fun a e => ?_⟩
      cases e
      exact ⟨o, I.kIn _ o hk, hd⟩
    · have z : ∃ o, s.heap.get? p = some o ∧ o.ExactDict := by
        rcases hk with ⟨kvs, hk⟩ | ⟨kvs, hk⟩
        · obtain ⟨_, _, _, _, o, _, _, e, ex, _⟩ := I.hok p _ hk
          exact ⟨o, e, ex⟩
        · obtain ⟨_, _, _, _, o, _, _, e, ex, _⟩ := I.hok p _ hk
          exact ⟨o, e, ex⟩
      obtain ⟨o, e, ex⟩ := z
      refine ⟨⟨o, e, ex.1⟩, fun a e2 => ?_⟩
      cases e2
      exact ⟨o, e, ex.2.1⟩
    · obtain ⟨o, _, _, _, e, ex, _⟩ := I.hok p _ hk
      refine ⟨⟨o, e, ex.1⟩, fun a e2 => ?_⟩
      cases e2
      exact ⟨o, e, ex.2.1⟩
  | _ => exact False.elim ty
def tBM0 (K : PySem.W.Frag) (T : String) (r : V → List V → Hp → VK → Prop) (to : TE) : TE := fun σ H Q => to σ H fun x H1 => tyV K T x H1 ∧ r x [] H1 Q
def tBM (K : PySem.W.Frag) (T : String) (r : V → List V → Hp → VK → Prop) (to : TE) (t : TA) : TE := fun σ H Q => to σ H fun x H1 => tyV K T x H1 ∧ t σ H1 fun xs H2 => r x xs H2 Q
variable {o e : Expr} {es : List Expr} {to : TE} {t : TA} {name : Str} {apos cpos : Pos} {T id : String} {r : V → List V → Hp → VK → Prop}
theorem pe_bm (pa : PlainAttrs T) (slot : Slot T name id) (hty : typeOf (.builtin id) = pure (.type "method_descriptor")) (hm : MtR X id r) (ho : PE X o to) (ha : PA X (e :: es) t)
    (hbase : attributeBase o name X.env (eval o X.env) = eval o X.env := by rfl)
    (hfew : ((backTo cpos (starEach (e :: es) X.env)).all (fun x => !x.1) && (backToKw cpos (keywordEach [] X.env)).all (fun x => x.1.isSome)
      && decide ((e :: es).length + ([] : List Keyword).length + (if ([] : List Keyword).isEmpty then 0 else 1) < 30)) = true := by rfl)
    (hline : (apos.endLine == cpos.line) = true := by rfl) (hs : starEach (e :: es) X.env = (false, eval e X.env) :: starEach es X.env := by rfl) (hplain : (backTo cpos (starEach es X.env)).any (·.1) = false := by rfl) :
    PE X (.Call (.Attribute o name apos) (e :: es) [] cpos) (tBM X.K T r to t) := by
  intro pins s σ H Q I h
  refine wpAny_Call_method_late hbase hfew hline rfl (thn (ho pins s σ H _ I h) fun v s1 ⟨x, H1, I1, r1, ty, q1⟩ => ?_)
  obtain ⟨h1, h2⟩ := tyV_is I1 r1 ty
  refine ⟨T, id, pa, slot, hty, h1, h2, ?_⟩
  have hA := ha cpos pins s1 σ H1 _ I1 q1
  rw [hs] at hA ⊢
  refine Calls.callWith_builtin (by show (false || (backTo cpos (starEach es X.env)).any (·.1)) = false; rw [hplain] <;> rfl) (Calls.evalArgs_plain ?_)
  exact thn hA fun us s2 ⟨vs, H2, I2, r2, q2⟩ => hm pins s2 σ H2 x vs v us Q I2 r1 r2 q2
/- xs.append(e), list.index on a module's tuple .. are MtR facts of 06m -/
end
end L2

namespace L2
open PySem PySem.Spec PyProof.Rows

def MtM (X : Cx) (id : String) (r : V → List V → Hp → VK → Prop) : Prop :=
  ∀ (pins : List (Addr × Obj)) (s : Shared) (σ : St) (H : Hp) (x : V) (xs : List V) (v : Value) (us : List Value) (Q : VK), Inv X pins σ H s → RelV x v → Vals xs us → r x xs H Q →
    wpAny (model X.prog X.w) X.A (call (.builtin id) (v :: us)) (EP X pins σ Q) X.xe s

/-! ### lists of values -/
theorem Vals.one : ∀ {x : V} {us : List Value}, Vals [x] us → ∃ u, us = [u] ∧ RelV x u
  | _, _, .cons r .nil => ⟨_, rfl, r⟩
theorem Vals.two : ∀ {x y : V} {us : List Value}, Vals [x, y] us → ∃ u v, us = [u, v] ∧ RelV x u ∧ RelV y v
  | _, _, _, .cons r (.cons q .nil) => ⟨_, _, rfl, r, q⟩
theorem Vals.zero : ∀ {us : List Value}, Vals [] us → us = []
  | _, .nil => rfl
theorem Vals.dropLast {xs : List V} {us : List Value} (h : Vals xs us) : Vals xs.dropLast us.dropLast := by
  induction h with
  | nil => exact .nil
  | cons r t ih =>
    cases t with
    | nil => exact .nil
    | cons q t' => exact .cons r ih
theorem Vals.eraseIdx : ∀ {xs : List V} {us : List Value} (i : Nat), Vals xs us → Vals (xs.eraseIdx i) (us.eraseIdx i)
  | _, _, _, .nil => .nil
  | _, _, 0, .cons _ t => t
  | _, _, i + 1, .cons r t => .cons r (Vals.eraseIdx i t)
theorem Vals.reverse {xs : List V} {us : List Value} (h : Vals xs us) : Vals xs.reverse us.reverse := by
  induction h with
  | nil => exact .nil
  | cons r t ih => rw [List.reverse_cons, List.reverse_cons]; exact Vals.append ih (.cons r .nil)
theorem Vals.rep {xs : List V} {us : List Value} (h : Vals xs us) : ∀ k : Nat, Vals (List.replicate k xs).flatten (List.replicate k us).flatten
  | 0 => .nil
  | k + 1 => by
    rw [List.replicate_succ, List.replicate_succ, List.flatten_cons, List.flatten_cons]
    exact Vals.append h (Vals.rep h k)
theorem foldl_rep (its : List Value) : ∀ (k : Nat) (acc : List Value),
    List.foldl (fun x1 x2 => x1 ++ x2) acc.toArray (List.replicate k its.toArray) = (acc ++ (List.replicate k its).flatten).toArray
  | 0, acc => by simp
  | k + 1, acc => by
    have e : acc.toArray ++ its.toArray = (acc ++ its).toArray := by simp
    have e2 : (acc ++ its) ++ (List.replicate k its).flatten = acc ++ (List.replicate (k + 1) its).flatten := by
      rw [List.replicate_succ, List.flatten_cons, List.append_assoc]
    rw [← e2, ← foldl_rep its k (acc ++ its), ← e, List.replicate_succ, List.foldl_cons]

section
variable {X : Cx} {pins : List (Addr × Obj)} {σ : St} {H : Hp} {s : Shared} {l b : Addr} {xs ys zs : List V}

/-! ### the two steps: a tracked list is rewritten, a new list is laid -/
theorem Inv.lnew {its : List Value} {t' : Nat} (I : Inv X pins σ H s) (hv : Vals ys its) (hz : ys.length ≤ sizeLine) :
    Inv X pins σ (upd H s.heap.objs.size (.lst ys)) { s with heap := s.heap.push { cls := .type "list", data := .seq its.toArray }, toks := t' } :=
  I.laid (fun _ _ q => Heap.get?_push_of_some _ q) (Nat.le_refl _) ⟨hz, its, 0, hv, Heap.get?_push_size _ rfl⟩
theorem Inv.fresh (I : Inv X pins σ H s) : H s.heap.objs.size = none := I.hok.fresh (Nat.le_refl _)
theorem Inv.lstM (I : Inv X pins σ H s) (hH : H l = some (.lst xs)) : xs.length ≤ sizeLine ∧ ∃ (its : List Value) (n : Nat), Vals xs its ∧ xs.length = its.length ∧ s.heap.get? l = some { cls := .type "list", data := .seq its.toArray n } := by
  obtain ⟨z, its, n, r, e⟩ := I.hok l _ hH
  exact ⟨z, its, n, r, r.length, e⟩

theorem notLongL {n : Nat} (h : n ≤ sizeLine) : Builtin.List.listTooLong n = false := by
  unfold Builtin.List.listTooLong
  exact decide_eq_false (by omega)
end

section
variable {X : Cx}

/-! ### methods -/
def rAppend : V → List V → Hp → VK → Prop := fun x vs H Q => ∃ l xs y, x = .ref l ∧ vs = [y] ∧ H l = some (.lst xs) ∧ xs.length < sizeLine ∧ Q .non (upd H l (.lst (xs ++ [y])))
def rExtend : V → List V → Hp → VK → Prop := fun x vs H Q => ∃ l b xs zs, x = .ref l ∧ vs = [.ref b] ∧ H l = some (.lst xs) ∧ H b = some (.lst zs) ∧ xs.length + zs.length ≤ sizeLine ∧ Q .non (upd H l (.lst (xs ++ zs)))
def rPop : V → List V → Hp → VK → Prop := fun x vs H Q => ∃ l xs y, x = .ref l ∧ vs = [] ∧ H l = some (.lst xs) ∧ xs[xs.length - 1]? = some y ∧ Q y (upd H l (.lst xs.dropLast))
def rPopAt : V → List V → Hp → VK → Prop := fun x vs H Q => ∃ l xs i k y, x = .ref l ∧ vs = [.int i] ∧ H l = some (.lst xs) ∧ -(2 ^ 63) ≤ i ∧ i < 2 ^ 63 ∧ seqIndex? i xs.length = some k ∧ xs[k]? = some y ∧ Q y (upd H l (.lst (xs.eraseIdx k)))
def rReverse : V → List V → Hp → VK → Prop := fun x vs H Q => ∃ l xs, x = .ref l ∧ vs = [] ∧ H l = some (.lst xs) ∧ Q .non (upd H l (.lst xs.reverse))
def rClear : V → List V → Hp → VK → Prop := fun x vs H Q => ∃ l xs, x = .ref l ∧ vs = [] ∧ H l = some (.lst xs) ∧ Q .non (upd H l (.lst []))
/-! ### list + list, list += list, list * int -/
def rCat : R2 := fun x y H Q => ∃ l b xs zs, x = .ref l ∧ y = .ref b ∧ H l = some (.lst xs) ∧ H b = some (.lst zs) ∧ xs.length + zs.length ≤ sizeLine ∧ ∀ p, H p = none → Q (.ref p) (upd H p (.lst (xs ++ zs)))
theorem op_cat : OpR X (binaryOp .Add) rCat := by
  intro pins s σ H x y v u Q I rx ry h
  obtain ⟨l, b, xs, zs, rfl, rfl, hH, hB, hz, q⟩ := h
  cases rx
  cases ry
  obtain ⟨z, its, n, r, hl, e⟩ := I.lstM hH
  obtain ⟨z2, its2, n2, r2, hl2, e2⟩ := I.lstM hB
  refine PySem.P.add_list e e2 ?_ (by rw [List.size_toArray, List.size_toArray]; omega)
  have ea : its.toArray ++ its2.toArray = (its ++ its2).toArray := by simp
  rw [ea]
  exact ⟨.ref _, _, I.lnew (t' := s.toks) (r.append r2) (by rw [List.length_append]; omega), rfl, q _ I.fresh⟩
/-- a list times an int (a negative one is nothing) -/
def rRep : R2 := fun x y H Q => ∃ l k xs, x = .ref l ∧ y = .int k ∧ H l = some (.lst xs) ∧ -(2 ^ 63) ≤ k ∧ k < 2 ^ 63 ∧ xs.length * k.toNat ≤ sizeLine ∧
  ∀ p, H p = none → Q (.ref p) (upd H p (.lst (List.replicate k.toNat xs).flatten))
theorem len_rep {α : Type} (xs : List α) (k : Nat) : (List.replicate k xs).flatten.length = k * xs.length := by
  induction k with
  | zero => simp
  | succ k ih => rw [List.replicate_succ, List.flatten_cons, List.length_append, ih, Nat.succ_mul, Nat.add_comm]
theorem op_rep : OpR X (binaryOp .Mult) rRep := by
  intro pins s σ H x y v u Q I rx ry h
  obtain ⟨l, k, xs, rfl, rfl, hH, h1, h2, hz, q⟩ := h
  cases rx
  obtain ⟨t, rfl⟩ := ry
  obtain ⟨z, its, n, r, hl, e⟩ := I.lstM hH
  have hlen : its.toArray.size * k.toNat ≤ sizeLine := by rw [List.size_toArray, ← hl]; exact hz
  have hcap : ¬ its.toArray.size * k.toNat > (2 ^ 63 - 1) / 8 := by
    have : (sizeLine : Nat) ≤ (2 ^ 63 - 1) / 8 := by decide
    omega
  have hfit : ¬ (!Builtin.List.listFitsIndex k) = true := by
    rw [fitsIndex_both h1 h2]
    exact Bool.false_ne_true
  have hlong : ¬ Builtin.List.listTooLong (its.toArray.size * k.toNat) = true := by
    rw [notLongL hlen]
    exact Bool.false_ne_true
  have hnew : List.foldl (fun x1 x2 => x1 ++ x2) #[] (List.replicate (if its.toArray.isEmpty = true then 0 else k.toNat) its.toArray) = (List.replicate k.toNat its).flatten.toArray := by
    have f0 : ∀ m : Nat, List.foldl (fun x1 x2 => x1 ++ x2) #[] (List.replicate m its.toArray) = (List.replicate m its).flatten.toArray := fun m => by
      have := foldl_rep its m []
      rw [List.nil_append] at this
      exact this
    rw [f0]
    cases its with
    | nil => simp
    | cons a r' => rw [if_neg (by simp)]
  refine wpAny_binaryOp_repeat_ref (T := "list") (U := "int") (by decide) ⟨_, e, rfl⟩ (fun s' => typeIs_int s' k t) noFill_list_mul F.fills_int_mul F.slot_int_rmul repeat_list F.slot_int_index.lookup
    (call_meets F.slot_int_rmul (typeIs_int s k t) F.entry_int_rmul (F.args_int_rmul_2 _ _) (int___rmul___int_list k t l its.toArray n)
      ⟨e, rfl, ⟨_, e, rfl⟩, call_meets F.slot_list_mul ⟨_, e, rfl⟩ F.entry_list_mul (F.args_list_mul_2 _ _) (AutoListH.list___mul___list_int_3 l its.toArray n k t hfit hcap hlong) ⟨e, ?_⟩⟩)
  rw [hnew]
  exact ⟨.ref _, _, I.lnew (t' := s.toks) (r.rep k.toNat) (by rw [len_rep, Nat.mul_comm]; exact hz), rfl, q _ I.fresh⟩

/-! ### del xs[i] -/
end

/-! ### xs[a:b] = ys -/
section
variable {prog : Program} {w : World} {A : Around} {E : Value → Shared → Prop} {s : Shared}
end

section
variable {X : Cx}
end
end L2

namespace L2
open PySem PySem.Spec PyProof.Rows

/-! ### lists of pairs as tables -/
section
variable {κ : Type} [DecidableEq κ]
def valV (kvs : List (κ × V)) (k : κ) : Option V := (kvs.find? fun kv => decide (kv.1 = k)).map (·.2)
/-- in its place, or at the end -/
def putK (kvs : List (κ × V)) (k : κ) (v : V) : List (κ × V) :=
  if (kvs.any fun kv => decide (kv.1 = k)) = true then kvs.map (fun kv => if kv.1 = k then (kv.1, v) else kv) else kvs ++ [(k, v)]
def dropK (kvs : List (κ × V)) (k : κ) : List (κ × V) := kvs.filter fun kv => decide (kv.1 ≠ k)

theorem valV_pos {p : κ × V} {r : List (κ × V)} {k : κ} (e : p.1 = k) : valV (p :: r) k = some p.2 := by simp [valV, List.find?_cons, e]
theorem valV_neg {p : κ × V} {r : List (κ × V)} {k : κ} (e : ¬ p.1 = k) : valV (p :: r) k = valV r k := by simp [valV, List.find?_cons, e]
theorem RelO.getD {o : Option V} {u : Option Value} {d : V} {d' : Value} (r : RelO o u) (rd : RelV d d') : RelV (o.getD d) (u.getD d') := by
  cases o with
  | none => cases u with
    | none => exact rd
    | some _ => exact (show False from r).elim
  | some _ => cases u with
    | none => exact (show False from r).elim
    | some _ => exact r

/-- raw tables of the same keys -/
theorem KV.val {kvs : List (κ × V)} {vs : List (κ × Value)} (r : KV kvs vs) (k : κ) : RelO (valV kvs k) (valueAt vs k) := by
  unfold KV at r
  induction r with
  | nil => exact True.intro
  | @cons p q ps qs h t ih =>
    obtain ⟨h1, h2⟩ := h
    by_cases e : p.1 = k
    · have e' : q.1 = k := h1.symm.trans e
      have b : valueAt (q :: qs) k = some q.2 := by simp [valueAt, List.find?_cons, e']
      rw [valV_pos e, b]; exact h2
    · have e' : ¬ q.1 = k := fun z => e (h1.trans z)
      have b : valueAt (q :: qs) k = valueAt qs k := by simp [valueAt, List.find?_cons, e']
      rw [valV_neg e, b]; exact ih
theorem KV.any {kvs : List (κ × V)} {vs : List (κ × Value)} (r : KV kvs vs) (k : κ) : (kvs.any fun kv => decide (kv.1 = k)) = vs.any fun kv => decide (kv.1 = k) := by
  unfold KV at r
  induction r with
  | nil => rfl
  | cons h t ih => rw [List.any_cons, List.any_cons, ih, h.1]
theorem KV.drop {kvs : List (κ × V)} {vs : List (κ × Value)} (r : KV kvs vs) (k : κ) : KV (dropK kvs k) (without vs k) := by
  unfold KV at r ⊢
  unfold dropK without
  induction r with
  | nil => exact .nil
  | @cons p q ps qs h t ih =>
    obtain ⟨h1, h2⟩ := h
    rw [List.filter_cons, List.filter_cons]
    by_cases e : p.1 = k
    · have a : ¬ decide (p.1 ≠ k) = true := by simp [e]
      have b : ¬ decide (q.1 ≠ k) = true := by simp [h1.symm.trans e]
      rw [if_neg a, if_neg b]; exact ih
    · have e' : ¬ q.1 = k := fun z => e (h1.trans z)
      have a : decide (p.1 ≠ k) = true := by simp [e]
      have b : decide (q.1 ≠ k) = true := by simp [e']
      rw [if_pos a, if_pos b]; exact .cons ⟨h1, h2⟩ ih
theorem KV.keys {kvs : List (κ × V)} {vs : List (κ × Value)} (r : KV kvs vs) : kvs.map (·.1) = vs.map (·.1) := by
  unfold KV at r
  induction r with
  | nil => rfl
  | cons h t ih => rw [List.map_cons, List.map_cons, ih, h.1]
theorem KV.length {kvs : List (κ × V)} {vs : List (κ × Value)} (r : KV kvs vs) : kvs.length = vs.length := Paired.length r
end


/-! ### a tracked dict, its keys ints and texts or tuples of these -/
/-- raw entries of a dict with tuple keys -/
abbrev KT (H : Hp) : List (List Key × V) → List (List Key × Addr × Value) → Prop := Paired fun p q => p.1 = q.1 ∧ H q.2.1 = some (.tup (p.1.map kV)) ∧ RelV p.2 q.2.2
theorem KT.val {H : Hp} {kvs : List (List Key × V)} {xs : List (List Key × Addr × Value)} (r : KT H kvs xs) (k : List Key) : RelO (valV kvs k) ((atKey xs k).map (·.2)) := by
  induction r with
  | nil => exact True.intro
  | @cons p q ps qs h t ih =>
    obtain ⟨h1, _, h2⟩ := h
    by_cases e : p.1 = k
    · have e' : q.1 = k := h1.symm.trans e
      have b : atKey (q :: qs) k = some q.2 := by simp [atKey, List.find?_cons, e']
      rw [valV_pos e, b]; exact h2
    · have e' : ¬ q.1 = k := fun z => e (h1.trans z)
      have b : atKey (q :: qs) k = atKey qs k := by simp [atKey, List.find?_cons, e']
      rw [valV_neg e, b]; exact ih
theorem KT.keeps {H H' : Hp} {kvs : List (List Key × V)} {xs : List (List Key × Addr × Value)} (r : KT H kvs xs) (ht : ∀ b ys, H b = some (.tup ys) → H' b = some (.tup ys)) : KT H' kvs xs :=
  Paired.mapP r fun _ _ z => ⟨z.1, ht _ _ z.2.1, z.2.2⟩

section
variable {P : Program} {w : World} {H : Hp} {h : Heap} {a : Addr}
theorem rd_of {u : HO} (ok : HOk P w H h) (e : Rd H a u) : ObjOk P w H h a u := e.ok ok
theorem dk_rd {kvs : List (Key × V)} (ok : HOk P w H h) (e : Rd H a (.dK kvs)) : kvs.length ≤ sizeLine ∧ (a == sysModules) = false ∧ ∃ vs, KV kvs vs ∧ h.DictOf (mixKind P w) a vs :=
  show ObjOk P w H h a (.dK kvs) from rd_of ok e
end

/-- what the dict at a holds at the key y -/
def DGet (H : Hp) (a : Addr) (y : V) (r : Option V) : Prop :=
  (∃ kvs k, Rd H a (.dK kvs) ∧ y = kV k ∧ r = valV kvs k) ∨ ∃ kvs k b, Rd H a (.dT kvs) ∧ y = .ref b ∧ H b = some (.tup (k.map kV)) ∧ r = valV kvs k
/-- the heap behind a[y] = v -/
def DPut (H : Hp) (a : Addr) (y v : V) (H' : Hp) : Prop :=
  (∃ kvs k, H a = some (.dK kvs) ∧ y = kV k ∧ kvs.length < sizeLine ∧ H' = upd H a (.dK (putK kvs k v))) ∨
  ∃ kvs k b, H a = some (.dT kvs) ∧ y = .ref b ∧ H b = some (.tup (k.map kV)) ∧ kvs.length < sizeLine ∧ H' = upd H a (.dT (putK kvs k v))
theorem DGet.k {H : Hp} {a : Addr} {kvs : List (Key × V)} {k : Key} (e : H a = some (.dK kvs)) : DGet H a (kV k) (valV kvs k) := .inl ⟨kvs, k, .inl e, rfl, rfl⟩
theorem DGet.t {H : Hp} {a b : Addr} {kvs : List (List Key × V)} {k : List Key} (e : H a = some (.dT kvs)) (eb : H b = some (.tup (k.map kV))) : DGet H a (.ref b) (valV kvs k) := .inr ⟨kvs, k, b, .inl e, rfl, eb, rfl⟩
theorem DPut.k {H : Hp} {a : Addr} {kvs : List (Key × V)} {k : Key} {v : V} (e : H a = some (.dK kvs)) (hl : kvs.length < sizeLine) : DPut H a (kV k) v (upd H a (.dK (putK kvs k v))) := .inl ⟨kvs, k, e, rfl, hl, rfl⟩
theorem DPut.t {H : Hp} {a b : Addr} {kvs : List (List Key × V)} {k : List Key} {v : V} (e : H a = some (.dT kvs)) (eb : H b = some (.tup (k.map kV))) (hl : kvs.length < sizeLine) :
    DPut H a (.ref b) v (upd H a (.dT (putK kvs k v))) := .inr ⟨kvs, k, b, e, rfl, eb, hl, rfl⟩


section
variable {X : Cx} {pins : List (Addr × Obj)} {σ : St} {H : Hp} {s : Shared} {a : Addr} {y v : V} {u r : Value} {o : Option V} {A : Around} {E : Value → Shared → Prop}

end

section
variable {X : Cx} {pins : List (Addr × Obj)} {σ : St} {H : Hp} {s : Shared} {a : Addr} {kvs : List (Key × V)} {k : Key} {u : Value} {A : Around} {E : Value → Shared → Prop}
/-- len(d) -/
theorem d_len {Q : Value → Shared → Prop} (I : Inv X pins σ H s) (e : Rd H a (.dK kvs)) (h : ∀ t s', Inv X pins σ H s' → Q (.int kvs.length t) s') : wpAny (model X.prog X.w) A (call (.builtin "len") [.ref a]) Q E s := by
  obtain ⟨z, hd, vs, rel, dd⟩ := dk_rd I.hok e
  refine call_len_dict hd dd (by rw [← rel.length]; rw [sizeLine_eq] at z; omega) ?_
  rw [← rel.length]
  exact h _ _ (I.tok _)
end


/-! ### readings and rules -/
/-- the element of a subscription, not a slice -/
def NoSl (i : Expr) : Prop := ∀ ov iv, subscripted i false ov iv = operate [ov, iv] (getItem ov iv)
/-- d[y] -/
def tDGet (td ty : TE) : TE := fun σ H Q => td σ H fun x H1 => ty σ H1 fun y H2 => ∃ a v, x = .ref a ∧ DGet H2 a y (some v) ∧ Q v H2
/-- y in d, y not in d -/
def tDIn (ty td : TE) : TE := fun σ H Q => ty σ H fun y H1 => td σ H1 fun x H2 => ∃ a o, x = .ref a ∧ DGet H2 a y o ∧ Q (.bl o.isSome) H2
def tDNotIn (ty td : TE) : TE := fun σ H Q => ty σ H fun y H1 => td σ H1 fun x H2 => ∃ a o, x = .ref a ∧ DGet H2 a y o ∧ Q (.bl (!o.isSome)) H2
/-- d[y] = v -/
def sDPut (td ty tv : TE) : TS := fun D σ H => tv σ H fun v H1 => td σ H1 fun x H2 => ty σ H2 fun y H3 => ∃ a H4, x = .ref a ∧ DPut H3 a y v H4 ∧ D.nx σ H4
/-- d[y] op= v -/
def sDAug (td ty tv : TE) (rd : V → V → Hp → VK → Prop) : TS := fun D σ H => td σ H fun x H1 => ty σ H1 fun y H2 => ∃ a v, x = .ref a ∧ DGet H2 a y (some v) ∧
  tv σ H2 fun y2 H3 => rd v y2 H3 fun z H4 => ∃ H5, DPut H4 a y z H5 ∧ D.nx σ H5
/-- del d[y] -/
def sDDel (td ty : TE) : TS := fun D σ H => td σ H fun x H1 => ty σ H1 fun y H2 => ∃ a kvs k, x = .ref a ∧ H2 a = some (.dK kvs) ∧ y = kV k ∧ (valV kvs k).isSome = true ∧ D.nx σ (upd H2 a (.dK (dropK kvs k)))

section
variable {X : Cx} {o i e value : Expr} {pos pos' tpos : Pos} {td ty tv : TE}
end


/-! ### displays -/
/-- {}, to be a dict of the kind that is wanted -/
def tDNewK : TE := fun _ H Q => ∀ p, H p = none → Q (.ref p) (upd H p (.dK []))
def tDNewT : TE := fun _ H Q => ∀ p, H p = none → Q (.ref p) (upd H p (.dT []))
section
variable {X : Cx} {pos : Pos}
end

/-- the pairs of a display, from the left -/
def tPairs : List (TE × TE) → St → Hp → (List (V × V) → Hp → Prop) → Prop
  | [], _, H, Q => Q [] H
  | (tk, tv) :: r, σ, H, Q => tk σ H fun x H1 => tv σ H1 fun y H2 => tPairs r σ H2 fun ps H3 => Q ((x, y) :: ps) H3
abbrev VV : List (V × V) → List (Value × Value) → Prop := Paired fun p q => RelV p.1 q.1 ∧ RelV p.2 q.2
def PPs (X : Cx) (pos : Pos) (keys : List (Option Expr)) (values : List Expr) (trs : List (TE × TE)) : Prop :=
  ∀ (pins : List (Addr × Obj)) (s : Shared) (σ : St) (H : Hp) (Q : List (V × V) → Hp → Prop), Inv X pins σ H s → tPairs trs σ H Q →
    wpAny (model X.prog X.w) X.A (evalPairs (pairTrees keys values X.env pos)) (fun vs s' => ∃ ps H', Inv X pins σ H' s' ∧ VV ps vs ∧ Q ps H') X.xe s
def mergeK (kvs more : List (Key × V)) : List (Key × V) := more.foldl (fun acc kv => putK acc kv.1 kv.2) kvs
/-- {k: v, ..} with keys ints and texts; the new dict stands empty while the pairs are made -/
def tDisp (trs : List (TE × TE)) : TE := fun σ H Q => ∀ p, H p = none → tPairs trs σ (upd H p (.dK [])) fun ps H2 => H2 p = some (.dK []) ∧ ∃ kvs : List (Key × V), ps = kvs.map (fun kv => (kV kv.1, kv.2)) ∧ kvs.length ≤ 15 ∧ Q (.ref p) (upd H2 p (.dK (mergeK [] kvs)))
/-! ### methods -/
/-- a method call o.m(e) of a built-in, with one argument: what must be seen of the text -/
structure M1 (X : Cx) (o : Expr) (m : Str) (apos : Pos) (e : Expr) (cpos : Pos) : Prop where
  base : attributeBase o m X.env (eval o X.env) = eval o X.env
  few : ((backTo cpos (starEach [e] X.env)).all (fun x => !x.1) && (backToKw cpos (keywordEach [] X.env)).all (fun x => x.1.isSome)
    && decide (([e] : List Expr).length + ([] : List Keyword).length + (if ([] : List Keyword).isEmpty then 0 else 1) < 30)) = true
  line : (apos.endLine == cpos.line) = true
  trees : backTo cpos (starEach [e] X.env) = [(false, eval e X.env)]
structure M2 (X : Cx) (o : Expr) (m : Str) (apos : Pos) (e f : Expr) (cpos : Pos) : Prop where
  base : attributeBase o m X.env (eval o X.env) = eval o X.env
  few : ((backTo cpos (starEach [e, f] X.env)).all (fun x => !x.1) && (backToKw cpos (keywordEach [] X.env)).all (fun x => x.1.isSome)
    && decide (([e, f] : List Expr).length + ([] : List Keyword).length + (if ([] : List Keyword).isEmpty then 0 else 1) < 30)) = true
  line : (apos.endLine == cpos.line) = true
  trees : backTo cpos (starEach [e, f] X.env) = [(false, eval e X.env), (false, eval f X.env)]

/-- a is a dict, whatever its keys -/
def IsD (H : Hp) (a : Addr) : Prop := (∃ kvs, Rd H a (.dK kvs)) ∨ ∃ kvs, Rd H a (.dT kvs)
section
variable {X : Cx} {pins : List (Addr × Obj)} {σ : St} {H : Hp} {s : Shared} {a : Addr} {y d : V} {u r : Value} {o : Option V} {A : Around} {E : Value → Shared → Prop}
end

def tDGet1 (td ty : TE) : TE := fun σ H Q => td σ H fun x H1 => ∃ a, x = .ref a ∧ IsD H1 a ∧ ty σ H1 fun y H2 => ∃ o, DGet H2 a y o ∧ Q (o.getD .non) H2
def tDGet2 (td ty tx : TE) : TE := fun σ H Q => td σ H fun x H1 => ∃ a, x = .ref a ∧ IsD H1 a ∧ ty σ H1 fun y H2 => tx σ H2 fun z H3 => ∃ o, DGet H3 a y o ∧ Q (o.getD z) H3
/-- d.pop(k): there; d.pop(k, x): there or not -/
def tDPop1 (td ty : TE) : TE := fun σ H Q => td σ H fun x H1 => ∃ a, x = .ref a ∧ IsD H1 a ∧ ty σ H1 fun y H2 => ∃ kvs k v, H2 a = some (.dK kvs) ∧ y = kV k ∧ valV kvs k = some v ∧ Q v (upd H2 a (.dK (dropK kvs k)))
def tDPop2 (td ty tx : TE) : TE := fun σ H Q => td σ H fun x H1 => ∃ a, x = .ref a ∧ IsD H1 a ∧ ty σ H1 fun y H2 => tx σ H2 fun z H3 => ∃ kvs k, H3 a = some (.dK kvs) ∧ y = kV k ∧
  (∀ v, valV kvs k = some v → Q v (upd H3 a (.dK (dropK kvs k)))) ∧ (valV kvs k = none → Q z H3)
section
variable {X : Cx} {o e f : Expr} {apos cpos : Pos} {td ty tx : TE}
end

/-! ### dict(d): a copy -/
section
variable {X : Cx} {pins : List (Addr × Obj)} {σ : St} {H : Hp} {s : Shared} {a : Addr} {kvs : List (Key × V)} {A : Around} {E : Value → Shared → Prop}
end


section
variable {X : Cx} {pins : List (Addr × Obj)} {σ : St} {H : Hp} {s : Shared} {a : Addr} {y : V} {u : Value} {A : Around} {E : Value → Shared → Prop}
end
end L2

namespace Att
open PySem PySem.W PySem.Calls PyProof.Rows

/-! ### the script -/
theorem ints_of_wellAll {P : Params} {h : Heap} : ∀ (ns : List Int) (vs : List Value), WellAll P h vs (ns.map WData.int) → IntsAre vs ns := by
  intro ns
  induction ns with
  | nil =>
    intro vs w
    rw [List.map_nil] at w
    cases w
    exact .nil
  | cons n ns ih =>
    intro vs w
    rw [List.map_cons] at w
    cases w with
    | cons a b =>
      cases a
      exact .cons _ _ (ih _ b)

theorem script_of {l : OpenLaw} {n : Nat} (hn : l.most = some n) {P : Params} {h : Heap} {args : List WData} {vals : List Value}
    (hpre : l.row.toRowW.claim.pre args = true) (hwl : WellAll P h vals args) :
    ∃ a vs ns, vals = [Value.ref a] ∧ args = [WData.list (ns.map WData.int)] ∧ h.get? a = some { cls := .type "list", data := .seq vs.toArray } ∧ IntsAre vs ns ∧ ns.length ≤ n := by
  have hsh : WShape.hasAll [] args [.list .int] = true := (pre_splitW hpre).1
  have hc : l.pre.holds [] { args := args } = true := (pre_splitW hpre).2
  obtain ⟨d, r, rfl, h1, h2⟩ := hasAllW_cons hsh
  obtain rfl := hasAllW_nil h2
  obtain ⟨xs, rfl, h3⟩ := hasW_list h1
  obtain ⟨ns, rfl⟩ := items_int h3
  have hlen : ns.length ≤ n := by
    unfold OpenLaw.pre at hc
    have h4 : (WTm.not (.lt (.lit (.int (n : Int))) (.len (.arg 0)))).holds [] { args := [.list (ns.map .int)] } = true := by
      have h4 := (holds_andW hc).1
      rw [hn] at h4
      exact h4
    have h5 := condW_of h4 (w_not (w_lt w_lit (w_len_list (w_arg rfl))))
    rw [List.length_map] at h5
    refine Nat.le_of_not_lt fun q => ?_
    have q' : (n : Int) < ((ns.length : Nat) : Int) := by omega
    first
      | (rw [decide_eq_true q'] at h5; exact absurd h5 (by decide))
      | (simp at h5; omega)
  cases hwl with
  | cons w1 w2 =>
    cases w2
    cases w1 with
    | list ho hall => exact ⟨_, _, ns, rfl, rfl, ho, ints_of_wellAll ns _ hall, hlen⟩

theorem post_true (l : OpenLaw) (args : List WData) : l.row.toRowW.claim.post args (.bool true) args = true :=
  postW_of (r := l.row.toRowW) (X := (true == true))
    (show WShape.has [] (.bool true) .bool = true by first | rfl | decide | simp [WShape.has, WShape.arms, WShape.armsAll])
    (show (WTm.eq .res (.lit (.bool true))).value [] { args := args, res := some (.bool true), after := args } = some (.bool (true == true)) from w_eq_bool (w_res rfl) w_lit) rfl

/-! ### the attachment: holds_open's last premise (the goal 'hc' behind k_head) from a wpAny of the law's body -/
/-- the same from a codeAny of the CALL (for a layer whose function contracts speak of calls) -/
theorem attach_call {l : OpenLaw} {n : Nat} {q : Program} {loose : List Str} {XP : (Str → Option Value) → Heap → Prop} {YP : World → Heap → Prop} {d : DefRec}
    (hn : l.most = some n) (hdf : d.params.defaults = [])
    (call : ∀ (w : World) (s₀ s₁ : Shared) (mg mb : Str → Option Value) (fa : Addr) (o : Obj) (pm cd doc : Value) (a : Addr) (vs : List Value) (ns : List Int),
      Ground q loose [] XP w s₀ mg mb s₁.heap → YP w s₁.heap →
      s₁.heap.get? fa = some o → o.data = .func (docDef d.name d.params d.body d.scope pm cd doc) → s₁.heap.CodeRec cd d.name → mg d.name = some (.ref fa) →
      s₁.heap.get? a = some { cls := .type "list", data := .seq vs.toArray } → IntsAre vs ns → ns.length ≤ n → s₁.gens = #[] →
      codeAny (model l.prog w) callerA (.call (.ref fa) ⟨[.ref a], []⟩) (fun r s' => r = .ok (.ret (.bool true)) ∧ OldK s₁.heap s'.heap ∧ s'.os = s₁.os ∧ AllBare s'.gens) s₁) :
    WalkO q loose XP YP l.row.toRowW d [] (fun f vs => PySem.call f vs) := by
  intro w s₀ s₁ mg mb G Y fa o pm cd doc dV kV ho hd hcd hD hmg hg args vals as hpre hlay hrd hwl hlo
  obtain rfl : dV = .none := Dflts.none hD hdf
  obtain rfl : kV = .none := Dflts.noKw hD
  obtain ⟨a, vs, ns, rfl, rfl, hobj, hints, hlen⟩ := script_of hn hpre hwl
  refine enter_call (codeAny_mono (call w s₀ s₁ mg mb fa o pm cd doc a vs ns G Y ho (fd_plain hd) hcd hmg hobj hints hlen hg) fun r s' hq => ?_)
  obtain ⟨rfl, h2, h3, h4⟩ := hq
  exact ⟨.inl ⟨.bool true, .bool true, [], rfl, fun _ => rfl, .bool true, post_true l _, fun _ => ⟨List.Pairwise.nil, fun _ hm => (nomatch hm)⟩⟩, h2, h3, h4⟩

/-! ### rules over ANY heap (no ledger) from facts about the written part K: the library's own take a ledger (News) for what they write -/
section
variable {prog : Program} {w : World} {A : Around} {E : Value → Shared → Prop} {s : Shared} {K : Frag}

/-! the whole heap as the ledger: makes every rule that writes through a ledger a rule over any heap -/
def noObjs (h : Heap) : Heap := { h with objs := #[] }
def ledger (h : Heap) (L d : Addr) : List (Addr × Obj) := (List.range h.objs.size).filterMap fun a => if a = L ∨ a = d then none else (h.get? a).map fun o => (a, o)
end
end Att

namespace L2
open PySem PySem.Spec PyProof.Rows

theorem vals_ints : ∀ {vs : List Value} {ns : List Int}, IntsAre vs ns → Vals (ns.map V.int) vs
  | _, _, .nil => .nil
  | _, _, .cons n t h => .cons ⟨t, rfl⟩ (vals_ints h)

/-- nothing is tracked but the script, known to the object (or it is an object of the module) -/
def Only (H : Hp) : Prop := ∀ b, H b = none ∨ ∃ o xs, H b = some (.frz o (.lst xs))

/-- THE HEAD: the law's promise, at the heap behind the top. F, the promise of the law's def, may use that base is part of the heap (so K.In base, base.Ns mainGlobals mg stand in Mod) -/
theorem law_call {P : Program} {w : World} {K : PySem.W.Frag} {mg mb : Str → Option Value} {CX : CXT} {k : Nat} {fa a : Addr} {fd : FuncData} {x : Str} {sp : Sp} {s₁ : Shared} {vs : List Value} {ns : List Int}
    (KX : K.In s₁.heap) (hns : s₁.heap.Ns mainGlobals mg) (hb : s₁.heap.Ns builtinsNs mb) (hbb : ∀ x : Str, x ≠ "__name__" → mb x = bootBuiltins x) (hlim : s₁.heap.NoLimit) (hg : s₁.gens = #[])
    (ha : s₁.heap.get? a = some { cls := .type "list", data := .seq vs.toArray }) (hi : IntsAre vs ns) (hl : ns.length ≤ sizeLine) (hr : Room k callerA)
    (F : ∀ base : Heap, K.In base → base.Ns mainGlobals mg → FnOk P w K mg base CX k fa fd [x] sp) (hbind : ∀ (s : Shared) (u : Value), BindsTo s fd ⟨[u], []⟩ [(x, u)])
    (hsp : ∀ H : Hp, Only H → SqL K H a (ns.map V.int) → sp [.ref a] H (fun v _ => v = .bl true) fun _ _ _ => False)
    (hCX : ∀ H e s', CX [] H s₁ (fun _ _ _ => False) e s' → False) :
    codeAny (model P w) callerA (.call (.ref fa) ⟨[.ref a], []⟩) (fun r s' => r = .ok (.ret (.bool true)) ∧ OldK s₁.heap s'.heap ∧ s'.os = s₁.os ∧ AllBare s'.gens) s₁ := by
  have rv := vals_ints hi
  have lenV := hi.length
  -- from an abstract heap in which nothing but the script may be tracked
  have core : ∀ H : Hp, Only H → SqL K H a (ns.map V.int) → HOk P w H s₁.heap → (∀ b, H b ≠ none → b = a) → (H a ≠ none → K.lookup a = none) →
      codeAny (model P w) callerA (.call (.ref fa) ⟨[.ref a], []⟩) (fun r s' => r = .ok (.ret (.bool true)) ∧ OldK s₁.heap s'.heap ∧ s'.os = s₁.os ∧ AllBare s'.gens) s₁ := by
    intro H hO hS hok hA hK
    have base_of : ∀ {b : Addr} {o : Obj}, s₁.heap.get? b = some o → H b = none → (hidT s₁.heap H).get? b = some o := fun e n => hidT_get e n
    have noA : ∀ {b : Addr} {o : Obj} {es : Array DictEntry} {ep : Nat}, s₁.heap.get? b = some o → o.data = .dict es ep → H b = none := fun {b o es ep} e d => by
      cases q : H b with
      | none => rfl
      | some u =>
        have e' : b = a := hA b (by rw [q]; simp)
        subst e'
        rw [ha] at e; cases e
        have d' : Data.seq vs.toArray _ = Data.dict es ep := d
        cases d'
    have nsK : ∀ {b : Addr} {m : Str → Option Value}, s₁.heap.Ns b m → (hidT s₁.heap H).Ns b m := fun {b m} ⟨o, es, ep, e, d, r⟩ => ⟨o, es, ep, base_of e (noA e d), d, r⟩
    have hKb : K.In (hidT s₁.heap H) := fun b o e => base_of (KX b o e) (by
      cases q : H b with
      | none => rfl
      | some u =>
        have e' : b = a := hA b (by rw [q]; simp)
        subst e'
        rw [hK (by rw [q]; simp)] at e; cases e)
    have hM : Mod K mg (hidT s₁.heap H) := ⟨hKb, nsK hns, ⟨mb, nsK hb, hbb⟩, let ⟨mc, h1, h2⟩ := hlim; ⟨mc, nsK h1, h2⟩⟩
    have e0 : Env0 P w K mg (hidT s₁.heap H) callerA [] s₁ H := ⟨rfl, hM, fun b o e => of_hidT e, Nat.le_of_eq (hidT_size _ _), trivial, fun b hb => absurd (show b ∈ ([] : List Addr) from hb) (by simp), hok, .of_eq hg⟩
    refine codeAny_mono ((F _ hKb (nsK hns)).run callerA [] s₁ H ⟨[.ref a], []⟩ [.ref a] [.ref a] _ _ hr e0 (hbind s₁ (.ref a)) (.cons rfl .nil) (hsp H hO hS)) fun r s' h => ?_
    cases r with
    | error e => exact (hCX H e s' h).elim
    | ok fl =>
      cases fl with
      | next => exact False.elim h
      | brk => exact False.elim h
      | cont => exact False.elim h
      | ret u =>
        obtain ⟨v, H', os, bare, un, hok', r', q⟩ := h
        have q' : v = .bl true := q
        subst q'
        obtain rfl : u = Value.bool true := r'
        refine ⟨rfl, OldK.of_keep fun b o e => ?_, os, bare⟩
        cases q : H b with
        | none => exact un.keep b o e q (by intro z; exact absurd (show b ∈ ([] : List Addr) from z) (by simp)) (by simp)
        | some u =>
          rcases hO b with z | ⟨ob, xs, z⟩
          · rw [q] at z; cases z
          · have z2 := un.frzs b ob _ z
            obtain ⟨e1, _⟩ := hok b _ z
            obtain ⟨e2, _⟩ := hok' b _ z2
            rw [e] at e1; cases e1
            exact e2
  cases hk : K.lookup a with
  | some o =>
    -- the script is one of the module's own objects
    have e := KX a o hk
    rw [ha] at e
    cases e
    refine core (fun _ => none) (fun _ => .inl rfl) (.inr ⟨_, vs.toArray, _, hk, rfl, rfl, rfl, by rw [List.size_toArray, lenV]; exact hl, by simpa using rv⟩) (fun b u z => by have z' : (none : Option HO) = some u := z; cases z') (fun b z => absurd rfl z) fun z => absurd rfl z
  | none =>
    refine core (fun b => if b = a then some (.frz { cls := .type "list", data := .seq vs.toArray } (.lst (ns.map V.int))) else none) (fun b => ?_) (.inl (.inr ⟨{ cls := .type "list", data := .seq vs.toArray }, if_pos rfl⟩)) (fun b u z => ?_) (fun b z => ?_) fun _ => hk
    · by_cases hb : b = a
      · exact .inr ⟨_, _, if_pos hb⟩
      · exact .inl (if_neg hb)
    · by_cases hb : b = a
      · have z' := (if_pos hb).symm.trans z
        cases z'
        subst hb
        exact ⟨ha, by rw [List.length_map]; exact hl, vs, _, rv, ha⟩
      · have z' := (if_neg hb).symm.trans z
        cases z'
    · by_cases hb : b = a
      · exact hb
      · exact absurd (if_neg hb) z
end L2

namespace L2
open PySem PySem.Spec PyProof.Rows

abbrev KOf {K : PySem.W.Frag} {h : Heap} (_ : K.In h) : PySem.W.Frag := K

/-- the goal that k_head leaves (case hc), from the law's promise. F gives the function object fd (K's own) once, then the promise over every base -/
theorem walk_of {l : PySem.W.OpenLaw} {n k : Nat} {q : Program} {loose : List Str} {XP : (Str → Option Value) → Heap → Prop} {YP : World → Heap → Prop} {d : DefRec} {K : Params → PySem.W.Frag} {CX : World → CXT} {sp : World → Sp} {x : Str}
    (hn : l.most = some n) (hn2 : n ≤ sizeLine) (hdf : d.params.defaults = []) (hr : Room k callerA)
    (hY : ∀ (w : World) (h : Heap), YP w h → (K w.params).In h)
    (F : ∀ (w : World) (mg : Str → Option Value) (fa : Addr) (h : Heap), (K w.params).In h → h.Ns mainGlobals mg → mg d.name = some (.ref fa) →
      ∃ fd : FuncData, (∀ (s : Shared) (u : Value), BindsTo s fd ⟨[u], []⟩ [(x, u)]) ∧
        ∀ base : Heap, (K w.params).In base → base.Ns mainGlobals mg → FnOk l.prog w (K w.params) mg base (CX w) k fa fd [x] (sp w))
    (hsp : ∀ (w : World) (H : Hp) (a : Addr) (ns : List Int), ns.length ≤ n → Only H → SqL (K w.params) H a (ns.map V.int) → sp w [.ref a] H (fun v _ => v = .bl true) fun _ _ _ => False)
    (hCX : ∀ (w : World) (H : Hp) (s : Shared) (e : Value) (s' : Shared), CX w [] H s (fun _ _ _ => False) e s' → False) :
    PySem.W.WalkO q loose XP YP l.row.toRowW d [] (fun f vs => PySem.call f vs) := by
  refine Att.attach_call hn hdf fun w s₀ s₁ mg mb fa o pm cd doc a vs ns G Y ho hd hcd hmg hobj hints hlen hg => ?_
  have KX := hY w _ Y
  obtain ⟨fd, hb, hF⟩ := F w mg fa _ KX G.T.g hmg
  exact law_call KX G.T.g G.T.b G.T.builtins G.T.nolimit hg hobj hints (Nat.le_trans hlen hn2) hr hF hb (fun H hO hS => hsp w H a ns hlen hO hS) fun H e s' => hCX w H s₁ e s'
end L2

/- THE LAST THEOREM (shape; LID, My.* are yours):
   My.Adr: a structure of the addresses that your layer names (classes, functions); My.Txt K t: a structure (Prop) of the equations over K;
   My.txt_mk : {K} {implicit addresses ..} (e1 : nsIn K mainGlobals "law" = some (some (.ref f))) (e2 : K.lookup f = some ⟨oc, od, .func (fnOf "law" "law" params body scope dV kV doc pm an cdv ct), sl⟩) (e3 : codeIn K cdv "law" = true) .. : ∃ t, My.Txt K t

(the tactic k_is has no namespace: write k_is) -/

/-! SHORT WORDS over the layer: a def of the text, its body, what a loop and a test want. -/
namespace L2
open PySem PySem.Spec PyProof.Rows

/-! ### the text by places -/
/-- the j-th statement of a class's body -/
def inClass (s : Stmt) (j : Nat) : Stmt := match s with
  | .ClassDef _ _ _ body _ _ _ _ _ _ _ => body.getD j (.Pass ⟨0, 0, 0, 0⟩)
  | _ => .Pass ⟨0, 0, 0, 0⟩
def defArgs (s : Stmt) : Arguments := match s with
  | .FunctionDef _ a _ _ _ _ _ _ _ _ => a
  | _ => { posonlyargs := [], args := [], vararg := none, kwonlyargs := [], kw_defaults := [], kwarg := none, defaults := [] }
def defBody (s : Stmt) : List Stmt := match s with
  | .FunctionDef _ _ b _ _ _ _ _ _ _ => b
  | _ => []
def defScope (s : Stmt) : Scope := match s with
  | .FunctionDef _ _ _ _ _ _ sc _ _ _ => sc
  | _ => { kind := .function, names := [], isGenerator := false, isCoroutine := false }

/-! ### no exception leaves a def -/
abbrev CX0 : CXT := fun _ _ _ _ _ _ => False
abbrev E0 : XK := fun _ _ _ => False
theorem pass0 {X : Cx} : Passes CX0 X E0 := fun _ _ _ _ _ _ _ h => h.elim

/-! ### a def (or method) of the text as it stands behind the top -/
structure Fun (K : PySem.W.Frag) (x qual : Str) (st : Stmt) (f : Addr) (fd : FuncData) : Prop where
  ex : ∃ (oc : Value) (od : Option Addr) (kV doc pm : Value) (an : Option Addr) (cdv ct : Value) (osl : Array (Option Value)),
    fd = PySem.W.fnOf x qual (defArgs st) (defBody st) (defScope st) .none kV doc pm an cdv ct ∧ K.lookup f = some ⟨oc, od, .func fd, osl⟩ ∧ PySem.W.codeIn K cdv qual = true
  kp : PySem.W.keepIn K (.ref f) = true
section
variable {P : Program} {w : World} {K : PySem.W.Frag} {mg : Str → Option Value} {base : Heap}
/-- THE RULE for a def: its body as a term of rules, and the reading of that term -/
theorem Fun.ok {x qual : Str} {st : Stmt} {f : Addr} {fd : FuncData} {N ps : List Str} {k : Nat} {sp : Sp} (F : Fun K x qual st f fd) (S : FnScope N ps (defScope st)) (len : ∀ vs H Q E, sp vs H Q E → vs.length = ps.length)
    (hbody : ∀ (cdv : Value) (A : Around) (outer : List Env) (s : Shared) (H : Hp) (vs : List V) (Q : VK) (E : XK), Room k (A.deeper (envOfC qual (defScope st) s.heap.objs.size f cdv)) → sp vs H Q E →
      ∃ t, PSs (cxOf CX0 P w K mg base N qual (defScope st) f cdv A outer s H E).nox (defBody st) t ∧ t { nx := fun _ H' => Q .non H', rt := Q } (start N vs) H) : FnOk P w K mg base CX0 (k + 1) f fd ps sp := by
  obtain ⟨oc, od, kV, doc, pm, an, cdv, ct, osl, rfl, lk, hcd⟩ := F.ex
  refine fn_of lk hcd S len fun A outer s H vs Q E hr hsp => ?_
  obtain ⟨t, h, q⟩ := hbody cdv A outer s H vs Q E hr hsp
  exact ⟨t, h.nox, q⟩
/-- how its arguments bind (no defaults): h is «fun _ _ _ _ _ _ us hl => match us, hl with | [_, _], _ => rfl», one _ a parameter -/
theorem Fun.binds {x qual : Str} {st : Stmt} {f : Addr} {fd : FuncData} {ps : List Str} (F : Fun K x qual st f fd)
    (h : ∀ (kV doc pm : Value) (an : Option Addr) (cdv ct : Value) (us : List Value), us.length = ps.length → bindArgs (PySem.W.fnOf x qual (defArgs st) (defBody st) (defScope st) .none kV doc pm an cdv ct) ⟨us, []⟩ = pure (ps.zip us)) : Binds K fd ps [] := by
  obtain ⟨oc, od, kV, doc, pm, an, cdv, ct, osl, rfl, lk, hcd⟩ := F.ex
  exact .all (h kV doc pm an cdv ct)
theorem fun_mk {x qual : Str} {st : Stmt} {f : Addr} {oc : Value} {od an : Option Addr} {osl : Array (Option Value)} {kV doc pm cdv ct : Value} (l : K.lookup f = some ⟨oc, od, .func (PySem.W.fnOf x qual (defArgs st) (defBody st) (defScope st) .none kV doc pm an cdv ct), osl⟩)
    (c : PySem.W.codeIn K cdv qual = true) (k : PySem.W.keepIn K (.ref f) = true) : Fun K x qual st f (PySem.W.fnOf x qual (defArgs st) (defBody st) (defScope st) .none kV doc pm an cdv ct) := ⟨⟨oc, od, kV, doc, pm, an, cdv, ct, osl, rfl, l, c⟩, k⟩
end
/-! ### expressions in short: the name that stands in the i-th slot -/
section
variable {X : Cx}
/-- len of a dict -/
theorem call_lenD : CallR X (.builtin "len") (fun xs H Q => ∃ a kvs, xs = [V.ref a] ∧ H a = some (.dK kvs) ∧ Q (.int kvs.length) H) := by
  intro pins s σ H xs us Q I r h
  obtain ⟨a, kvs, rfl, ha, q⟩ := h
  obtain ⟨u, rfl, ru⟩ := vals1 r
  cases ru
  exact d_len I (.inl ha) fun t s' I' => ⟨.int kvs.length, H, I', ⟨t, rfl⟩, q⟩
end

/-! ### tests -/
theorem ite2 {c A B : Prop} [Decidable c] (h1 : c → A) (h2 : ¬ c → B) : if c then A else B := by
  by_cases h : c
  · rw [if_pos h]
    exact h1 h
  · rw [if_neg h]
    exact h2 h
/-! ### heaps -/
/-- all that was tracked is as it was -/
def Same (H H' : Hp) : Prop := ∀ b o, H b = some o → H' b = some o
theorem Same.refl (H : Hp) : Same H H := fun _ _ h => h
theorem Same.trans {H H1 H2 : Hp} (a : Same H H1) (b : Same H1 H2) : Same H H2 := fun c o h => b c o (a c o h)
theorem Same.free {H H' : Hp} (e : Same H H') {l : Addr} (h : H' l = Option.none) : H l = Option.none := by
  cases q : H l with
  | none => rfl
  | some o =>
    rw [e l o q] at h
    cases h
theorem Same.seq {K : PySem.W.Frag} {H H' : Hp} {a : Addr} {xs : List V} (e : Same H H') (h : SqL K H a xs) : SqL K H' a xs := by
  rcases h with (h | ⟨o, h⟩) | h
  · exact .inl (.inl (e _ _ h))
  · exact .inl (.inr ⟨o, e _ _ h⟩)
  · exact .inr h

/-! ### a dict's pairs: keys that differ -/
section
variable {κ : Type} [DecidableEq κ]
end
end L2

section
set_option maxRecDepth 100000
set_option maxHeartbeats 4000000
set_option linter.all false
namespace L2
open PySem PySem.Spec PyProof.Rows

/-! ### a list comprehension: one clause, at most one test; its free names are cells of the def around it -/
structure CompSc (own fr : List Str) (sc osc : Scope) : Prop where
  kind : sc.kind = .function
  nocell : ∀ y ∈ sc.names, y.2 ≠ .cell
  free : ∀ y ∈ sc.names, y.2 = .free → y.1 ∈ fr
  locs : ∀ y ∈ sc.names, y.2 = .local → sc.names.lookup y.1 = some .local
  ownl : ∀ x ∈ own, sc.names.lookup x = some .local
  frl : ∀ x ∈ fr, sc.names.lookup x = some .free ∧ osc.names.lookup x = some .cell
  nd : (own ++ fr).Nodup

theorem lookup_relabel (c : Str → NameKind → Bool) (x : Str) : ∀ names : List (Str × NameKind),
    (names.map fun (p : Str × NameKind) => if c p.1 p.2 = true then (p.1, NameKind.cell) else (p.1, p.2)).lookup x = (names.lookup x).map fun k => if c x k = true then NameKind.cell else k
  | [] => rfl
  | (n, k) :: r => by
    have ih := lookup_relabel c x r
    by_cases hx : x = n
    · subst hx
      by_cases hc : c x k = true
      · simp [List.lookup_cons, hc]
      · simp [List.lookup_cons, hc]
    · have hb : (x == n) = false := by simpa using hx
      by_cases hc : c n k = true
      · simp only [List.map_cons, hc, if_true, List.lookup_cons, hb]; exact ih
      · simp only [List.map_cons, hc, if_false, List.lookup_cons, hb, Bool.false_eq_true]; exact ih

theorem relabel_lookup (sc : Scope) (env : Env) (x : Str) : (relabel sc env).names.lookup x = (sc.names.lookup x).map fun k =>
    if (k == NameKind.free && env.scope.kind == .function && env.kindOf x == some .cell) = true then NameKind.cell else k := by
  unfold relabel
  exact lookup_relabel (fun n k => (k == NameKind.free && env.scope.kind == .function && env.kindOf n == some .cell)) x sc.names

/-- the cells that the comprehension sees -/
def clGo (env : Env) : List (Str × NameKind) → List (Str × Addr) → List (Str × Addr)
  | [], acc => acc
  | (x, k) :: r, acc => clGo env r (if k == .free then (x, (env.cells.lookup x).getD 0) :: acc else acc)
theorem closureGo {env : Env} : ∀ (names : List (Str × NameKind)) (acc : List (Str × Addr)), (∀ y ∈ names, y.2 = .free → ∃ c, env.cells.lookup y.1 = some c) →
    (forIn names acc fun (p : Str × NameKind) cs => (if (p.2 == NameKind.free) = true then (do let a ← cellOf env p.1; pure (ForInStep.yield ((p.1, a) :: cs))) else pure (ForInStep.yield cs) : Sem (ForInStep (List (Str × Addr))))) = pure (clGo env names acc)
  | [], acc, _ => rfl
  | (x, k) :: r, acc, h => by
    have ih := fun acc => closureGo r acc fun y hy => h y (List.mem_cons_of_mem _ hy)
    rw [List.forIn_cons]
    by_cases hk : k = .free
    · subst hk
      obtain ⟨c, hc⟩ := h (x, .free) List.mem_cons_self rfl
      have e : cellOf env x = pure c := by unfold cellOf; rw [hc]
      simp only [beq_self_eq_true, if_true, e, pure_bind]
      rw [ih]
      simp [clGo, hc]
    · have hb : (k == NameKind.free) = false := by simpa using hk
      simp only [hb, Bool.false_eq_true, if_false, pure_bind]
      rw [ih]
      simp [clGo, hb]
theorem closureFor_go {sc : Scope} {env : Env} (h : ∀ y ∈ sc.names, y.2 = .free → ∃ c, env.cells.lookup y.1 = some c) : closureFor sc env = pure (clGo env sc.names []) := by
  have e := closureGo (env := env) sc.names [] h
  unfold closureFor
  simp only [bind_pure] at e ⊢
  refine Eq.trans ?_ e
  rfl
theorem clGo_mem {env : Env} : ∀ {names : List (Str × NameKind)} {acc : List (Str × Addr)} {x : Str} {c : Addr}, (clGo env names acc).lookup x = some c → acc.lookup x = some c ∨ ((∃ y ∈ names, y.1 = x ∧ y.2 = .free) ∧ c = (env.cells.lookup x).getD 0)
  | [], acc, x, c, h => .inl h
  | (n, k) :: r, acc, x, c, h => by
    have h : (clGo env r (if k == .free then (n, (env.cells.lookup n).getD 0) :: acc else acc)).lookup x = some c := h
    rcases clGo_mem h with h' | ⟨⟨y, hy, e1, e2⟩, e⟩
    · by_cases hk : k = .free
      · subst hk
        simp only [beq_self_eq_true, if_true, List.lookup_cons] at h'
        by_cases hx : x = n
        · subst hx
          simp at h'
          exact .inr ⟨⟨_, List.mem_cons_self, rfl, rfl⟩, h'.symm⟩
        · have hb : (x == n) = false := by simpa using hx
          rw [hb] at h'
          exact .inl h'
      · have hb : (k == NameKind.free) = false := by simpa using hk
        rw [hb] at h'
        exact .inl h'
    · exact .inr ⟨⟨y, List.mem_cons_of_mem _ hy, e1, e2⟩, e⟩
theorem clGo_has {env : Env} : ∀ {names : List (Str × NameKind)} {acc : List (Str × Addr)} {x : Str}, ((∃ c, acc.lookup x = some c) ∨ ∃ y ∈ names, y.1 = x ∧ y.2 = .free) → ∃ c, (clGo env names acc).lookup x = some c
  | [], acc, x, h => by
    rcases h with h | ⟨y, hy, _⟩
    · exact h
    · cases hy
  | (n, k) :: r, acc, x, h => by
    show ∃ c, (clGo env r (if k == .free then (n, (env.cells.lookup n).getD 0) :: acc else acc)).lookup x = some c
    refine clGo_has ?_
    by_cases hk : k = .free
    · subst hk
      simp only [beq_self_eq_true, if_true, List.lookup_cons]
      by_cases hx : x = n
      · subst hx
        exact .inl ⟨(env.cells.lookup x).getD 0, by simp⟩
      · have hb : (x == n) = false := by simpa using hx
        rw [hb]
        rcases h with h | ⟨y, hy, e1, e2⟩
        · exact .inl h
        · rcases List.mem_cons.mp hy with z | z
          · subst z; exact absurd e1.symm hx
          · exact .inr ⟨y, z, e1, e2⟩
    · have hb : (k == NameKind.free) = false := by simpa using hk
      rw [hb]
      rcases h with h | ⟨y, hy, e1, e2⟩
      · exact .inl h
      · rcases List.mem_cons.mp hy with z | z
        · subst z; exact absurd e2 hk
        · exact .inr ⟨y, z, e1, e2⟩

/-- the context of the comprehension's block -/
def cxComp (X : Cx) (own fr : List Str) (sc : Scope) (C : Addr) (s₀ : Shared) (H₀ : Hp) (ex : List Addr) : Cx :=
  { X with N := own ++ fr, s₀ := s₀, H₀ := H₀, env := compEnvC sc (clGo X.env sc.names []) C X.env, outer := X.stack, ex := ex, fn := fun _ => false, pn := [], xe := fun _ _ => False }
/-- the free names' values -/
def frv (js : List Nat) (σ : St) : St := js.map fun j => (σ[j]?).getD none

abbrev GX := V → Hp → (List V → Prop) → Prop
/-- one name; a tuple of n names -/
def gx1 : GX := fun x _ k => k [x]
def gxT (K : PySem.W.Frag) (n : Nat) : GX := fun x H k => ∃ a xs, x = .ref a ∧ SqT K H a xs ∧ xs.length = n ∧ k xs
/-- the reading of a comprehension -/
def tComp (wi : TI) (gx : GX) (tt : TT) (te : TE) (js : List Nat) : TE := fun σ H Q =>
  wi σ H fun J H1 => ∃ W : Nat → Nat → List V → Hp → Prop, (∃ m, W 0 m [] H1) ∧ ∀ i m ys H, W i m ys H →
    (J.stop i H ∧ ys.length ≤ sizeLine ∧ ∀ p, H p = none → Q (.ref p) (upd H p (.lst ys))) ∨
    (J.go i H ∧ ys.length < sizeLine ∧ ∀ x H', J.yld i H x H' → gx x H' fun vs => tt (vs.map some ++ frv js σ) H' fun b H2 =>
      if b = true then te (vs.map some ++ frv js σ) H2 fun y H3 => ∃ m', m' < m ∧ W (i + 1) m' (ys ++ [y]) H3 else ∃ m', m' < m ∧ W (i + 1) m' ys H2)
/-- the test: none, one -/
def PTs (X : Cx) (ifs : List Expr) (t : TT) : Prop :=
  ∀ (pins : List (Addr × Obj)) (s : Shared) (σ : St) (H : Hp) (Q : Bool → Hp → Prop), Inv X pins σ H s → t σ H Q →
    wpAny (model X.prog X.w) X.A (forIn ifs true fun c r => if r = true then do let ok ← isTrue c X.env (eval c X.env); pure (ForInStep.yield ok) else pure (ForInStep.yield r)) (TP X pins σ Q) X.xe s
def tYes : TT := fun _ H Q => Q true H
theorem pts_nil {X : Cx} : PTs X [] tYes := fun pins s σ H Q I h => wpAny_tests_nil ⟨H, I, h⟩
/-- the target's names are the first slots -/
def PGx (X : Cx) (n : Nat) (tg : Expr) (gx : GX) : Prop :=
  ∀ (pins : List (Addr × Obj)) (s : Shared) (σ fr : St) (H : Hp) (v : V) (u : Value) (Q : List V → Prop), Inv X pins (List.replicate n none ++ fr) H s → RelV v u → gx v H Q →
    wpAny (model X.prog X.w) X.A (assign tg X.env u) (fun _ s' => ∃ vs : List V, vs.length = n ∧ Inv X pins (vs.map some ++ fr) H s' ∧ Q vs) X.xe s
theorem pgx_name {X : Cx} {x : Str} {pos : Pos} (hN : X.N.Nodup) (hi : X.N[0]? = some x) (hx : Loc X.env.scope x) (hf : X.fn x = true ∨ X.env.scope.names.lookup x = some .local) : PGx X 1 (.Name x pos) gx1 := by
  intro pins s σ fr H v u Q I r h
  refine thn (pg_name (i := 0) hN hi hx hf pins s _ H v u (fun σ' H' => σ' = (List.replicate 1 none ++ fr).set 0 (some v) ∧ H' = H) I r ⟨rfl, rfl⟩) fun _ s' ⟨σ', H', I', e1, e2⟩ => ?_
  subst e1; subst e2
  exact ⟨[v], rfl, I', h⟩
end L2

end
section
set_option maxRecDepth 100000
set_option maxHeartbeats 4000000
set_option linter.all false
namespace L2
open PySem PySem.Spec PyProof.Rows

theorem frv_get {js : List Nat} {σ : St} {i : Nat} {v : V} (h : (frv js σ)[i]? = some (some v)) : ∃ j, js[i]? = some j ∧ σ[j]? = some (some v) := by
  unfold frv at h
  rw [List.getElem?_map] at h
  cases e : js[i]? with
  | none => rw [e] at h; cases h
  | some j =>
    rw [e] at h
    refine ⟨j, rfl, ?_⟩
    have h : (σ[j]?).getD none = some v := Option.some.inj h
    cases q : σ[j]? with
    | none => rw [q] at h; cases h
    | some o => rw [q] at h; rw [show o = some v from h]

theorem mem_of_look {α : Type} {x : Str} {k : α} : ∀ {l : List (Str × α)}, l.lookup x = some k → (x, k) ∈ l
  | [], h => by simp at h
  | (n, j) :: r, h => by
    by_cases hx : x = n
    · subst hx
      simp [List.lookup_cons] at h
      subst h
      exact List.mem_cons_self
    · have hb : (x == n) = false := by simpa using hx
      simp only [List.lookup_cons, hb] at h
      exact List.mem_cons_of_mem _ (mem_of_look h)
theorem addr_ne {a b : Nat} (h : a < b) : a ≠ b := Nat.ne_of_lt h
section
variable {X : Cx} {own fr : List Str} {sc : Scope} {js : List Nat} {tg iter elt : Expr} {ifs : List Expr} {pos : Pos} {wi : TI} {gx : GX} {tt : TT} {te : TE}

/-- the free names stand at the slots js of the def -/
def FrAt (X : Cx) (fr : List Str) (js : List Nat) : Prop := ∀ (i : Nat) x, fr[i]? = some x → ∃ j, js[i]? = some j ∧ X.N[j]? = some x

theorem comp_ok {pins : List (Addr × Obj)} {σ : St} {H : Hp} {s₂ s₃ : Shared} {it : Addr} {fp : List Addr} {tn : Nat → Heap → Prop} {J : It} (S : CompSc own fr sc X.env.scope) (I : Inv X pins σ H s₂)
    (T : Turn X.prog X.w X.K tg J fp it tn) (st : tn 0 s₂.heap) (hfp : ∀ b ∈ fp, FpOk X pins H b) (e3 : s₃ = { s₂ with heap := s₂.heap.push { cls := .type "list", dict := none, data := .seq ([] : List Value).toArray } }) :
    (cxComp X own fr sc s₃.heap.objs.size s₃ H (s₂.heap.objs.size :: fp)).Ok := by
  have I3 : Inv X pins σ H s₃ := by
    rw [e3]
    exact I.kept (t' := s₂.toks) fun b u e => Heap.get?_push_of_some _ e
  have hsz : s₃.heap.objs.size = s₂.heap.objs.size + 1 := by rw [e3]; exact Heap.size_push ..
  have hlook : ∀ x c, (clGo X.env sc.names []).lookup x = some c → x ∈ fr ∧ X.env.cells.lookup x = some c := fun x c e => by
    rcases clGo_mem e with e | ⟨⟨y, hy, e1, e2⟩, e⟩
    · simp at e
    · have hx : x ∈ fr := e1 ▸ S.free y hy e2
      obtain ⟨c', hc⟩ := I.ok.has x (.inl (S.frl x hx).2)
      rw [hc] at e
      exact ⟨hx, by rw [hc, e]; rfl⟩
  have frm : ∀ b ∈ frs X.stack, b < s₂.heap.objs.size := fun b hb => by
    rcases List.mem_cons.mp (I.stkSub b hb) with e | hb'
    · rw [e]; exact I.lt
    · obtain ⟨_, o, ho, _⟩ := I.ok.funs.mem hb'
      exact Nat.lt_of_lt_of_le (Heap.lt_size ho) I.sz
  have fpl : ∀ b ∈ fp, b < s₂.heap.objs.size := fun b hb => by
    obtain ⟨o, e, _⟩ := T.obj _ _ st b hb
    exact Heap.lt_size e
  have cl : ∀ x c, X.env.cells.lookup x = some c → c < s₂.heap.objs.size := fun x c e => by
    obtain ⟨v, o, ho, _⟩ := I.cell x c e
    exact Heap.lt_size ho
  refine { mod := I.ok.mod, kind := ?_, glob := I.ok.glob, blt := I.ok.blt, above := Nat.le_refl _, inj := ?_, has := ?_, cab := ?_, hd := I.ok.hd, frames := I.ok.frames, stk := .inl rfl, exf := ?_, bs := ?_, bsz := ?_, noex := ?_, exfs := ?_, funs := I3.stack, frf := I3.stkFree }
  · exact S.kind
  · exact fun x y c a b => I.ok.inj x y c (hlook x c a).2 (hlook y c b).2
  · intro x hx
    have hx : (relabel sc X.env).names.lookup x = some .cell ∨ (relabel sc X.env).names.lookup x = some .free := hx
    rw [relabel_lookup] at hx
    refine clGo_has (.inr ?_)
    cases e : sc.names.lookup x with
    | none => rw [e] at hx; simp at hx
    | some k =>
      have hm : (x, k) ∈ sc.names := mem_of_look e
      have hk : k = .free := by
        have nc : k ≠ .cell := S.nocell _ hm
        rw [e] at hx
        simp only [Option.map_some, Option.some.injEq] at hx
        cases k <;> simp_all
      exact ⟨(x, k), hm, rfl, hk⟩
  · exact fun _ _ z => nomatch z
  · intro b hb
    rcases List.mem_cons.mp hb with e | hb
    · subst e
      exact ⟨addr_ne (by show s₂.heap.objs.size < s₃.heap.objs.size; omega), fun x c e => addr_ne (cl x c (hlook x c e).2)⟩
    · have := fpl b hb
      exact ⟨addr_ne (show b < s₃.heap.objs.size from hsz ▸ Nat.lt_succ_of_lt this), fun x c e => (hfp b hb).2.2.2.2.1 x c (hlook x c e).2⟩
  · exact fun b o e => I3.bs b o e
  · show X.base.objs.size ≤ s₃.heap.objs.size
    exact Nat.le_trans I.ok.bsz I3.sz
  · intro b o e hb
    have hb0 : b < X.s₀.heap.objs.size := Heap.lt_size (I.ok.bs b o e).1
    rcases List.mem_cons.mp hb with z | hb
    · subst z
      exact absurd (Nat.lt_of_lt_of_le hb0 I.sz) (Nat.lt_irrefl _)
    · rcases (hfp b hb).2.2.2.1 with z | z
      · exact I.ok.noex b o e z
      · exact absurd (Nat.lt_of_lt_of_le hb0 z) (Nat.lt_irrefl _)
  · intro b hb hf
    have hf : b ∈ frs X.stack := hf
    rcases List.mem_cons.mp hb with z | hb
    · subst z
      exact absurd (frm _ hf) (Nat.lt_irrefl _)
    · rcases List.mem_cons.mp (I.stkSub b hf) with z | z
      · exact (hfp b hb).2.1 z
      · exact (hfp b hb).2.2.1 z

/-- the block at its entry -/
theorem comp_inv {pins : List (Addr × Obj)} {σ : St} {H : Hp} {s₃ s₄ : Shared} {ex : List Addr} {m : Str → Option Value} (S : CompSc own fr sc X.env.scope) (hfr : FrAt X fr js) (hjs : js.length = fr.length) (I3 : Inv X pins σ H s₃)
    (ok : (cxComp X own fr sc s₃.heap.objs.size s₃ H ex).Ok) (hos : s₄.os = s₃.os) (hb : s₄.gens = s₃.gens) (hk : ∀ b o, s₃.heap.get? b = some o → s₄.heap.get? b = some o) (hn : s₄.heap.Ns s₃.heap.objs.size m) :
    Inv (cxComp X own fr sc s₃.heap.objs.size s₃ H ex) [] (List.replicate own.length none ++ frv js σ) H s₄ := by
  have hlook : ∀ x c, (clGo X.env sc.names []).lookup x = some c → x ∈ fr ∧ X.env.cells.lookup x = some c := fun x c e => by
    rcases clGo_mem e with e | ⟨⟨y, hy, e1, e2⟩, e⟩
    · simp at e
    · have hx : x ∈ fr := e1 ▸ S.free y hy e2
      obtain ⟨c', hc⟩ := I3.ok.has x (.inl (S.frl x hx).2)
      rw [hc] at e
      exact ⟨hx, by rw [hc, e]; rfl⟩
  refine { ok := ok, os := hos, bare := by rw [hb]; exact I3.bare, base := Un.kept hk, loc := ⟨m, hn, ?_⟩, cell := ?_, free := I3.hok.fresh (Nat.le_refl _), freeC := fun x c e => I3.freeC x c (hlook x c e).2, pin := ?_, hok := I3.hok.kept hk, len := ?_ }
  · intro i x v e1 e2 e3
    have e1 : (own ++ fr)[i]? = some x := e1
    by_cases hi : i < own.length
    · rw [List.getElem?_append_left (by simpa using hi)] at e2
      rw [List.getElem?_replicate] at e2
      simp [hi] at e2
    · have hi' : own.length ≤ i := Nat.le_of_not_lt hi
      rw [List.getElem?_append_right (by simpa using hi')] at e2
      rw [List.getElem?_append_right hi'] at e1
      rw [List.length_replicate] at e2
      obtain ⟨j, hj, hv⟩ := frv_get e2
      obtain ⟨j', hj', hN⟩ := hfr _ x e1
      rw [hj] at hj'; cases hj'
      have hx : x ∈ fr := List.mem_of_getElem? e1
      obtain ⟨hf, hc⟩ := S.frl x hx
      obtain ⟨m0, hn0, hl⟩ := I3.loc
      obtain ⟨u, r, lk⟩ := hl j x v hN hv (.inr (.inl hc))
      refine ⟨u, r, .inr ⟨.inl ?_, ?_⟩⟩
      · show (relabel sc X.env).names.lookup x = some .cell
        rw [relabel_lookup, hf]
        have : X.env.kindOf x = some .cell := hc
        simp [this, I3.ok.kind]
      · rcases lk with ⟨k, _⟩ | ⟨_, c, ec, ⟨o, ho, hd⟩⟩
        · have k : X.env.scope.names.lookup x = some .local := k
          rw [hc] at k; cases k
        · have hm : (x, NameKind.free) ∈ sc.names := mem_of_look hf
          obtain ⟨c', hc'⟩ := clGo_has (env := X.env) (names := sc.names) (acc := []) (x := x) (.inr ⟨_, hm, rfl, rfl⟩)
          have := (hlook x c' hc').2
          rw [ec] at this; cases this
          exact ⟨c, hc', o, hk c o ho, hd⟩
  · intro x c e
    obtain ⟨v, o, ho, hd⟩ := I3.cell x c (hlook x c e).2
    exact ⟨v, o, hk c o ho, hd⟩
  · intro p hp
    have hp : p ∈ ([] : List (Addr × Obj)) ++ [] := hp
    simp at hp
  · show (List.replicate own.length none ++ frv js σ).length = (own ++ fr).length
    simp [frv, hjs]

theorem comp_weak {Y : Cx} {pins : List (Addr × Obj)} {H : Hp} {s : Shared} {vs : List V} {n : Nat} {f : St} (hl : vs.length = n) (I : Inv Y pins (vs.map some ++ f) H s) : Inv Y pins (List.replicate n none ++ f) H s := by
  refine I.weak (by simp [hl]) fun i v e => ?_
  by_cases hi : i < n
  · rw [List.getElem?_append_left (by simpa using hi), List.getElem?_replicate] at e
    simp [hi] at e
  · rw [List.getElem?_append_right (by simp; omega)] at e ⊢
    simpa [hl] using e

/-- a loop over any iterator: the target may be a tuple -/
theorem codeAny_compLoop_turn {prog : Program} {w : World} {A : Around} {R : Result → Shared → Prop} {s : Shared} {elt target iter : Expr} {ifs : List Expr} {scope : Scope} {pos : Pos} {it acc : Value} {env : Env} (I : Nat → Shared → Prop)
    (turn : ∀ n s, I n s → wpAny (model prog w) A (pyNext it) (fun r s₁ => match r with
      | none => R (.ok .next) s₁
      | some v => wpAny (model prog w) A (letOwnedTupleGo target it v) (fun _ s₁ => wpAny (model prog w) A (assign target env v) (fun _ s₂ =>
          wpAny (model prog w) A (forIn ifs true fun c r => if r = true then do let ok ← isTrue c env (eval c env); pure (ForInStep.yield ok) else pure (ForInStep.yield r)) (fun ok s₃ =>
            if ok = true then wpAny (model prog w) A (eval elt env) (fun x s₄ =>
              wpAny (model prog w) A (call (.builtin "list.append") [acc, x]) (fun _ s₅ => ∃ m, m < n ∧ I m s₅) (fun _ _ => False) s₄) (fun _ _ => False) s₃
            else ∃ m, m < n ∧ I m s₃) (fun _ _ => False) s₂) (fun _ _ => False) s₁) (fun _ _ => False) s₁) (fun _ _ => False) s)
    (n : Nat) (h : I n s) :
    codeAny (model prog w) A (.compLoop (.ListComp elt [⟨target, iter, ifs, 0⟩] scope pos) 0 it acc env) R s := by
  refine codeAny_loop rfl I (fun n s hI => ?_) n h
  show wpAny _ A ((compTurn (.ListComp elt [⟨target, iter, ifs, 0⟩] scope pos) 0 it acc env).onRaise (fun x => do noteFrame x env; theTreesLotGoes x)) _ _ s
  refine wpAny_noted ?_
  rw [compTurn_list]
  refine wpAny_bind (wpAny_standAt (wpAny_bind (wpAny_mono (turn n s hI) (fun r s₁ h₁ => ?_) fun _ _ h' => h'.elim)))
  cases r with
  | none => exact wpAny_pure h₁
  | some v =>
    refine wpAny_bind (wpAny_mono h₁ (fun _ s₁ h₁ => ?_) fun _ _ h' => h'.elim)
    refine wpAny_bind (wpAny_mono h₁ (fun _ s₂ h₂ => wpAny_bind (wpAny_mono h₂ (fun ok s₃ h₃ => ?_) fun _ _ h' => h'.elim)) fun _ _ h' => h'.elim)
    cases ok with
    | false => exact wpAny_pure ⟨rfl, h₃⟩
    | true =>
      exact wpAny_bind (wpAny_bind (wpAny_mono h₃ (fun x s₄ h₄ => wpAny_bind (wpAny_mono h₄ (fun _ s₅ h₅ => wpAny_pure (wpAny_pure ⟨rfl, h₅⟩)) fun _ _ h' => h'.elim)) fun _ _ h' => h'.elim))

/-- the block runs -/
theorem comp_run {pins : List (Addr × Obj)} {σ : St} {H : Hp} {s₂ : Shared} {it : Addr} {fp : List Addr} {tn : Nat → Heap → Prop} {J : It} {RR : Value → Addr → Result → Shared → Prop} {E : Value → Shared → Prop}
    (S : CompSc own fr sc X.env.scope) (hfr : FrAt X fr js) (hjs : js.length = fr.length) (hc : X.calm = true)
    (hg : ∀ C s₀ H₀ ex, PGx (cxComp X own fr sc C s₀ H₀ ex) own.length tg gx) (ht : ∀ C s₀ H₀ ex, PTs (cxComp X own fr sc C s₀ H₀ ex) ifs tt) (he : ∀ C s₀ H₀ ex, PE (cxComp X own fr sc C s₀ H₀ ex) elt te)
    (I : Inv X pins σ H s₂) (T : Turn X.prog X.w X.K tg J fp it tn) (st : tn 0 s₂.heap) (hfp : ∀ b ∈ fp, FpOk X pins H b)
    (W : Nat → Nat → List V → Hp → Prop) (w0 : ∃ m, W 0 m [] H) (Z : List V → Hp → Prop)
    (turn : ∀ i m ys H, W i m ys H → (J.stop i H ∧ Z ys H) ∨
      (J.go i H ∧ ys.length < sizeLine ∧ ∀ x H', J.yld i H x H' → gx x H' fun vs => tt (vs.map some ++ frv js σ) H' fun b H2 =>
        if b = true then te (vs.map some ++ frv js σ) H2 fun y H3 => ∃ m', m' < m ∧ W (i + 1) m' (ys ++ [y]) H3 else ∃ m', m' < m ∧ W (i + 1) m' ys H2))
    (hR : ∀ D C s' H' ys its n m, H' D = none → s'.heap.get? D = some { cls := .type "list", data := .seq its n } → Vals ys its.toList → Z ys H' → s'.heap.Ns C m → FpOk X pins H' D → FpOk X pins H' C → D ≠ C → Inv X pins σ H' s' → RR (.ref D) C (.ok .next) s') :
    wpAny (model X.prog X.w) X.A (newList []) (fun acc s₃ => wpAny (model X.prog X.w) X.A (newFunctionEnv sc X.env.globals (clGo X.env sc.names []) [] X.env.qual none .none (some X.env)) (fun cenv s₄ =>
      codeAny (model X.prog X.w) X.A (.compStart (.ListComp elt [⟨tg, iter, ifs, 0⟩] sc pos) 0 (.ref it) acc { cenv with scope := relabel sc X.env }) (RR acc cenv.locals) s₄) E s₃) E s₂ := by
  refine wpAny_newObj_type (wpAny_newFunctionEnv S.nocell (by intro y hy; simp at hy) (fun h₁ hns₁ hsb₁ => ?_) S.kind)
  dsimp only at hns₁ hsb₁ ⊢
  have ok := comp_ok (own := own) (fr := fr) (s₃ := { s₂ with heap := s₂.heap.push { cls := .type "list", dict := none, data := .seq ([] : List Value).toArray } }) S I T st hfp rfl
  have I3 : Inv X pins σ H { s₂ with heap := s₂.heap.push { cls := .type "list", dict := none, data := .seq ([] : List Value).toArray } } := I.kept (t' := s₂.toks) fun b u e => Heap.get?_push_of_some _ e
  have hD3 : ({ s₂ with heap := s₂.heap.push { cls := .type "list", dict := none, data := .seq ([] : List Value).toArray } } : Shared).heap.get? s₂.heap.objs.size = some { cls := .type "list", dict := none, data := .seq ([] : List Value).toArray } := Heap.get?_push_size _ rfl
  have hs3 : ({ s₂ with heap := s₂.heap.push { cls := .type "list", dict := none, data := .seq ([] : List Value).toArray } } : Shared).heap.objs.size = s₂.heap.objs.size + 1 := Heap.size_push ..
  generalize e3 : ({ s₂ with heap := s₂.heap.push { cls := .type "list", dict := none, data := .seq ([] : List Value).toArray } } : Shared) = s₃ at ok I3 hD3 hs3
  have eh : s₂.heap.push { cls := .type "list", dict := none, data := .seq ([] : List Value).toArray } = s₃.heap := by rw [← e3]
  rw [eh] at hns₁ hsb₁ ⊢
  have old : ∀ b o, s₃.heap.get? b = some o → h₁.get? b = some o := fun b o e => hsb₁.extBut b o (Nat.ne_of_lt (Heap.lt_size e)) (Heap.get?_push_of_some _ e)
  -- the block's context
  generalize hX' : cxComp X own fr sc s₃.heap.objs.size s₃ H (s₂.heap.objs.size :: fp) = Y at ok
  have Yg : PGx Y own.length tg gx := by rw [← hX']; exact hg _ _ _ _
  have Yt : PTs Y ifs tt := by rw [← hX']; exact ht _ _ _ _
  have Ye : PE Y elt te := by rw [← hX']; exact he _ _ _ _
  have Yp : Y.prog = X.prog := by rw [← hX']; rfl
  have Yw : Y.w = X.w := by rw [← hX']; rfl
  have YK : Y.K = X.K := by rw [← hX']; rfl
  have YA : Y.A = X.A := by rw [← hX']; rfl
  have Yc : Y.calm = true := by rw [← hX']; exact hc
  have Yenv : Y.env = compEnvC sc (clGo X.env sc.names []) s₃.heap.objs.size X.env := by rw [← hX']; rfl
  have Yex : Y.ex = s₂.heap.objs.size :: fp := by rw [← hX']; rfl
  have Yfs : Y.fs = frs X.stack := by rw [← hX']; rfl
  have Ypn : Y.pn = [] := by rw [← hX']; rfl
  have Yxe : Y.xe = fun _ _ => False := by rw [← hX']; rfl
  have Ys : Y.s₀ = s₃ := by rw [← hX']; rfl
  have YH : Y.H₀ = H := by rw [← hX']; rfl
  have hl : Y.env.locals = s₃.heap.objs.size := by rw [Yenv]; rfl
  -- records of the block
  have loose : ∀ {H' : Hp} b, b ∈ (s₂.heap.objs.size :: fp) → H' b = none → FpOk Y [] H' b := fun {H'} b hb hn => by
    refine ⟨hn, ?_, ?_, .inl (by rw [Yex]; exact hb), ?_, fun p hp => by rw [Ypn] at hp; exact nomatch hp⟩
    · exact (ok.exf b (by rw [Yex]; exact hb)).1
    · exact ok.exfs b (by rw [Yex]; exact hb)
    · exact (ok.exf b (by rw [Yex]; exact hb)).2
  have hDfp : s₂.heap.objs.size ∉ fp := fun z => by
    obtain ⟨o, e, _⟩ := T.obj _ _ st _ z
    exact Nat.lt_irrefl _ (Heap.lt_size e)
  have tn3 : tn 0 s₃.heap := T.keep _ _ _ st fun b hb o e => by rw [← eh]; exact Heap.get?_push_of_some _ e
  -- back to the def
  have back : ∀ {s' : Shared} {σ' : St} {H' : Hp}, Inv Y [] σ' H' s' → Inv X pins σ H' s' := fun {s' σ' H'} I' => by
    have u := I'.base
    rw [Yfs, Yex, YH, Ys] at u
    have ho : s'.os = s₃.os := by have := I'.os; rw [Ys] at this; exact this
    have hok := I'.hok
    rw [Yp, Yw] at hok
    refine I3.call' ho u hok I'.bare fun b hb => ?_
    rcases List.mem_cons.mp hb with z | z
    · subst z
      refine ⟨.inr I.sz, (addr_ne I.lt).symm, fun x c e => ?_, fun p hp => ?_⟩
      · obtain ⟨v, o, ho, _⟩ := I.cell x c e
        exact addr_ne (Heap.lt_size ho)
      · exact addr_ne (Heap.lt_size (I.pin p hp).1)
    · obtain ⟨_, f1, _, f3, f4, f5⟩ := hfp b z
      exact ⟨f3, f1, f4, f5⟩
  have loop : ∀ s₄ : Shared, s₄ = { s₃ with heap := h₁, toks := s₃.toks + ([] : List (Str × Value)).length } →
      codeAny (model X.prog X.w) X.A (.compLoop (.ListComp elt [⟨tg, iter, ifs, 0⟩] sc pos) 0 (.ref it) (.ref s₂.heap.objs.size) Y.env) (RR (.ref s₂.heap.objs.size) s₃.heap.objs.size) s₄ := by
    rintro s₄ e4
    have I4 : Inv Y [] (List.replicate own.length none ++ frv js σ) H s₄ := by
      rw [← hX']
      refine comp_inv S hfr hjs I3 (by rw [hX']; exact ok) (by rw [e4]) (by rw [e4]) (fun b o e => by rw [e4]; exact old b o e) (m := fun x => ([] : List (Str × Value)).reverse.lookup x) ?_
      rw [e4]; exact hns₁
    obtain ⟨m0, w0⟩ := w0
    refine codeAny_compLoop_turn (fun n s' => ∃ i H' ys its k, Inv Y [] (List.replicate own.length none ++ frv js σ) H' s' ∧ tn i s'.heap ∧ (∀ b ∈ (s₂.heap.objs.size :: fp), H' b = none) ∧
        s'.heap.get? s₂.heap.objs.size = some { cls := .type "list", data := .seq its k } ∧ Vals ys its.toList ∧ W i n ys H') ?_ m0
      ⟨0, H, [], #[], 0, I4, T.keep _ _ _ tn3 fun b hb o e => by rw [e4]; exact old b o e, fun b hb => ?_, ?_, .nil, w0⟩
    · rintro n s5 ⟨i, H5, ys, its, k, I5, st5, fr5, hD5, rv5, w5⟩
      have stat : ∀ {H' : Hp}, (∀ b ∈ (s₂.heap.objs.size :: fp), H' b = none) → ∀ b ∈ fp, FpOk Y [] H' b := fun hn b hb => loose b (List.mem_cons_of_mem _ hb) (hn b (List.mem_cons_of_mem _ hb))
      have statD : ∀ {H' : Hp}, (∀ b ∈ (s₂.heap.objs.size :: fp), H' b = none) → FpOk Y [] H' s₂.heap.objs.size := fun hn => loose _ List.mem_cons_self (hn _ List.mem_cons_self)
      rcases turn i n ys H5 w5 with ⟨stop, z⟩ | ⟨go, hlen, step⟩
      · -- the end
        have I5d := I5.pinned (fp := [s₂.heap.objs.size]) (fun b hb => by rw [List.mem_singleton.mp hb]; exact statD fr5) (fun b hb => by
          rw [List.mem_singleton.mp hb]
          exact ⟨_, hD5, fun v z => by cases z⟩)
        have hfp' : ∀ b ∈ fp, FpOk Y ([] ++ pinsAt [s₂.heap.objs.size] s5.heap) H5 b := fun b hb => by
          obtain ⟨a0, a1, a2, a3, a4, a5⟩ := stat fr5 b hb
          refine ⟨a0, a1, a2, a3, a4, fun p hp q => ?_⟩
          rw [Ypn] at hp
          have hp : p ∈ pinsAt [s₂.heap.objs.size] s5.heap := by simpa using hp
          have := List.mem_singleton.mp (of_pinsAt hp).1
          exact hDfp (by rw [← this, q]; exact hb)
        have dn := T.done Y Yp Yw YK Yc i _ s5 _ H5 (fun _ _ => False) I5d hfp' st5 stop
        rw [YA] at dn
        refine thn dn fun r s6 ⟨hr, I6⟩ => ?_
        subst hr
        have hD6 := (I6.pin (s₂.heap.objs.size, _) (List.mem_append_right _ (List.mem_append_right _ (mem_pinsAt List.mem_cons_self hD5)))).1
        have I6' := I6.unpinned
        have IX := back I6'
        obtain ⟨m6, hn6, _⟩ := I6'.loc
        rw [hl] at hn6
        refine hR s₂.heap.objs.size s₃.heap.objs.size s6 H5 ys its k m6 (fr5 _ List.mem_cons_self) hD6 rv5 z hn6 ?_ ?_ (addr_ne (by omega)) IX
        · exact I.fpOk (Nat.le_refl _) (fr5 _ List.mem_cons_self)
        · refine I.fpOk (by omega) ?_
          have := I6'.free
          rw [hl] at this; exact this
      · -- a turn
        have I5d := I5.pinned (fp := [s₂.heap.objs.size]) (fun b hb => by rw [List.mem_singleton.mp hb]; exact statD fr5) (fun b hb => by
          rw [List.mem_singleton.mp hb]
          exact ⟨_, hD5, fun v z => by cases z⟩)
        have hfp' : ∀ b ∈ fp, FpOk Y ([] ++ pinsAt [s₂.heap.objs.size] s5.heap) H5 b := fun b hb => by
          obtain ⟨a0, a1, a2, a3, a4, a5⟩ := stat fr5 b hb
          refine ⟨a0, a1, a2, a3, a4, fun p hp q => ?_⟩
          rw [Ypn] at hp
          have hp : p ∈ pinsAt [s₂.heap.objs.size] s5.heap := by simpa using hp
          have := List.mem_singleton.mp (of_pinsAt hp).1
          exact hDfp (by rw [← this, q]; exact hb)
        have itm := T.item Y Yp Yw YK Yc i _ s5 _ H5 (fun _ _ => False) I5d hfp' st5 go
        rw [YA] at itm
        refine thn itm fun r s6 ⟨u, hr, h6⟩ => ?_
        subst hr
        refine thn h6 fun _ s7 ⟨x, H7, I7, r7, y7, st7, fr7⟩ => ?_
        have hD7 := (I7.pin (s₂.heap.objs.size, _) (List.mem_append_right _ (List.mem_append_right _ (mem_pinsAt List.mem_cons_self hD5)))).1
        have fD7 := (I7.pin (s₂.heap.objs.size, _) (List.mem_append_right _ (List.mem_append_right _ (mem_pinsAt List.mem_cons_self hD5)))).2.1
        have all7 : ∀ b ∈ (s₂.heap.objs.size :: fp), H7 b = none := fun b hb => (List.mem_cons.mp hb).elim (fun z => by rw [z]; exact fD7) (fr7 b)
        have obj7 : ∀ b ∈ (s₂.heap.objs.size :: fp), ∃ o, s7.heap.get? b = some o ∧ ∀ v, o.data ≠ .cell v := fun b hb => (List.mem_cons.mp hb).elim (fun z => by rw [z]; exact ⟨_, hD7, fun v z => by cases z⟩) (T.obj _ _ st7 b)
        -- all records pinned through the turn
        have I7p := I7.unpinned.pinned (fp := s₂.heap.objs.size :: fp) (fun b hb => loose b hb (all7 b hb)) obj7
        have hY := Yg _ s7 (List.replicate own.length none ++ frv js σ) (frv js σ) H7 x u _ I7p r7 (step x H7 y7)
        rw [Yp, Yw, YA, Yxe] at hY
        refine thn hY fun _ s8 ⟨vs, hvs, I8, q8⟩ => ?_
        have hT := Yt _ s8 _ H7 _ I8 q8
        rw [Yp, Yw, YA, Yxe] at hT
        refine thn hT fun b s9 ⟨H9, I9, q9⟩ => ?_
        have keepT : ∀ {σ' : St} {H' : Hp} {s' : Shared}, Inv Y ([] ++ pinsAt (s₂.heap.objs.size :: fp) s7.heap) σ' H' s' → tn (i + 1) s'.heap ∧ (∀ b ∈ (s₂.heap.objs.size :: fp), H' b = none) ∧ s'.heap.get? s₂.heap.objs.size = some { cls := .type "list", data := .seq its k } := fun {σ' H' s'} I' => by
          have pn : ∀ b ∈ (s₂.heap.objs.size :: fp), ∀ o, s7.heap.get? b = some o → s'.heap.get? b = some o ∧ H' b = none := fun b hb o e =>
            let q := I'.pin (b, o) (List.mem_append_right _ (List.mem_append_right _ (mem_pinsAt hb e)))
            ⟨q.1, q.2.1⟩
          refine ⟨T.keep _ _ _ st7 fun b hb o e => (pn b (List.mem_cons_of_mem _ hb) o e).1, fun b hb => ?_, (pn _ List.mem_cons_self _ hD7).1⟩
          obtain ⟨o, e, _⟩ := obj7 b hb
          exact (pn b hb o e).2
        cases b with
        | false =>
          rw [if_neg Bool.false_ne_true] at q9
          show ∃ m, m < n ∧ _
          obtain ⟨m', hm, w9⟩ := q9
          obtain ⟨t9, a9, d9⟩ := keepT I9
          exact ⟨m', hm, i + 1, H9, ys, its, k, comp_weak hvs I9.unpinned, t9, a9, d9, rv5, w9⟩
        | true =>
          rw [if_pos rfl] at q9
          show wpAny _ _ _ _ _ _
          have hE := Ye _ s9 _ H9 _ I9 q9
          rw [Yp, Yw, YA, Yxe] at hE
          refine thn hE fun y sA ⟨v, HA, IA, rA, m', hm, wA⟩ => ?_
          obtain ⟨tA, aA, dA⟩ := keepT IA
          have hle : its.size ≤ sizeLine := by
            have := rv5.length
            have e1 : its.toList.length = its.size := by simp
            omega
          refine wpAny_list_append_plain (hsz := hle) ⟨k, dA⟩ fun hB ⟨kB, dB⟩ sb => ?_
          have IAu := comp_weak hvs IA.unpinned
          obtain ⟨f0, f1, f2, f3, f4, f5⟩ := statD aA
          have IB : Inv Y [] (List.replicate own.length none ++ frv js σ) HA { sA with heap := hB } := IAu.turned (t' := sA.toks) (it := s₂.heap.objs.size) (fun b o hb e => (sb.2 b hb).trans e) f0 f1 f3 f4 f5
          refine ⟨m', hm, i + 1, HA, ys ++ [v], its.push y, kB, IB, T.keep _ _ _ tA fun b hb o e => (sb.2 b (fun z => hDfp (z ▸ hb))).trans e, aA, dB, ?_, wA⟩
          have := Vals.append rv5 (Paired.cons rA Paired.nil)
          simpa using this
    · rcases List.mem_cons.mp hb with z | z
      · rw [z]; exact I.hok.fresh (Nat.le_refl _)
      · exact (hfp b z).1
    · rw [e4]
      exact old _ _ hD3
  have e5 : ({ s₃ with heap := h₁, toks := s₃.toks + ([] : List (Str × Value)).length } : Shared) = { s₂ with heap := h₁, toks := s₂.toks + ([] : List (Str × Value)).length } := by rw [← e3]
  rw [Yenv] at loop
  have L := loop _ rfl
  rw [e5] at L
  refine codeAny_compStart_list L ?_
  have tn4 : tn 0 ({ s₂ with heap := h₁, toks := s₂.toks + ([] : List (Str × Value)).length } : Shared).heap := T.keep _ _ _ tn3 fun b hb o e => old b o e
  exact T.self X.A 0 _ _ _ tn4 L
end
end L2
namespace L2
open PySem PySem.Spec PyProof.Rows
section
variable {X : Cx} {own fr : List Str} {sc : Scope} {js : List Nat} {tg iter elt : Expr} {ifs : List Expr} {pos : Pos} {wi : TI} {gx : GX} {tt : TT} {te : TE}
/-- a loose plain list becomes a tracked one -/
theorem Inv.track {pins : List (Addr × Obj)} {σ : St} {H : Hp} {s : Shared} {D : Addr} {ys : List V} {its : Array Value} {n : Nat} (I : Inv X pins σ H s) (f : FpOk X pins H D)
    (e : s.heap.get? D = some { cls := .type "list", data := .seq its n }) (r : Vals ys its.toList) (hz : ys.length ≤ sizeLine) : Inv X pins σ (upd H D (.lst ys)) s := by
  obtain ⟨f0, f1, f2, f3, f4, f5⟩ := f
  have ne : ∀ b o, H b = some o → b ≠ D := fun b o q => ne_of_none q f0
  refine I.step (h' := s.heap) (g' := s.gens) (t' := s.toks) (d' := s.drawn) (ch := [D]) (fun b hb => ?_) (fun b o _ _ _ e _ => e) (fun b o _ _ _ e _ => ⟨o.slots, e⟩) (fun b o hb e n => ?_) (fun b o _ e => ⟨o, e⟩) (fun b xs q => ?_) (fun b o u q => ?_) (fun b ps q => ?_) (fun m hm => hm) (fun b o q => ?_) I.bare
  · rw [List.mem_singleton.mp hb]; exact ⟨f3, f1, f4, f5⟩
  · rw [upd_ne (fun z => hb (by simp [z]))]; exact n
  · rw [upd_ne (ne _ _ q)]; exact q
  · rw [upd_ne (ne _ _ q)]; exact q
  · exact ⟨#[], by rw [upd_ne (ne _ _ q), q]; simp⟩
  · by_cases hb : b = D
    · subst hb
      rw [upd_same] at q; cases q
      exact ⟨hz, its.toList, n, r, by rw [e]⟩
    · rw [upd_ne hb] at q
      exact (I.hok b o q).stay (fun c v _ q => q) (fun c q => by rw [upd_ne (ne _ _ q)]; exact q) fun c xs q => by rw [upd_ne (ne _ _ q)]; exact q

theorem pe_comp (S : CompSc own fr sc X.env.scope) (hfr : FrAt X fr js) (hjs : js.length = fr.length) (hc : X.calm = true) (hi : PI X tg iter wi)
    (hg : ∀ C s₀ H₀ ex, PGx (cxComp X own fr sc C s₀ H₀ ex) own.length tg gx) (ht : ∀ C s₀ H₀ ex, PTs (cxComp X own fr sc C s₀ H₀ ex) ifs tt) (he : ∀ C s₀ H₀ ex, PE (cxComp X own fr sc C s₀ H₀ ex) elt te)
    (hs : ∀ x, foldedSetIterable iter X.env x = pure x := by intro _; rfl) : PE X (.ListComp elt [⟨tg, iter, ifs, 0⟩] sc pos) (tComp wi gx tt te js) := by
  intro pins s σ H Q I h
  rw [eval_ListComp]
  have hclos : closureFor sc X.env = pure (clGo X.env sc.names []) := closureFor_go fun y hy e => I.ok.has y.1 (.inl (S.frl _ (S.free y hy e)).2)
  refine wpAny_comprehension_free (use := none) rfl hs hclos S.kind S.locs (thn (hi pins s σ H _ I h) fun v s1 h1 => thn h1 fun itv s2 h2 => ?_)
  obtain ⟨it, fp, tn, J, H2, e, I2, T, st2, f2, W, w0, turn⟩ := h2
  subst e
  refine comp_run (Z := fun ys H' => ys.length ≤ sizeLine ∧ ∀ p, H' p = none → Q (.ref p) (upd H' p (.lst ys))) S hfr hjs hc hg ht he I2 T st2 f2 W w0 turn
    (RR := fun acc C => compPost (model X.prog X.w) X.A X.xe none (EP X pins σ Q) acc C) fun D C s' H' ys its n m hD gD rv z hn fD fC ne IX => ?_
  refine ⟨m, hn, fun h' hs' => ?_⟩
  obtain ⟨c0, c1, c2, c3, c4, c5⟩ := fC
  have I1 : Inv X pins σ H' { s' with heap := h' } := IX.turned (t' := s'.toks) (it := C) (fun b o hb e => (hs'.2 b hb).trans e) c0 c1 c3 c4 c5
  exact ⟨.ref D, upd H' D (.lst ys), I1.track fD ((hs'.2 D ne).trans gD) rv z.1, rfl, z.2 D hD⟩

/-- name = [.. for ..]: the store comes ahead of the variables' end -/
theorem ps_setC {i : Nat} {y : Str} {py spos : Pos} (hN : X.N.Nodup) (hi' : X.N[i]? = some y) (hy : Loc X.env.scope y)
    (hsw : swapsWith (.ListComp elt [⟨tg, iter, ifs, 0⟩] sc pos) (some (.Name y py)) spos.line X.env = pure true)
    (S : CompSc own fr sc X.env.scope) (hfr : FrAt X fr js) (hjs : js.length = fr.length) (hc : X.calm = true) (hi : PI X tg iter wi)
    (hg : ∀ C s₀ H₀ ex, PGx (cxComp X own fr sc C s₀ H₀ ex) own.length tg gx) (ht : ∀ C s₀ H₀ ex, PTs (cxComp X own fr sc C s₀ H₀ ex) ifs tt) (he : ∀ C s₀ H₀ ex, PE (cxComp X own fr sc C s₀ H₀ ex) elt te)
    (hs : ∀ x, foldedSetIterable iter X.env x = pure x := by intro _; rfl) (hf : X.fn y = true ∨ X.env.scope.names.lookup y = some .local := by first | exact .inl rfl | exact .inr rfl | assumption) :
    PS X (.Assign [.Name y py] (.ListComp elt [⟨tg, iter, ifs, 0⟩] sc pos) spos) (tAsg (tComp wi gx tt te js) (gName i)) := by
  intro pins s σ H D I h
  rw [exec_Assign_Name_used _ _ _ _ hsw]
  refine wpAny_bind (wpAny_standAt (wpAny_bind ?_))
  show wpAny _ _ (do let _ ← comprehension (.ListComp elt [⟨tg, iter, ifs, 0⟩] sc pos) sc X.env _ (newList []) false (eval iter X.env) (some (assign (.Name y py) X.env))) _ _ s
  have hclos : closureFor sc X.env = pure (clGo X.env sc.names []) := closureFor_go fun y hy e => I.ok.has y.1 (.inl (S.frl _ (S.free y hy e)).2)
  refine wpAny_bind (wpAny_mono (wpAny_comprehension_free (use := some (assign (.Name y py) X.env)) (Q := fun _ s' => SP X pins D .next s') rfl hs hclos S.kind S.locs
    (thn (hi pins s σ H _ I h) fun v s1 h1 => thn h1 fun itv s2 h2 => ?_)) (fun _ s' hq => wpAny_pure (wpAny_pure hq)) fun _ _ e => e)
  obtain ⟨it, fp, tn, J, H2, e, I2, T, st2, f2, W, w0, turn⟩ := h2
  subst e
  refine comp_run (Z := fun ys H' => ys.length ≤ sizeLine ∧ ∀ p, H' p = none → D.nx (σ.set i (some (.ref p))) (upd H' p (.lst ys))) S hfr hjs hc hg ht he I2 T st2 f2 W w0 turn
    (RR := fun acc C => compPost (model X.prog X.w) X.A X.xe (some (assign (.Name y py) X.env)) (fun _ s' => SP X pins D .next s') acc C) fun D' C s' H' ys its n m hD gD rv z hn fD fC ne IX => ?_
  have It := IX.track fD gD rv z.1
  have c0' : upd H' D' (.lst ys) C = none := by rw [upd_ne (Ne.symm ne)]; exact fC.1
  have fC' : FpOk X pins (upd H' D' (.lst ys)) C := ⟨c0', fC.2⟩
  obtain ⟨oC, es, ep, hoC, hdC, hr⟩ := id hn
  have Ip := It.pinned (fp := [C]) (fun b hb => by rw [List.mem_singleton.mp hb]; exact fC') (fun b hb => by
    rw [List.mem_singleton.mp hb]
    exact ⟨oC, hoC, fun v q => by rw [hdC] at q; cases q⟩)
  refine thn (pg_name (i := i) hN hi' hy hf _ s' σ _ (.ref D') (.ref D') (fun σ' H'' => σ' = σ.set i (some (.ref D')) ∧ H'' = upd H' D' (.lst ys)) Ip rfl ⟨rfl, rfl⟩) fun _ s5 ⟨σ5, H5, I5, e1, e2⟩ => ?_
  subst e1; subst e2
  have hC5 := (I5.pin (C, oC) (List.mem_append_right _ (List.mem_append_right _ (mem_pinsAt List.mem_cons_self hoC)))).1
  refine ⟨m, ⟨oC, es, ep, hC5, hdC, hr⟩, fun h' hs' => ?_⟩
  obtain ⟨c0, c1, c2, c3, c4, c5⟩ := fC'
  have I6 : Inv X pins (σ.set i (some (.ref D'))) (upd H' D' (.lst ys)) { s5 with heap := h' } := I5.unpinned.turned (t' := s5.toks) (it := C) (fun b o hb e => (hs'.2 b hb).trans e) c0 c1 c3 c4 c5
  exact ⟨_, _, I6, z.2 D' hD⟩

end
/-- the word of a comprehension over n items of any iterator -/
theorem comp_by {J : It} {n : Nat} {gx : GX} {tt : TT} {te : TE} {js : List Nat} {σ : St} {H : Hp} {Q : VK} (Pv : Nat → List V → Hp → Prop) (h0 : Pv 0 [] H) (hz : n ≤ sizeLine) (hl : ∀ i ys H, i ≤ n → Pv i ys H → ys.length ≤ i)
    (hgo : ∀ i ys H, i < n → Pv i ys H → J.go i H) (hst : ∀ ys H, Pv n ys H → J.stop n H)
    (hs : ∀ i ys H x H', i < n → Pv i ys H → J.yld i H x H' → gx x H' fun vs => tt (vs.map some ++ frv js σ) H' fun b H2 => if b = true then te (vs.map some ++ frv js σ) H2 fun y H3 => Pv (i + 1) (ys ++ [y]) H3 else Pv (i + 1) ys H2)
    (hd : ∀ ys H, Pv n ys H → ∀ p, H p = none → Q (.ref p) (upd H p (.lst ys))) :
    ∃ W : Nat → Nat → List V → Hp → Prop, (∃ m, W 0 m [] H) ∧ ∀ i m ys H, W i m ys H →
      (J.stop i H ∧ ys.length ≤ sizeLine ∧ ∀ p, H p = none → Q (.ref p) (upd H p (.lst ys))) ∨
      (J.go i H ∧ ys.length < sizeLine ∧ ∀ x H', J.yld i H x H' → gx x H' fun vs => tt (vs.map some ++ frv js σ) H' fun b H2 =>
        if b = true then te (vs.map some ++ frv js σ) H2 fun y H3 => ∃ m', m' < m ∧ W (i + 1) m' (ys ++ [y]) H3 else ∃ m', m' < m ∧ W (i + 1) m' ys H2) := by
  refine ⟨fun i m ys H => m = n - i ∧ i ≤ n ∧ Pv i ys H, ⟨n, by simp, Nat.zero_le _, h0⟩, ?_⟩
  rintro i m ys H ⟨rfl, hi, p⟩
  have hy := hl i ys H hi p
  by_cases hlt : i < n
  · refine .inr ⟨hgo i ys H hlt p, by omega, fun x H' y => ?_⟩
    have e : ∀ ys H, (∃ m', m' < n - i ∧ m' = n - (i + 1) ∧ i + 1 ≤ n ∧ Pv (i + 1) ys H) = Pv (i + 1) ys H := fun ys H => propext ⟨fun ⟨_, _, _, _, q⟩ => q, fun q => ⟨n - (i + 1), by omega, rfl, hlt, q⟩⟩
    simp only [e]
    exact hs i ys H x H' hlt p y
  · have e : i = n := by omega
    subst e
    exact .inl ⟨hst ys H p, by omega, hd ys H p⟩
end L2

end
section
set_option maxRecDepth 100000
set_option maxHeartbeats 4000000
set_option linter.all false
namespace L2
open PySem PySem.Spec PyProof.Rows

/-! ### the scope's facts, once for a def -/
structure ScX (X : Cx) : Prop where
  nd : X.N.Nodup
  loc : ∀ x ∈ X.N, Loc X.env.scope x
  nb : ∀ x ∈ X.N, (x == ("__debug__" : Str)) = false ∧ (x == ("__classdict__" : Str)) = false
theorem Loc.vis {sc : Scope} {x : Str} (h : Loc sc x) : Vis sc x := h.elim .inl fun z => .inr (.inl z)
/-- a name's value, by computation -/
def tV (i : Nat) : TE := fun σ H Q => match σ[i]? with
  | some (some v) => Q v H
  | _ => False
theorem tV_var {i : Nat} {σ : St} {H : Hp} {Q : VK} (h : tV i σ H Q) : tVar i σ H Q := by
  unfold tV at h
  split at h
  · rename_i v e; exact ⟨v, e, h⟩
  · exact h.elim
theorem PE.mono {X : Cx} {e : Expr} {t t' : TE} (h : PE X e t) (m : ∀ σ H Q, t' σ H Q → t σ H Q) : PE X e t' := fun pins s σ H Q I q => h pins s σ H Q I (m σ H Q q)
theorem PT.mono {X : Cx} {e : Expr} {t t' : TT} (h : PT X e t) (m : ∀ σ H Q, t' σ H Q → t σ H Q) : PT X e t' := fun pins s σ H Q I q => h pins s σ H Q I (m σ H Q q)
theorem nv {X : Cx} (S : ScX X) (i : Nat) {x : Str} {pos : Pos} (hN : X.N[i]? = some x := by rfl) : PE X (.Name x pos) (tV i) :=
  have m : x ∈ X.N := List.mem_of_getElem? hN
  (pe_var hN (S.loc x m).vis (S.nb x m).1 (S.nb x m).2).mono fun _ _ _ => tV_var

section
variable {X : Cx} {a b c : Expr} {ta tb tc : TE} {pos : Pos}
/-! ### arithmetic by computation -/
def rAdd2 : R2 := fun x y H Q => match x, y with
  | .int i, .int j => Q (.int (i + j)) H
  | .str i, .str j => i.length + j.length ≤ sizeLine ∧ Q (.str (i ++ j)) H
  | .ref l, .ref m => ∃ xs zs, H l = some (.lst xs) ∧ H m = some (.lst zs) ∧ xs.length + zs.length ≤ sizeLine ∧ ∀ p, H p = none → Q (.ref p) (upd H p (.lst (xs ++ zs)))
  | _, _ => False
theorem OpR.mono {f : Value → Value → Sem Value} {r r' : R2} (h : OpR X f r) (m : ∀ x y H Q, r' x y H Q → r x y H Q) : OpR X f r' := fun pins s σ H x y v u Q I rx ry q => h pins s σ H x y v u Q I rx ry (m x y H Q q)
theorem o_add : OpR X (binaryOp .Add) rAdd2 := (op_add.or (op_add_str.or op_cat)).mono fun x y H Q h => by
  match x, y, h with
  | .int i, .int j, h => exact .inl ⟨i, j, rfl, rfl, h⟩
  | .str i, .str j, h => exact .inr (.inl ⟨i, j, rfl, rfl, h.1, h.2⟩)
  | .ref l, .ref m, ⟨xs, zs, h1, h2, h3, h4⟩ => exact .inr (.inr ⟨l, m, xs, zs, rfl, rfl, h1, h2, h3, h4⟩)
def rInt2 (C : Int → Int → Prop) (g : Int → Int → V) : R2 := fun x y H Q => match x, y with
  | .int i, .int j => C i j ∧ Q (g i j) H
  | _, _ => False
def rInt0 (g : Int → Int → V) : R2 := fun x y H Q => match x, y with
  | .int i, .int j => Q (g i j) H
  | _, _ => False
theorem rInt2_rI {C : Int → Int → Prop} {g : Int → Int → V} {x y : V} {H : Hp} {Q : VK} (h : rInt2 C g x y H Q) : rI C g x y H Q := by
  match x, y, h with
  | .int i, .int j, h => exact ⟨i, j, rfl, rfl, h.1, h.2⟩
theorem rInt0_rI {g : Int → Int → V} {x y : V} {H : Hp} {Q : VK} (h : rInt0 g x y H Q) : rI0 g x y H Q := by
  match x, y, h with
  | .int i, .int j, h => exact ⟨i, j, rfl, rfl, h⟩
theorem o_sub : OpR X (binaryOp .Sub) (rInt0 fun i j => .int (i - j)) := op_sub.mono fun _ _ _ _ => rInt0_rI
/-- // by a positive divisor below 2^9000 -/
theorem op_fdivB : OpR X (binaryOp .FloorDiv) (rI (fun _ j => 0 < j ∧ j.natAbs.log2 < 9000) fun i j => .int (i / j)) := opI fun i j _ _ _ _ _ hc q => by
  have e : i / j = i.fdiv j := (Int.fdiv_eq_ediv_of_nonneg _ (Int.le_of_lt hc.1)).symm
  rw [e] at q
  exact floordiv_int (by omega) q (.inl (PyProof.noPylong_of_log2 hc.2))
theorem o_fdiv : OpR X (binaryOp .FloorDiv) (rInt2 (fun _ j => 0 < j ∧ j.natAbs.log2 < 9000) fun i j => .int (i / j)) := op_fdivB.mono fun _ _ _ _ => rInt2_rI
theorem o_mod : OpR X (binaryOp .Mod) (rInt2 (fun _ j => 0 < j) fun i j => .int (i % j)) := op_mod.mono fun _ _ _ _ => rInt2_rI
theorem o_shl : OpR X (binaryOp .LShift) (rInt2 CPow fun i j => .int (i * 2 ^ j.toNat)) := op_shl.mono fun _ _ _ _ => rInt2_rI
theorem o_shr : OpR X (binaryOp .RShift) (rInt2 (fun _ j => 0 ≤ j) fun i j => .int (i / 2 ^ j.toNat)) := op_shr.mono fun _ _ _ _ => rInt2_rI
theorem o_and : OpR X (binaryOp .BitAnd) (rInt0 fun i j => .int (Builtin.bitAnd i j)) := op_and.mono fun _ _ _ _ => rInt0_rI
theorem o_or : OpR X (binaryOp .BitOr) (rInt0 fun i j => .int (Builtin.bitOr i j)) := op_or.mono fun _ _ _ _ => rInt0_rI
theorem o_xor : OpR X (binaryOp .BitXor) (rInt0 fun i j => .int (Builtin.bitXor i j)) := op_xor.mono fun _ _ _ _ => rInt0_rI
def rMul2 : R2 := fun x y H Q => match x, y with
  | .int i, .int j => CMul i j ∧ Q (.int (i * j)) H
  | .ref l, .int k => ∃ xs, H l = some (.lst xs) ∧ (-(2 ^ 63) ≤ k ∧ k < 2 ^ 63 ∧ xs.length * k.toNat ≤ sizeLine) ∧ ∀ p, H p = none → Q (.ref p) (upd H p (.lst (List.replicate k.toNat xs).flatten))
  | _, _ => False
theorem o_mul : OpR X (binaryOp .Mult) rMul2 := (op_mul.or op_rep).mono fun x y H Q h => by
  match x, y, h with
  | .int i, .int j, h => exact .inl ⟨i, j, rfl, rfl, h.1, h.2⟩
  | .ref l, .int k, ⟨xs, h1, h2, h4⟩ => exact .inr ⟨l, k, xs, rfl, rfl, h1, h2.1, h2.2.1, h2.2.2, h4⟩
/-! ### comparisons by computation -/
theorem o_lt : OpR X (compareOp .Lt) (rInt0 fun i j => .bl (decide (i < j))) := op_lt.mono fun _ _ _ _ => rInt0_rI
theorem o_le : OpR X (compareOp .LtE) (rInt0 fun i j => .bl (decide (i ≤ j))) := op_le.mono fun _ _ _ _ => rInt0_rI
theorem o_gt : OpR X (compareOp .Gt) (rInt0 fun i j => .bl (decide (j < i))) := op_gt.mono fun _ _ _ _ => rInt0_rI
theorem o_is : OpR X (compareOp .Is) (fun x y H Q => y = .non ∧ Q (.bl (decide (x = .non))) H) := op_isN
theorem o_isnot : OpR X (compareOp .IsNot) (fun x y H Q => y = .non ∧ Q (.bl (!decide (x = .non))) H) := op_notN
/-- a bool's reading as a test -/
def isB (x : V) (H' : Hp) (Q : Bool → Hp → Prop) : Prop := match x with
  | .bl k => Q k H'
  | _ => False
def tTst (t : TE) : TT := fun σ H Q => t σ H fun x H' => isB x H' Q
theorem tTst_eq (t : TE) : tTst t = tTest t := by
  funext σ H Q
  unfold tTst tTest
  congr 1
  funext x H'
  refine propext ⟨fun q => ?_, fun ⟨k, e, q⟩ => by subst e; exact q⟩
  match x, q with
  | .bl k, q => exact ⟨k, rfl, q⟩
theorem pt_of {op : CmpOp} {r : R2} (ho : OpR X (compareOp op) r) (ha : PE X a ta) (hb : PE X b tb) (hm : behindInMarks op b = false := by first | exact nomark _ | rfl) : PT X (.Compare a [op] [b] pos) (tTst (tOp r ta tb)) := by
  rw [tTst_eq]
  exact pt_cmpR ho ha hb hm
theorem pe_of {op : CmpOp} {r : R2} (ho : OpR X (compareOp op) r) (ha : PE X a ta) (hb : PE X b tb) (hm : behindInMarks op b = false := by first | exact nomark _ | rfl) : PE X (.Compare a [op] [b] pos) (tOp r ta tb) := pe_cmpR ho ha hb hm
end
end L2

end
section
set_option maxRecDepth 100000
set_option maxHeartbeats 4000000
set_option linter.all false
namespace L2
open PySem PySem.Spec PyProof.Rows
section
variable {X : Cx} {a b c e : Expr} {es : List Expr} {ta tb tc te : TE} {pos p : Pos} {x : Str} {t : TA}
/-! ### stores -/
theorem pn (S : ScX X) (i : Nat) {x : Str} {pos : Pos} (hN : X.N[i]? = some x := by rfl) (hf : X.fn x = true := by rfl) : PG X (.Name x pos) (gName i) :=
  pg_name S.nd hN (S.loc x (List.mem_of_getElem? hN)) (.inl hf)
theorem ps_st (S : ScX X) (i : Nat) {x : Str} {e : Expr} {te : TE} {pos pos' : Pos} (he : PE X e te) (hN : X.N[i]? = some x := by rfl) (hf : X.fn x = true := by rfl) (hs : swapsWith e (some (.Name x pos')) pos.line X.env = pure false := by rfl) :
    PS X (.Assign [.Name x pos'] e pos) (tAsg te (gName i)) := ps_set S.nd hN (S.loc x (List.mem_of_getElem? hN)) he hs (.inl hf)
/-! ### truth by computation -/
def rTru (K : PySem.W.Frag) (x : V) (H : Hp) (Q : Bool → Hp → Prop) : Prop := match x with
  | .bl k => Q k H
  | .int i => Q (i != 0) H
  | .non => Q false H
  | x => ∃ k, TruV K x H k ∧ Q k H
def tTru (K : PySem.W.Frag) (t : TE) : TT := fun σ H Q => t σ H fun x H' => rTru K x H' Q
theorem tTru_eq (K : PySem.W.Frag) (t : TE) : tTru K t = (fun σ H Q => t σ H fun x H' => ∃ k, TruV K x H' k ∧ Q k H') := by
  funext σ H Q
  unfold tTru
  congr 1
  funext x H'
  unfold rTru
  cases x with
  | bl k => exact propext ⟨fun q => ⟨k, rfl, q⟩, fun ⟨k', e, q⟩ => by have e : k' = k := e; subst e; exact q⟩
  | int i => exact propext ⟨fun q => ⟨_, rfl, q⟩, fun ⟨k', e, q⟩ => by have e : k' = (i != 0) := e; subst e; exact q⟩
  | non => exact propext ⟨fun q => ⟨_, rfl, q⟩, fun ⟨k', e, q⟩ => by have e : k' = false := e; subst e; exact q⟩
  | _ => rfl
theorem pt_tr {K : PySem.W.Frag} (hK : X.K = K := by rfl) (ha : PE X a ta) (he : ∀ whole, isTrue a X.env whole = (do let v ← whole; standAt a.pos; holding [v] (truthy v)) := by intro _; rfl) : PT X a (tTru K ta) := by
  subst hK
  rw [tTru_eq]
  exact pt_truth ha he
/-! ### subscripts by computation -/
def rIx2 (K : PySem.W.Frag) : R2 := fun x y H Q => match x, y with
  | .ref p, .int i => ∃ xs v, (SqL K H p xs ∨ SqT K H p xs) ∧ atI xs i = some v ∧ Q v H
  | .str z, .int i => z.length ≤ sizeLine ∧ ∃ c, atI z.cps.toList i = some c ∧ Q (.str ⟨#[c]⟩) H
  | _, _ => False
theorem IxR.mono {r r' : R2} (h : IxR X r) (m : ∀ x y H Q, r' x y H Q → r x y H Q) : IxR X r' := fun value slice pins s σ H x y v u Q I rx ry q => h value slice pins s σ H x y v u Q I rx ry (m x y H Q q)
theorem o_ix {K : PySem.W.Frag} (hK : X.K = K := by rfl) : IxR X (rIx2 K) := ix_seq.mono fun x y H Q h => by
  subst hK
  match x, y, h with
  | .ref p, .int i, ⟨xs, v, hq, hv, q⟩ =>
    rcases hq with hq | hq
    · exact .inl ⟨p, xs, i, v, rfl, rfl, hq, hv, q⟩
    · exact .inr (.inl ⟨p, xs, i, v, rfl, rfl, hq, hv, q⟩)
  | .str z, .int i, ⟨hz, c, hc, q⟩ => exact .inr (.inr ⟨z, i, c, rfl, rfl, hz, hc, q⟩)
/-! ### equality by computation: scalars, flat lists -/
def flatN : V → Bool
  | .non => true
  | .int _ => true
  | .str _ => true
  | _ => false
/-! ### calls of the text's defs -/
structure Cal (P : Program) (w : World) (K : PySem.W.Frag) (mg : Str → Option Value) (base : Heap) (k : Nat) (x : Str) (ps : List Str) (sp : Sp) : Prop where
  ex : ∃ (f : Addr) (fd : FuncData), FnOk P w K mg base CX0 k f fd ps sp ∧ mg x = some (.ref f) ∧ PySem.W.keepIn K (.ref f) = true ∧ Binds K fd ps []
def tSp (sp : Sp) (t : TA) : TE := fun σ H Q => t σ H fun vs H1 => sp vs H1 Q E0
theorem tSp_eq (sp : Sp) (t : TA) : tSp sp t = tCall sp [] E0 t := by
  funext σ H Q
  unfold tSp tCall
  simp only [List.append_nil]
theorem c_call {k : Nat} {ps : List Str} {sp : Sp} (c : Cal X.prog X.w X.K X.mg X.base k x ps sp) (hr : Room k X.A) (hg : Gl X x) (ha : PA X (e :: es) t) (hdb : (x == ("__debug__" : Str)) = false := by decide)
    (he : starEach (e :: es) X.env = (false, eval e X.env) :: starEach es X.env := by rfl) (hpl : (backTo pos (starEach es X.env)).any (·.1) = false := by rfl) : PE X (.Call (.Name x p) (e :: es) [] pos) (tSp sp t) := by
  obtain ⟨f, fd, F, hm, hk, hb⟩ := c.ex
  rw [tSp_eq]
  exact pe_call F hr hg hm hk hb .nil pass0 ha hdb he hpl
/-- a class that is made -/
structure Mkr (P : Program) (w : World) (K : PySem.W.Frag) (mg : Str → Option Value) (base : Heap) (k : Nat) (x : Str) (C : Addr) (ps : List Str) (sp : Sp) : Prop where
  ex : ∃ (f : Addr) (fd : FuncData), Mk K C f ∧ FnOk P w K mg base CX0 k f fd ps sp ∧ Binds K fd ps []
  mg : mg x = some (.ref C)
def tMk (C : Addr) (sp : Sp) (t : TA) : TE := fun σ H Q => t σ H fun vs H1 => ∀ x dx, H1 x = none → H1 dx = none → dx ≠ x →
  sp (.ref x :: vs) (upd (upd H1 dx (.own x)) x (.ins C dx [])) (fun v H2 => v = .non ∧ Q (.ref x) H2) E0
theorem tMk_eq (C : Addr) (sp : Sp) (t : TA) : tMk C sp t = tMake C sp [] E0 t := by
  funext σ H Q
  unfold tMk tMake
  simp only [List.append_nil]
theorem c_make {k : Nat} {ps : List Str} {C : Addr} {sp : Sp} (c : Mkr X.prog X.w X.K X.mg X.base k x C ps sp) (hr : Room (k + 1) X.A) (hg : Gl X x) (ha : PA X (e :: es) t) (hdb : (x == ("__debug__" : Str)) = false := by decide)
    (he : starEach (e :: es) X.env = (false, eval e X.env) :: starEach es X.env := by rfl) (hpl : (backTo pos (starEach es X.env)).any (·.1) = false := by rfl) : PE X (.Call (.Name x p) (e :: es) [] pos) (tMk C sp t) := by
  obtain ⟨f, fd, M, F, hb⟩ := c.ex
  rw [tMk_eq]
  exact pe_make M F hr hg c.mg hb .nil pass0 ha hdb he hpl
theorem c_make0 {k : Nat} {ps : List Str} {C : Addr} {sp : Sp} (c : Mkr X.prog X.w X.K X.mg X.base k x C ps sp) (hr : Room (k + 1) X.A) (hg : Gl X x) (hdb : (x == ("__debug__" : Str)) = false := by decide) : PE X (.Call (.Name x p) [] [] pos) (tMk C sp tNil) := by
  obtain ⟨f, fd, M, F, hb⟩ := c.ex
  rw [tMk_eq]
  exact pe_make0 M F hr hg c.mg hb .nil pass0 hdb
/-! ### what a loop walks -/
/-- the signs of a text -/
def Its (z : Str) : It := ⟨fun i _ => i < z.cps.size, fun i H v H' => H' = H ∧ ∃ c, z.cps[i]? = some c ∧ v = .str ⟨#[c]⟩, fun i _ => i = z.cps.size⟩
theorem turn_str {P : Program} {w : World} {K : PySem.W.Frag} {tg : Expr} (z : Str) (tk : Tok) (it : Addr) (ty : String) (hty : ty = "str_ascii_iterator" ∨ ty = "str_iterator") : Turn P w K tg (Its z) [it] it (fun i h => h.IsStrIter it ty z tk i) where
  mem := by simp
  obj := fun i h st b hb => by
    have e : b = it := by simpa using hb
    subst e
    obtain ⟨o, e, c, d⟩ := st
    exact ⟨o, e, fun v z => by rw [d] at z; cases z⟩
  keep := fun i h h' st k => let ⟨o, ho, r⟩ := st; ⟨o, k it (by simp) o ho, r⟩
  item := by
    intro X hP hw hK hc i pins s σ H E I hf st hg
    subst hP hw hK
    obtain ⟨f0, f1, f2, f3, f4, f5⟩ := hf it (by simp)
    have W : Walks X.prog X.w X.A it [it] [it] z.cps.size (SignAt z) (fun i h => h.IsStrIter it ty z tk i) := by
      rcases hty with e | e
      · subst e; exact Walks.strAscii (I.ok.hd hc) it z tk
      · subst e; exact Walks.strWide (I.ok.hd hc) it z tk
    refine W.item i s _ _ hg st fun v h' tk' hv st' kk => ?_
    obtain ⟨c, t, hc', rfl⟩ := hv
    have I1 : Inv X pins σ H { s with heap := h', toks := tk' } := I.turned (fun b o hb e => kk b o (by simpa using hb) e) f0 f1 f3 f4 f5
    obtain ⟨o, e, cl, d⟩ := id st'
    refine ⟨_, rfl, go_of (s := { s with heap := h', toks := tk' }) e cl d (by rcases hty with e | e <;> subst e <;> decide) ⟨.str ⟨#[c]⟩, H, I1, ⟨t, rfl⟩, ⟨rfl, c, hc', rfl⟩, st', fun b hb => (hf b hb).1⟩⟩
  done := by
    intro X hP hw hK hc i pins s σ H E I hf st hg
    subst hP hw hK
    have hg : i = z.cps.size := hg
    subst hg
    obtain ⟨f0, f1, f2, f3, f4, f5⟩ := hf it (by simp)
    have W : Walks X.prog X.w X.A it [it] [it] z.cps.size (SignAt z) (fun i h => h.IsStrIter it ty z tk i) := by
      rcases hty with e | e
      · subst e; exact Walks.strAscii (I.ok.hd hc) it z tk
      · subst e; exact Walks.strWide (I.ok.hd hc) it z tk
    exact W.done s _ _ st fun h' tk' kk => ⟨rfl, I.turned (fun b o hb e => kk b o (by simpa using hb) e) f0 f1 f3 f4 f5⟩
  self := fun A i s Q E st h => by
    rcases hty with e | e
    · subst e; exact wpAny_pyIter_striter_ascii st h
    · subst e; exact wpAny_pyIter_striter_wide st h
/-- a list, a tuple, a text -/
def iVal (K : PySem.W.Frag) (te : TE) : TI := fun σ H R => te σ H fun x H1 => match x with
  | .ref a => ∃ xs, (SqL K H1 a xs ∧ R (Itl K a) H1) ∨ (SqT K H1 a xs ∧ R (Itt K a) H1)
  | .str z => R (Its z) H1
  | _ => False
theorem i_val {K : PySem.W.Frag} (hK : X.K = K := by rfl) {tg : Expr} (he : PE X e te) : PI X tg e (iVal K te) := by
  subst hK
  intro pins s σ H R I h
  have hor : PI X tg e (fun σ H R => te σ H fun x H1 => match x with
      | .ref a => ∃ xs, (SqL X.K H1 a xs ∧ R (Itl X.K a) H1) ∨ (SqT X.K H1 a xs ∧ R (Itt X.K a) H1)
      | .str z => R (Its z) H1
      | _ => False) := by
    intro pins s σ H R I h
    refine thn (he pins s σ H _ I h) fun v s1 ⟨x, H1, I1, r1, q1⟩ => ?_
    match x, r1, q1 with
    | .ref a, r1, ⟨xs, q⟩ =>
      cases r1
      rcases q with ⟨hq, q⟩ | ⟨hq, q⟩
      · obtain ⟨its, rv, pl, hz⟩ := I1.list hq
        refine wpAny_pyIter_list pl.isList ?_
        have I2 : Inv X pins σ H1 { s1 with heap := s1.heap.push { cls := .type "list_iterator", data := .fields #[.ref a, .int 0 0] } } := I1.kept (t' := s1.toks) fun b u e => Heap.get?_push_of_some _ e
        exact ⟨s1.heap.objs.size, [s1.heap.objs.size], _, Itl X.K a, H1, rfl, I2, turn_list a s1.heap.objs.size, ⟨_, Heap.get?_push_size _ rfl, rfl, rfl⟩, fun b hb => by
          rw [List.mem_singleton.mp hb]; exact I1.fpOk (Nat.le_refl _) (I1.hok.fresh (Nat.le_refl _)), q⟩
      · obtain ⟨its, rv, pl, hz⟩ := I1.tuple hq
        refine wpAny_pyIter_tuple pl ?_
        have I2 : Inv X pins σ H1 { s1 with heap := s1.heap.push { cls := .type "tuple_iterator", data := .fields #[.ref a, .int 0 0] } } := I1.kept (t' := s1.toks) fun b u e => Heap.get?_push_of_some _ e
        exact ⟨s1.heap.objs.size, [s1.heap.objs.size], _, Itt X.K a, H1, rfl, I2, turn_tuple a s1.heap.objs.size, ⟨_, Heap.get?_push_size _ rfl, rfl, rfl⟩, fun b hb => by
          rw [List.mem_singleton.mp hb]; exact I1.fpOk (Nat.le_refl _) (I1.hok.fresh (Nat.le_refl _)), q⟩
    | .str z, r1, q =>
      obtain ⟨tk, rfl⟩ := r1
      have fin : ∀ (o : Obj) (ty : String), (ty = "str_ascii_iterator" ∨ ty = "str_iterator") → o = { cls := .type ty, data := .fields #[.str z tk, .int 0 0] } → PIE X pins σ tg R (.ref s1.heap.objs.size) { s1 with heap := s1.heap.push o } := fun o ty hty ho => by
        have I2 : Inv X pins σ H1 { s1 with heap := s1.heap.push o } := I1.kept (t' := s1.toks) fun b u e => Heap.get?_push_of_some _ e
        exact ⟨s1.heap.objs.size, [s1.heap.objs.size], _, Its z, H1, rfl, I2, turn_str z tk s1.heap.objs.size ty hty, ⟨_, Heap.get?_push_size _ (by rw [ho]; rfl), by rw [ho], by rw [ho]; rfl⟩, fun b hb => by
          rw [List.mem_singleton.mp hb]; exact I1.fpOk (Nat.le_refl _) (I1.hok.fresh (Nat.le_refl _)), q⟩
      cases ha : z.cps.all (· < 128)
      · exact wpAny_pyIter_wide ha (fin _ "str_iterator" (.inr rfl) rfl)
      · exact wpAny_pyIter_ascii ha (fin _ "str_ascii_iterator" (.inl rfl) rfl)
  exact hor pins s σ H R I h
/-- range: by computation -/
def iRg1 (ta : TA) : TI := fun σ H R => ta σ H fun vs H1 => match vs with
  | [.int j] => (-(2 ^ 62) ≤ j ∧ j < 2 ^ 62) ∧ R (Itr 0 j.toNat) H1
  | _ => False
theorem iRg1_eq (ta : TA) : ∀ σ H R, iRg1 ta σ H R = iRng1 ta σ H R := by
  intro σ H R
  unfold iRg1 iRng1
  congr 1
  funext vs H1
  refine propext ⟨fun q => ?_, fun ⟨j, e, h1, h2, q⟩ => by subst e; exact ⟨⟨h1, h2⟩, q⟩⟩
  match vs, q with
  | [.int j], ⟨⟨h1, h2⟩, q⟩ => exact ⟨j, rfl, h1, h2, q⟩
theorem i_range1 {tg : Expr} (hg : Gl X "range") (hm : X.mg "range" = none) (ha : PA X [a] t) (hs : starEach [a] X.env = [(false, eval a X.env)] := by rfl) : PI X tg (.Call (.Name "range" p) [a] [] pos) (iRg1 t) := by
  intro pins s σ H R I h
  rw [iRg1_eq] at h
  exact pi_range1 hg hm ha hs pins s σ H R I h
end
/-- the word of a loop over n items of any iterator -/
theorem for_by {J : It} {n : Nat} {g : TG} {tb : TS} {D : Ends} {σ : St} {H : Hp} (Pv : Nat → St → Hp → Prop) (h0 : Pv 0 σ H) (hgo : ∀ i σ H, i < n → Pv i σ H → J.go i H) (hst : ∀ σ H, Pv n σ H → J.stop n H)
    (hs : ∀ i σ H x H', i < n → Pv i σ H → J.yld i H x H' → g x σ H' fun σ2 H2 => tb { D with nx := Pv (i + 1), ct := Pv (i + 1), bk := D.nx } σ2 H2) (hd : ∀ σ H, Pv n σ H → D.nx σ H) :
    ∃ W : Nat → Nat → St → Hp → Prop, (∃ m, W 0 m σ H) ∧ ∀ i m σ H, W i m σ H →
      (J.stop i H ∧ D.nx σ H) ∨ (J.go i H ∧ ∃ N : St → Hp → Prop, (∀ σ' H', N σ' H' → ∃ m', m' < m ∧ W (i + 1) m' σ' H') ∧ ∀ x H', J.yld i H x H' → g x σ H' fun σ2 H2 => tb { D with nx := N, ct := N, bk := D.nx } σ2 H2) := by
  refine ⟨fun i m σ H => m = n - i ∧ i ≤ n ∧ Pv i σ H, ⟨n, by simp, Nat.zero_le _, h0⟩, ?_⟩
  rintro i m σ H ⟨rfl, hi, p⟩
  by_cases hlt : i < n
  · exact .inr ⟨hgo i σ H hlt p, Pv (i + 1), fun σ' H' p' => ⟨n - (i + 1), by omega, rfl, hlt, p'⟩, fun x H' y => hs i σ H x H' hlt p y⟩
  · have e : i = n := by omega
    subst e
    exact .inl ⟨hst σ H p, hd σ H p⟩
end L2

end
section
set_option maxRecDepth 100000
set_option maxHeartbeats 4000000
set_option linter.all false
namespace L2
open PySem PySem.Spec PyProof.Rows
section
variable {X : Cx} {a b c e o : Expr} {es : List Expr} {ta tb tc te to : TE} {pos p apos cpos : Pos} {x : Str} {t : TA}
/-! ### built-in functions, by computation -/
theorem CallR.mono {f : Value} {r r' : List V → Hp → VK → Prop} (h : CallR X f r) (m : ∀ xs H Q, r' xs H Q → r xs H Q) : CallR X f r' := fun pins s σ H xs us Q I rx q => h pins s σ H xs us Q I rx (m xs H Q q)
def rAll : List V → Hp → VK → Prop := fun xs H Q => match xs with
  | [.ref l] => ∃ bs : List Bool, H l = some (.lst (bs.map V.bl)) ∧ Q (.bl (bs.all id)) H
  | _ => False
theorem rangeAll (bs : List Bool) : ((List.range bs.length).all fun i => (bs[i]?).getD true) = bs.all id := by
  rw [Bool.eq_iff_iff, List.all_eq_true, List.all_eq_true]
  constructor
  · intro h b hb
    obtain ⟨i, hi, e⟩ := List.mem_iff_getElem.mp hb
    have := h i (by simpa using hi)
    simpa [hi, e] using this
  · intro h i hi
    have hi : i < bs.length := by simpa using hi
    simpa [hi] using h bs[i] (List.getElem_mem hi)
theorem call_all (hc : X.calm = true) : CallR X (.builtin "all") rAll := by
  intro pins s σ H xs us Q I r h
  match xs, h with
  | [.ref l], ⟨bs, hl, q⟩ =>
    obtain ⟨u, rfl, ru⟩ := vals1 r
    cases ru
    obtain ⟨z, its, n, rv, hlen, e⟩ := I.lstM hl
    have hIs : s.heap.IsList l its.toArray := ⟨_, e, rfl, _, rfl⟩
    have hlt : l < s.heap.objs.size := Heap.lt_size e
    refine call_all_walk (wpAny_pyIter_list hIs ?_)
    refine ⟨s.heap.objs.size, [s.heap.objs.size, l], [s.heap.objs.size], its.toArray.size, _, _, fun i => (bs[i]?).getD true, rfl, Walks.list (A := X.A.in1) (I.ok.hd hc) _ l (Nat.ne_of_lt hlt) its.toArray,
      ⟨⟨_, Heap.get?_push_size _ rfl, rfl, rfl⟩, hIs.push _⟩, fun i v s' Q' E' hP hQ => ?_, fun h' tk hk => ?_⟩
    · have hP : its[i]? = some v := by simpa using hP
      have hi : i < its.length := (List.getElem?_eq_some_iff.mp hP).1
      have hib : i < bs.length := by rw [List.length_map] at hlen; omega
      obtain ⟨v', e', r'⟩ := Vals.get (i := i) (x := .bl bs[i]) rv (by simp [hib])
      rw [hP] at e'; cases e'
      have r' : v = Value.bool bs[i] := r'
      subst r'
      simp only [List.getElem?_eq_getElem hib, Option.getD_some] at hQ
      exact wpAny_truthy_bool hQ
    · have e2 : its.toArray.size = bs.length := by rw [List.length_map] at hlen; simpa using hlen.symm
      rw [e2, rangeAll]
      have hk' : ∀ b x, s.heap.get? b = some x → h'.get? b = some x := fun b x e => hk b x (fun hm => by rw [List.mem_singleton.mp hm] at e; exact Nat.lt_irrefl _ (Heap.lt_size e)) (Heap.get?_push_of_some _ e)
      exact ⟨.bl (bs.all id), H, I.kept hk', rfl, q⟩
/-- len -/
def rLen (K : PySem.W.Frag) : List V → Hp → VK → Prop := fun xs H Q => match xs with
  | [.str z] => z.length ≤ sizeLine ∧ Q (.int z.length) H
  | [.ref p] => (∃ ys, (SqL K H p ys ∨ SqT K H p ys) ∧ Q (.int ys.length) H) ∨ ∃ kvs, H p = some (.dK kvs) ∧ Q (.int kvs.length) H
  | _ => False
theorem call_len2 : CallR X (.builtin "len") (rLen X.K) := (call_len_str.or (call_len_seq.or call_lenD)).mono fun xs H Q h => by
  match xs, h with
  | [.str z], h => exact .inl ⟨z, rfl, h.1, h.2⟩
  | [.ref p], .inl ⟨ys, h1, h2⟩ => exact .inr (.inl ⟨p, ys, rfl, h1, h2⟩)
  | [.ref p], .inr ⟨kvs, h1, h2⟩ => exact .inr (.inr ⟨p, kvs, rfl, h1, h2⟩)
/-- str of an int -/
def rStr : List V → Hp → VK → Prop := fun xs H Q => match xs with
  | [.int i] => i.natAbs.log2 < 1920 ∧ Q (.str (toString i)) H
  | _ => False
theorem call_str2 : CallR X (.type "str") rStr := call_str_int.mono fun xs H Q h => by
  match xs, h with
  | [.int i], h => exact ⟨i, rfl, h.1, h.2⟩
/-- min of two ints -/
def rMin : List V → Hp → VK → Prop := fun xs H Q => match xs with
  | [.int i, .int j] => Q (.int (if j < i then j else i)) H
  | _ => False
theorem call_min' (hc : X.calm = true) : CallR X (.builtin "min") rMin := (call_min2 hc).mono fun xs H Q h => by
  match xs, h with
  | [.int i, .int j], h => exact ⟨i, j, rfl, h⟩
theorem k_all (hc : X.calm = true) (hg : Gl X "all") (hm : X.mg "all" = none) (ha : PA X (e :: es) t) (he : starEach (e :: es) X.env = (false, eval e X.env) :: starEach es X.env := by rfl) (hpl : (backTo pos (starEach es X.env)).any (·.1) = false := by rfl) :
    PE X (.Call (.Name "all" p) (e :: es) [] pos) (tCB rAll t) := pe_callB (call_all hc) hg hm boot_all ha (by decide) (by decide) he hpl
theorem k_len {K : PySem.W.Frag} (hK : X.K = K := by rfl) (hg : Gl X "len") (hm : X.mg "len" = none) (ha : PA X (e :: es) t) (he : starEach (e :: es) X.env = (false, eval e X.env) :: starEach es X.env := by rfl) (hpl : (backTo pos (starEach es X.env)).any (·.1) = false := by rfl) :
    PE X (.Call (.Name "len" p) (e :: es) [] pos) (tCB (rLen K) t) := by
  subst hK
  exact pe_callB call_len2 hg hm boot_len ha (by decide) (by decide) he hpl
theorem bb_str : bootBuiltins "str" = some (.type "str") := by decide +kernel
theorem bb_int : bootBuiltins "int" = some (.type "int") := by decide +kernel
theorem bb_min : bootBuiltins "min" = some (.builtin "min") := by decide +kernel
theorem bb_isinstance : bootBuiltins "isinstance" = some (.builtin "isinstance") := by decide +kernel
theorem k_str (hg : Gl X "str") (hm : X.mg "str" = none) (ha : PA X (e :: es) t) (he : starEach (e :: es) X.env = (false, eval e X.env) :: starEach es X.env := by rfl) (hpl : (backTo pos (starEach es X.env)).any (·.1) = false := by rfl) :
    PE X (.Call (.Name "str" p) (e :: es) [] pos) (tCB rStr t) := pe_callTy call_str2 hg hm bb_str ha (by decide) (by decide) he hpl
theorem k_min (hc : X.calm = true) (hg : Gl X "min") (hm : X.mg "min" = none) (ha : PA X (e :: es) t) (he : starEach (e :: es) X.env = (false, eval e X.env) :: starEach es X.env := by rfl) (hpl : (backTo pos (starEach es X.env)).any (·.1) = false := by rfl) :
    PE X (.Call (.Name "min" p) (e :: es) [] pos) (tCB rMin t) := pe_callB (call_min' hc) hg hm bb_min ha (by decide) (by decide) he hpl
/-- partition -/
def rPartition : V → List V → Hp → VK → Prop := fun x xs H Q => match x, xs with
  | .str z, [.str y] => ((y.length == 0) = false ∧ z.length ≤ sizeLine) ∧ ∀ p, H p = none → Q (.ref p) (upd H p (.tup [.str (Txt.partition z y).1, .str (Txt.partition z y).2.1, .str (Txt.partition z y).2.2]))
  | _, _ => False
end
end L2

end
section
set_option maxRecDepth 100000
set_option maxHeartbeats 4000000
set_option linter.all false
namespace L2
open PySem PySem.Spec PyProof.Rows
section
variable {X : Cx} {a b c e o : Expr} {es : List Expr} {ta tb tc te to : TE} {pos p apos cpos : Pos} {x m : Str} {t : TA}
/-! ### == and != by computation: scalars, lists of ints -/
def rEq2 (K : PySem.W.Frag) : R2 := fun x y H Q => match x, y with
  | .ref p, .ref q => ∃ ns ms : List Int, SqL K H p (ns.map V.int) ∧ SqL K H q (ms.map V.int) ∧ Q (.bl (decide (ns = ms))) H
  | x, y => scal x y = true ∧ Q (.bl (decide (x = y))) H
def rNe2 (K : PySem.W.Frag) : R2 := fun x y H Q => match x, y with
  | .ref p, .ref q => ∃ ns ms : List Int, SqL K H p (ns.map V.int) ∧ SqL K H q (ms.map V.int) ∧ Q (.bl (!decide (ns = ms))) H
  | x, y => scal x y = true ∧ Q (.bl (!decide (x = y))) H
theorem o_eq {K : PySem.W.Frag} (hK : X.K = K := by rfl) (hu : X.A.units + 64 < cLine) : OpR X (compareOp .Eq) (rEq2 K) := by
  subst hK
  intro pins s σ H x y v u Q I rx ry h
  by_cases hr : (∃ p, x = .ref p) ∧ ∃ q, y = .ref q
  · obtain ⟨⟨p, rfl⟩, q, rfl⟩ := hr
    obtain ⟨ns, ms, h1, h2, hq⟩ := h
    cases rx; cases ry
    obtain ⟨i1, r1, p1, z1⟩ := I.list h1
    obtain ⟨i2, r2, p2, z2⟩ := I.list h2
    exact PySem.W.ke_eq_ints (xs := i1) (ys := i2) p1.isList p2.isList (intsAre_of r1) (intsAre_of r2) hu ⟨.bl (decide (ns = ms)), H, I, rfl, hq⟩
  · have h' : rEq x y H Q := by
      unfold rEq2 at h
      split at h
      · rename_i p q; exact absurd ⟨⟨p, rfl⟩, q, rfl⟩ hr
      · exact h
    exact op_eq pins s σ H x y v u Q I rx ry h'
theorem o_ne {K : PySem.W.Frag} (hK : X.K = K := by rfl) (hu : X.A.units + 64 < cLine) : OpR X (compareOp .NotEq) (rNe2 K) := by
  subst hK
  intro pins s σ H x y v u Q I rx ry h
  by_cases hr : (∃ p, x = .ref p) ∧ ∃ q, y = .ref q
  · obtain ⟨⟨p, rfl⟩, q, rfl⟩ := hr
    obtain ⟨ns, ms, h1, h2, hq⟩ := h
    cases rx; cases ry
    obtain ⟨i1, r1, p1, z1⟩ := I.list h1
    obtain ⟨i2, r2, p2, z2⟩ := I.list h2
    exact PySem.W.ke_ne_ints (xs := i1) (ys := i2) p1.isList p2.isList (intsAre_of r1) (intsAre_of r2) hu ⟨.bl (!decide (ns = ms)), H, I, rfl, hq⟩
  · have h' : rNe x y H Q := by
      unfold rNe2 at h
      split at h
      · rename_i p q; exact absurd ⟨⟨p, rfl⟩, q, rfl⟩ hr
      · exact h
    exact op_ne pins s σ H x y v u Q I rx ry h'
/-- a sign in a text -/
def rIn2 (K : PySem.W.Frag) (neg : Bool) : R2 := fun x y H Q => match x, y with
  | .str y, .str z => ∃ c, y = ⟨#[c]⟩ ∧ Q (.bl (xor neg (decide (c ∈ z.cps.toList)))) H
  | x, .ref p => ∃ xs, (SqL K H p xs ∨ SqT K H p xs) ∧ flatV x = true ∧ xs.all flatV = true ∧ Q (.bl (if neg then !inV x xs else inV x xs)) H
  | _, _ => False
theorem o_in {K : PySem.W.Frag} (hK : X.K = K := by rfl) : OpR X (compareOp .In) (rIn2 K false) := (op_in_str.or op_in_seq).mono fun x y H Q h => by
  subst hK
  unfold rIn2 at h
  split at h
  · rename_i y z
    obtain ⟨c, rfl, h⟩ := h
    refine .inl ⟨_, z, rfl, rfl, ?_⟩
    rw [PySem.StrLaws.found_one]
    simpa using h
  · rename_i _ _ p
    obtain ⟨xs, h1, h2, h3, h4⟩ := h
    exact .inr ⟨p, xs, rfl, h1, h2, h3, h4⟩
  · exact h.elim
/-! ### int of an int, of a text -/
def rInt : List V → Hp → VK → Prop := fun xs H Q => match xs with
  | [.str z] => ∃ n, (PySem.intText? z = some n ∧ z.length ≤ 640) ∧ Q (.int n) H
  | _ => False
theorem call_int2 : CallR X (.type "int") rInt := by
  intro pins s σ H xs us Q I r h
  match xs, h with
  | [.str z], ⟨n, ⟨h1, h2⟩, q⟩ =>
    obtain ⟨u, rfl, ru⟩ := vals1 r
    obtain ⟨t, rfl⟩ := ru
    exact PySem.W.KIN.call_text h1 h2 ⟨.int n, H, I.tok _, ⟨_, rfl⟩, q⟩
theorem k_int (hg : Gl X "int") (hm : X.mg "int" = none) (ha : PA X (e :: es) t) (he : starEach (e :: es) X.env = (false, eval e X.env) :: starEach es X.env := by rfl) (hpl : (backTo pos (starEach es X.env)).any (·.1) = false := by rfl) :
    PE X (.Call (.Name "int" p) (e :: es) [] pos) (tCB rInt t) := pe_callTy call_int2 hg hm bb_int ha (by decide) (by decide) he hpl
/-! ### isinstance -/
def clsV : V → Value
  | .ref q => .ref q
  | .ty n => .type n
  | _ => .none
def rIsi (K : PySem.W.Frag) : List V → Hp → VK → Prop := fun xs H Q => match xs with
  | [x, .ref q] => ∃ t b, TyOf K H x t ∧ PySem.W.kitOne K t (.ref q) = some b ∧ Q (.bl b) H
  | [x, .ty n] => ∃ t b, TyOf K H x t ∧ PySem.W.kitOne K t (.type n) = some b ∧ Q (.bl b) H
  | _ => False
theorem call_isi : CallR X (.builtin "isinstance") (rIsi X.K) := by
  intro pins s σ H xs us Q I r h
  match xs, h with
  | [x, .ref q], ⟨t, b, h1, h2, hq⟩ =>
    obtain ⟨u, w', rfl, ru, rw'⟩ := vals2 r
    cases rw'
    exact isinst_ok I ru h1 h2 fun tk => ⟨.bl b, H, I.tok _, rfl, hq⟩
  | [x, .ty n], ⟨t, b, h1, h2, hq⟩ =>
    obtain ⟨u, w', rfl, ru, rw'⟩ := vals2 r
    cases rw'
    exact isinst_ok I ru h1 h2 fun tk => ⟨.bl b, H, I.tok _, rfl, hq⟩
theorem k_isinstance {K : PySem.W.Frag} (hK : X.K = K := by rfl) (hg : Gl X "isinstance") (hm : X.mg "isinstance" = none) (ha : PA X (e :: es) t) (he : starEach (e :: es) X.env = (false, eval e X.env) :: starEach es X.env := by rfl) (hpl : (backTo pos (starEach es X.env)).any (·.1) = false := by rfl) :
    PE X (.Call (.Name "isinstance" p) (e :: es) [] pos) (tCB (rIsi K) t) := by
  subst hK
  exact pe_callB call_isi hg hm bb_isinstance ha (by decide) (by decide) he hpl
/-- a built-in type as a value -/
theorem g_ty {n : String} (hg : Gl X x) (hm : X.mg x = none) (hv : bootBuiltins x = some (.type n)) (hn : x ≠ "__name__" := by decide) (hd : (x == ("__debug__" : Str)) = false := by decide) : PE X (.Name x pos) (tC (.ty n)) := pe_bltn hg hm hv rfl hn hd
theorem g_val {v : V} {u : Value} (hg : Gl X x) (hm : X.mg x = some u) (r : RelV v u) (hd : (x == ("__debug__" : Str)) = false := by decide) : PE X (.Name x pos) (tC v) := pe_glob hg hm r hd
/-! ### methods of own classes: the object tells its class -/
structure Mth (P : Program) (w : World) (K : PySem.W.Frag) (mg : Str → Option Value) (base : Heap) (k : Nat) (C : Addr) (m : Str) (sp : Sp) : Prop where
  ex : ∃ (f : Addr) (fd : FuncData) (ps : List Str), Meth K C m f ∧ FnOk P w K mg base CX0 k f fd ps sp ∧ Binds K fd ps []
  cl : Cls K C
def tMt (MS : Addr → Sp → Prop) (m : Str) (ta : TE) (t : TA) : TE := fun σ H Q => ta σ H fun x H1 => match x with
  | .ref q => ∃ C dx fs sp, H1 q = some (.ins C dx fs) ∧ fs.lookup m = none ∧ MS C sp ∧ t σ H1 fun vs H2 => sp (.ref q :: vs) H2 Q E0
  | _ => False
theorem m_call {pl : Sem Bool} (k : Nat) (hr : Room k X.A) {MS : Addr → Sp → Prop} (hMS : ∀ C sp, MS C sp → Mth X.prog X.w X.K X.mg X.base k C m sp) (he : PE X o ta) (ha : PA X (e :: es) t)
    (hst : starEach (e :: es) X.env = (false, eval e X.env) :: starEach es X.env := by rfl) (hpl : (backTo pos (starEach es X.env)).any (·.1) = false := by rfl)
    (ht : eval (.Call (.Attribute o m apos) (e :: es) [] pos) X.env = (do
      let ov ← eval o X.env
      standAt apos.atName
      let (f, first) ← holding [ov] (getMethod ov m pl)
      callWith pos f first (backTo pos (starEach (e :: es) X.env)) (backToKw pos (keywordEach [] X.env))) := by rfl) :
    PE X (.Call (.Attribute o m apos) (e :: es) [] pos) (tMt MS m ta t) := by
  intro pins s σ H Q I h
  refine PySem.W.methodCall_KW (pl := pl) (thn (he pins s σ H _ I h) fun u s1 ⟨x, H1, I1, rx, q⟩ => ?_) ht
  match x, rx, q with
  | .ref a, rx, ⟨C, dx, fs, sp, ea, l, M, q⟩ =>
    obtain rfl : u = Value.ref a := rx
    obtain ⟨⟨f, fd, ps, hm, F, hb⟩, Mcl⟩ := hMS C sp M
    refine getmeth_ok I1 ea Mcl hm l ?_
    refine PySem.W.callWith_K (first := [.ref a]) (h₀ := X.base) I.ok.mod.kin hm.kp (thn (ha pos pins s1 σ H1 _ I1 q) fun us s2 ⟨vs, H2, I2, r, q2⟩ => ⟨I2.kIn, ?_⟩) hst hpl
    exact run_fn (us := .ref a :: us) (vs := .ref a :: vs) F hr hb (.nil : Vals [] []) pass0 I2 (.cons rfl r) (by simpa using q2)
theorem m_call0 {pl : Sem Bool} (k : Nat) (hr : Room k X.A) {MS : Addr → Sp → Prop} (hMS : ∀ C sp, MS C sp → Mth X.prog X.w X.K X.mg X.base k C m sp) (he : PE X o ta)
    (ht : eval (.Call (.Attribute o m apos) [] [] pos) X.env = (do
      let ov ← eval o X.env
      standAt apos.atName
      let (f, first) ← holding [ov] (getMethod ov m pl)
      callWith pos f first (backTo pos (starEach [] X.env)) (backToKw pos (keywordEach [] X.env))) := by rfl) :
    PE X (.Call (.Attribute o m apos) [] [] pos) (tMt MS m ta tNil) := by
  intro pins s σ H Q I h
  refine PySem.W.methodCall_KW (pl := pl) (thn (he pins s σ H _ I h) fun u s1 ⟨x, H1, I1, rx, q⟩ => ?_) ht
  match x, rx, q with
  | .ref a, rx, ⟨C, dx, fs, sp, ea, l, M, q⟩ =>
    obtain rfl : u = Value.ref a := rx
    obtain ⟨⟨f, fd, ps, hm, F, hb⟩, Mcl⟩ := hMS C sp M
    refine getmeth_ok I1 ea Mcl hm l ?_
    exact PySem.W.callWith_K0 (first := [.ref a]) I1.kIn hm.kp (run_fn (us := [.ref a]) (vs := [.ref a]) F hr hb (.nil : Vals [] []) pass0 I1 (.cons rfl .nil) q)
/-! ### fields, slices -/
theorem pe_fd {f : Str} {K : PySem.W.Frag} (hK : X.K = K := by rfl) (he : PE X e ta) (hb : attributeBase e f X.env (eval e X.env) = eval e X.env := by rfl) : PE X (.Attribute e f pos) (tFld K ta f) := by
  subst hK
  exact pe_fld he hb
theorem ps_fd {f : Str} {value : Expr} {tv : TE} {pos' : Pos} {K : PySem.W.Frag} (hK : X.K = K := by rfl) (ha : PE X o ta) (hv : PE X value tv) (hs : swapsWith value (some (.Attribute o f pos')) pos.line X.env = pure false := by rfl) : PS X (.Assign [.Attribute o f pos'] value pos) (sFld K ta tv f) := by
  subst hK
  exact ps_fld ha hv hs
theorem o_sl {K : PySem.W.Frag} (hK : X.K = K := by rfl) : SlR X (rSlL K) := by
  subst hK
  exact sl_list
/-! ### Base.__init__(self, ..) -/
structure ClsFn (P : Program) (w : World) (K : PySem.W.Frag) (mg : Str → Option Value) (base : Heap) (k : Nat) (x m : Str) (ps : List Str) (sp : Sp) : Prop where
  ex : ∃ (C f : Addr) (fd : FuncData), mg x = some (.ref C) ∧ PySem.W.specialIn K (.ref C) "__getattribute__" = some (some (.builtin "type.__getattribute__")) ∧ PySem.W.readsIn K C (.type "type") = true ∧
    PySem.W.findCls K (.ref C) (.type "type") m = some (.val (.ref f)) ∧ PySem.W.handedIn (.ref f) = true ∧ PySem.W.keepIn K (.ref f) = true ∧ FnOk P w K mg base CX0 k f fd ps sp ∧ Binds K fd ps []
theorem b_call {pl : Sem Bool} {k : Nat} {ps : List Str} {sp : Sp} (c : ClsFn X.prog X.w X.K X.mg X.base k x m ps sp) (hr : Room k X.A) (hg : Gl X x) (ha : PA X (e :: es) t) (hdb : (x == ("__debug__" : Str)) = false := by decide)
    (hst : starEach (e :: es) X.env = (false, eval e X.env) :: starEach es X.env := by rfl) (hpl : (backTo pos (starEach es X.env)).any (·.1) = false := by rfl)
    (ht : eval (.Call (.Attribute (.Name x p) m apos) (e :: es) [] pos) X.env = (do
      let ov ← eval (.Name x p) X.env
      standAt apos.atName
      let (f, first) ← holding [ov] (getMethod ov m pl)
      callWith pos f first (backTo pos (starEach (e :: es) X.env)) (backToKw pos (keywordEach [] X.env))) := by rfl) :
    PE X (.Call (.Attribute (.Name x p) m apos) (e :: es) [] pos) (tSp sp t) := by
  intro pins s σ H Q I h
  obtain ⟨C, f, fd, hm, h1, h2, h3, h4, hk, F, hb⟩ := c.ex
  refine PySem.W.methodCall_KW (pl := pl) (ld_glob I hg hm ?_ hdb) ht
  refine PySem.W.method_cls I.kIn h1 (PySem.W.cls_value I.kIn h2 h3 h4 ?_)
  have I1 := I.tok (s.toks + 1)
  refine PySem.W.callWith_K (first := []) (h₀ := X.base) I.ok.mod.kin hk (thn (ha pos pins _ σ H _ I1 h) fun us s2 ⟨vs, H2, I2, r, q2⟩ => ⟨I2.kIn, ?_⟩) hst hpl
  exact run_fn F hr hb (.nil : Vals [] []) pass0 I2 r (by simpa using q2)
/-! ### partition -/
theorem mt_partition : MtR X "str.partition" rPartition := by
  intro pins s σ H x xs v us Q I rx rv h
  match x, xs, rx, rv, h with
  | .str z, [.str y], rx, rv, ⟨⟨hy, hz⟩, q⟩ =>
    obtain ⟨tz, rfl⟩ := rx
    obtain ⟨u, rfl, ru⟩ := rv.one
    obtain ⟨ty, rfl⟩ := ru
    refine call_meets F.slot_str_partition (typeIs_str _ _ _) F.entry_str_partition (F.args_str_partition_2 _ _) (meets_str_partition z y tz ty hy hz) ?_
    have hq := q s.heap.objs.size (I.hok.fresh (Nat.le_refl _))
    unfold Txt.partition at hq
    have lay : ∀ (p1 p2 p3 : Str) (t1 t2 t3 : Tok) (tk : Nat), Q (.ref s.heap.objs.size) (upd H s.heap.objs.size (.tup [.str p1, .str p2, .str p3])) →
        EP X pins σ Q (.ref s.heap.objs.size) { s with toks := tk, heap := s.heap.push { cls := .type "tuple", data := .seq [.str p1 t1, .str p2 t2, .str p3 t3].toArray } } := fun p1 p2 p3 t1 t2 t3 tk hq => by
      refine ⟨.ref s.heap.objs.size, _, I.laid (a := s.heap.objs.size) (o := .tup [.str p1, .str p2, .str p3]) (fun b u e => Heap.get?_push_of_some _ e) (Nat.le_refl _) ⟨by show 3 ≤ sizeLine; decide, [.str p1 t1, .str p2 t2, .str p3 t3], .cons ⟨t1, rfl⟩ (.cons ⟨t2, rfl⟩ (.cons ⟨t3, rfl⟩ .nil)), ?_⟩, rfl, hq⟩
      exact ⟨_, Heap.get?_push_size _ rfl, rfl, _, rfl⟩
    cases ho : Builtin.Str.occurrences z y 0 z.length 1 with
    | nil => rw [ho] at hq; exact lay _ _ _ _ _ _ _ hq
    | cons i r => rw [ho] at hq; exact lay _ _ _ _ _ _ _ hq
def bmS (r : V → List V → Hp → VK → Prop) (t : TA) (x : V) (σ : St) (H1 : Hp) (Q : VK) : Prop := match x with
  | .str z => t σ H1 fun xs H2 => r (.str z) xs H2 Q
  | _ => False
theorem e_bmSS (r : V → List V → Hp → VK → Prop) (t : TA) (z : Str) {σ : St} {H1 : Hp} {Q : VK} : bmS r t (.str z) σ H1 Q = t σ H1 fun xs H2 => r (.str z) xs H2 Q := rfl
def tBmS (r : V → List V → Hp → VK → Prop) (to : TE) (t : TA) : TE := fun σ H Q => to σ H fun x H1 => bmS r t x σ H1 Q
theorem tBmS_bm (K : PySem.W.Frag) (r : V → List V → Hp → VK → Prop) (to : TE) (t : TA) : tBmS r to t = fun σ H Q => to σ H fun x H1 => ((∃ z, x = .str z) ∧ tyV K "str" x H1) ∧ t σ H1 fun xs H2 => r x xs H2 Q := by
  funext σ H Q
  unfold tBmS
  congr 1
  funext x H1
  cases x <;> first | (refine propext ⟨fun q => ⟨⟨⟨_, rfl⟩, rfl⟩, q⟩, fun q => q.2⟩) | (refine propext ⟨fun q => q.elim, fun ⟨⟨⟨z, e⟩, _⟩, _⟩ => by cases e⟩)
theorem m_partition (ho : PE X o to) (ha : PA X (e :: es) t) (hbase : attributeBase o "partition" X.env (eval o X.env) = eval o X.env := by rfl)
    (hfew : ((backTo cpos (starEach (e :: es) X.env)).all (fun x => !x.1) && (backToKw cpos (keywordEach [] X.env)).all (fun x => x.1.isSome)
      && decide ((e :: es).length + ([] : List Keyword).length + (if ([] : List Keyword).isEmpty then 0 else 1) < 30)) = true := by rfl)
    (hline : (apos.endLine == cpos.line) = true := by rfl) (hs : starEach (e :: es) X.env = (false, eval e X.env) :: starEach es X.env := by rfl) (hplain : (backTo cpos (starEach es X.env)).any (·.1) = false := by rfl) :
    PE X (.Call (.Attribute o "partition" apos) (e :: es) [] cpos) (tBmS rPartition to t) := by
  intro pins s σ H Q I h
  rw [tBmS_bm X.K] at h
  exact pe_bm F.plainAttrs_str F.slot_str_partition F.type_str_partition mt_partition (to := fun σ H Q => to σ H fun x H1 => Q x H1) ho ha hbase hfew hline hs hplain pins s σ H Q I (by
    have e : (fun x H1 => ((∃ z, x = V.str z) ∧ tyV X.K "str" x H1) ∧ t σ H1 fun xs H2 => rPartition x xs H2 Q) = (fun x H1 => tyV X.K "str" x H1 ∧ t σ H1 fun xs H2 => rPartition x xs H2 Q) := by
      funext x H1
      refine propext ⟨fun q => ⟨q.1.2, q.2⟩, fun q => ⟨⟨?_, q.1⟩, q.2⟩⟩
      cases x with
      | str z => exact ⟨z, rfl⟩
      | int i => exact absurd q.1 (by show ¬ ("str" = "int"); decide)
      | ref p => exact absurd q.1 (by rintro (⟨z, _⟩ | ⟨z, _⟩ | ⟨z, _⟩ | ⟨z, _⟩) <;> exact absurd z (by decide))
      | _ => exact q.1.elim
    rw [e] at h
    exact h)
end
end L2

end
section
set_option maxRecDepth 100000
set_option maxHeartbeats 4000000
set_option linter.all false
namespace L2
open PySem PySem.Spec PyProof.Rows
/-! ### a def's names, decided once -/
structure FnSc (N ps gs : List Str) (sc : Scope) : Prop where
  S : FnScope N ps sc
  loc : ∀ x ∈ N, sc.names.lookup x = some .local ∨ sc.names.lookup x = some .cell
  nb : ∀ x ∈ N, (x == ("__debug__" : Str)) = false ∧ (x == ("__classdict__" : Str)) = false
  gl : ∀ x ∈ gs, sc.names.lookup x = some .globalImplicit
section
variable {N ps gs : List Str} {sc : Scope} {CX : CXT} {P : Program} {w : World} {K : PySem.W.Frag} {mg : Str → Option Value} {base : Heap} {qual : Str} {f : Addr} {cd : Value} {A : Around} {outer : List Env} {s : Shared} {H : Hp} {E : XK}
theorem FnSc.sx (S : FnSc N ps gs sc) : ScX (cxOf CX P w K mg base N qual sc f cd A outer s H E).nox := ⟨S.S.nd, S.loc, S.nb⟩
theorem FnSc.gx (S : FnSc N ps gs sc) (i : Nat) {x : Str} (h : gs[i]? = some x) : Gl (cxOf CX P w K mg base N qual sc f cd A outer s H E).nox x := S.gl x (List.mem_of_getElem? h)
end
section
variable {X : Cx} {own fr gs : List Str} {sc : Scope} {js : List Nat} {tg iter elt : Expr} {ifs : List Expr} {pos : Pos} {wi : TI} {gx : GX} {tt : TT} {te : TE} {C : Addr} {s₀ : Shared} {H₀ : Hp} {ex : List Addr}
theorem CompSc.own_l (S : CompSc own fr sc X.env.scope) {x : Str} (h : x ∈ own) : (cxComp X own fr sc C s₀ H₀ ex).env.scope.names.lookup x = some .local := by
  show (relabel sc X.env).names.lookup x = some .local
  rw [relabel_lookup, S.ownl x h]
  rfl
theorem CompSc.fr_c (S : CompSc own fr sc X.env.scope) (hk : X.env.scope.kind = .function) {x : Str} (h : x ∈ fr) : (cxComp X own fr sc C s₀ H₀ ex).env.scope.names.lookup x = some .cell := by
  show (relabel sc X.env).names.lookup x = some .cell
  have h2 : X.env.kindOf x = some .cell := (S.frl x h).2
  rw [relabel_lookup, (S.frl x h).1]
  simp [h2, hk]
theorem CompSc.sx (S : CompSc own fr sc X.env.scope) (hk : X.env.scope.kind = .function) (nb : ∀ x ∈ own ++ fr, (x == ("__debug__" : Str)) = false ∧ (x == ("__classdict__" : Str)) = false) : ScX (cxComp X own fr sc C s₀ H₀ ex) :=
  ⟨S.nd, fun x hx => (List.mem_append.mp hx).elim (fun h => .inl (S.own_l h)) (fun h => .inr (S.fr_c hk h)), nb⟩
theorem fr_at (h : js.map (fun j => X.N[j]?) = fr.map some) : FrAt X fr js ∧ js.length = fr.length := by
  have hl : js.length = fr.length := by
    have := congrArg List.length h
    simpa using this
  refine ⟨fun i x e => ?_, hl⟩
  have e2 : (js.map (fun j => X.N[j]?))[i]? = some (some x) := by
    rw [h, List.getElem?_map, e]; rfl
  rw [List.getElem?_map] at e2
  cases q : js[i]? with
  | none => rw [q] at e2; cases e2
  | some j => rw [q] at e2; exact ⟨j, rfl, Option.some.inj e2⟩
theorem pe_cp (S : CompSc own fr sc X.env.scope) (hfr : js.map (fun j => X.N[j]?) = fr.map some) (hc : X.calm = true) (hi : PI X tg iter wi)
    (hg : ∀ C s₀ H₀ ex, PGx (cxComp X own fr sc C s₀ H₀ ex) own.length tg gx) (ht : ∀ C s₀ H₀ ex, PTs (cxComp X own fr sc C s₀ H₀ ex) ifs tt) (he : ∀ C s₀ H₀ ex, PE (cxComp X own fr sc C s₀ H₀ ex) elt te)
    (hs : ∀ x, foldedSetIterable iter X.env x = pure x := by intro _; rfl) : PE X (.ListComp elt [⟨tg, iter, ifs, 0⟩] sc pos) (tComp wi gx tt te js) :=
  pe_comp S (fr_at hfr).1 (fr_at hfr).2 hc hi hg ht he hs
theorem ps_cp (SX : ScX X) (i : Nat) {y : Str} {py spos : Pos} (S : CompSc own fr sc X.env.scope) (hfr : js.map (fun j => X.N[j]?) = fr.map some) (hc : X.calm = true) (hi : PI X tg iter wi)
    (hg : ∀ C s₀ H₀ ex, PGx (cxComp X own fr sc C s₀ H₀ ex) own.length tg gx) (ht : ∀ C s₀ H₀ ex, PTs (cxComp X own fr sc C s₀ H₀ ex) ifs tt) (he : ∀ C s₀ H₀ ex, PE (cxComp X own fr sc C s₀ H₀ ex) elt te)
    (hN : X.N[i]? = some y := by rfl) (hf : X.fn y = true := by rfl) (hsw : swapsWith (.ListComp elt [⟨tg, iter, ifs, 0⟩] sc pos) (some (.Name y py)) spos.line X.env = pure true := by rfl)
    (hs : ∀ x, foldedSetIterable iter X.env x = pure x := by intro _; rfl) :
    PS X (.Assign [.Name y py] (.ListComp elt [⟨tg, iter, ifs, 0⟩] sc pos) spos) (tAsg (tComp wi gx tt te js) (gName i)) :=
  ps_setC SX.nd hN (SX.loc y (List.mem_of_getElem? hN)) hsw S (fr_at hfr).1 (fr_at hfr).2 hc hi hg ht he hs (.inl hf)
theorem pg1 {x : Str} (S : CompSc [x] fr sc X.env.scope) : ∀ C s₀ H₀ ex, PGx (cxComp X [x] fr sc C s₀ H₀ ex) 1 (.Name x pos) gx1 := fun C s₀ H₀ ex =>
  pgx_name S.nd rfl (.inl (S.own_l (by simp))) (.inr (S.own_l (by simp)))
end
end L2
namespace L2
open PySem
/-! ### places within a def's body -/
def kidE : Expr → Nat → Expr
  | .Call f as _ _, i => (f :: as).getD i f
  | .BinOp a _ b _, i => [a, b].getD i a
  | .Compare a _ bs _, i => (a :: bs).getD i a
  | .BoolOp _ vs _, i => vs.getD i (.Constant .none 0 ⟨0, 0, 0, 0⟩)
  | .UnaryOp _ a _, _ => a
  | .IfExp t a b _, i => [t, a, b].getD i a
  | .Subscript a b _, i => [a, b].getD i a
  | .Attribute a _ _, _ => a
  | .Tuple es _ _, i => es.getD i (.Constant .none 0 ⟨0, 0, 0, 0⟩)
  | .List es _, i => es.getD i (.Constant .none 0 ⟨0, 0, 0, 0⟩)
  | e, _ => e
def kidS : Stmt → Nat → Expr
  | .Return (some e) _, _ => e
  | .Expr e _, _ => e
  | .Assign ts e _, i => (e :: ts).getD i e
  | .AugAssign t _ e _, i => [e, t].getD i e
  | .If t _ _ _, _ => t
  | .While t _ _ _, _ => t
  | .For tg it _ _ _, i => [it, tg].getD i it
  | _, _ => .Constant .none 0 ⟨0, 0, 0, 0⟩
def kidSS : Stmt → Nat → Stmt
  | .If _ a b _, i => (a ++ b).getD i (.Pass ⟨0, 0, 0, 0⟩)
  | .While _ a _ _, i => a.getD i (.Pass ⟨0, 0, 0, 0⟩)
  | .For _ _ a _ _, i => a.getD i (.Pass ⟨0, 0, 0, 0⟩)
  | .Try a _ _ _ _, i => a.getD i (.Pass ⟨0, 0, 0, 0⟩)
  | s, _ => s
def scopeOf : Expr → Scope
  | .ListComp _ _ sc _ => sc
  | _ => { kind := .function, names := [], isGenerator := false, isCoroutine := false }
def bodyAt (s : Stmt) (i : Nat) : Stmt := (defBody s).getD i (.Pass ⟨0, 0, 0, 0⟩)
end L2
namespace L2
open PySem
/-- a comprehension's reading by a word -/
theorem tComp_by {wi : TI} {gx : GX} {tt : TT} {te : TE} {js : List Nat} {σ : St} {H H1 : Hp} {Q : VK} (J : It) (n : Nat) (hw : ∀ R : It → Hp → Prop, R J H1 → wi σ H R) (Pv : Nat → List V → Hp → Prop) (h0 : Pv 0 [] H1) (hz : n ≤ sizeLine)
    (hl : ∀ i ys H, i ≤ n → Pv i ys H → ys.length ≤ i) (hgo : ∀ i ys H, i < n → Pv i ys H → J.go i H) (hst : ∀ ys H, Pv n ys H → J.stop n H)
    (hs : ∀ i ys H x H', i < n → Pv i ys H → J.yld i H x H' → gx x H' fun vs => tt (vs.map some ++ frv js σ) H' fun b H2 => if b = true then te (vs.map some ++ frv js σ) H2 fun y H3 => Pv (i + 1) (ys ++ [y]) H3 else Pv (i + 1) ys H2)
    (hd : ∀ ys H, Pv n ys H → ∀ p, H p = none → Q (.ref p) (upd H p (.lst ys))) : tComp wi gx tt te js σ H Q :=
  hw _ (comp_by Pv h0 hz hl hgo hst hs hd)
/-- a loop's reading by a word -/
theorem tFor_by {wi : TI} {g : TG} {tb : TS} {D : Ends} {σ : St} {H H1 : Hp} (J : It) (n : Nat) (hw : ∀ R : It → Hp → Prop, R J H1 → wi σ H R) (Pv : Nat → St → Hp → Prop) (h0 : Pv 0 σ H1)
    (hgo : ∀ i σ H, i < n → Pv i σ H → J.go i H) (hst : ∀ σ H, Pv n σ H → J.stop n H)
    (hs : ∀ i σ H x H', i < n → Pv i σ H → J.yld i H x H' → g x σ H' fun σ2 H2 => tb { D with nx := Pv (i + 1), ct := Pv (i + 1), bk := D.nx } σ2 H2) (hd : ∀ σ H, Pv n σ H → D.nx σ H) : tFor wi g tb D σ H :=
  hw _ (for_by Pv h0 hgo hst hs hd)
end L2
namespace L2
open PySem PySem.Spec PyProof.Rows
/-! ### displays of constants -/
def litV : Expr → Option V
  | .Constant (.int i) _ _ => some (.int i)
  | .Constant (.str x) _ _ => some (.str x)
  | _ => none
def litVs : List Expr → Option (List V)
  | [] => some []
  | e :: es => match litV e, litVs es with
    | some v, some vs => some (v :: vs)
    | _, _ => none
def tLits (vs : List V) : TA := fun _ H Q => Q vs H
theorem pa_lits {X : Cx} : ∀ {es : List Expr} {vs : List V}, litVs es = some vs → PA X es (tLits vs)
  | [], vs, h => by
    cases h
    exact fun pos pins s σ H Q I q => pa_nil pos pins s σ H Q I q
  | e :: es, vs, h => by
    unfold litVs at h
    split at h
    · rename_i v vs' hv hvs
      cases h
      have ih := pa_lits (X := X) hvs
      have hs : starEach (e :: es) X.env = (false, eval e X.env) :: starEach es X.env := by
        cases e <;> first | rfl | (simp [litV] at hv)
      have he : PE X e (tC v) := by
        unfold litV at hv
        split at hv
        · cases hv; exact pe_int
        · cases hv; exact pe_str
        · cases hv
      exact fun pos pins s σ H Q I q => pa_cons he ih hs pos pins s σ H Q I q
    · cases h
end L2
namespace L2
open PySem PySem.Spec PyProof.Rows
def litT : Expr → Option (List V)
  | .Tuple es _ _ => litVs es
  | _ => none
theorem pe_litT {X : Cx} {e : Expr} {vs : List V} (h : litT e = some vs) : PE X e (tTup (tLits vs)) := by
  cases e <;> first | exact pe_tup (pa_lits h) | cases h
end L2
namespace L2
open PySem
theorem pe_id {X : Cx} {e : Expr} {t : TE} (h : PE X e t) : PE X e t := h
end L2

end
section
set_option maxRecDepth 100000
set_option maxHeartbeats 4000000
set_option linter.all false
namespace L2
open PySem
/-! ### readings by equations -/
section
variable {t u : TS} {D : Ends} {σ : St} {H : Hp} {Q : VK} {QB : Bool → Hp → Prop} {K : PySem.W.Frag} {te ta tb : TE} {i j n : Int} {k l : Bool} {x y : Str} {a b : Addr} {v : V}
theorem e_tst (te : TE) (QB : Bool → Hp → Prop) : tTst te σ H QB = te σ H fun x H' => isB x H' QB := rfl
theorem e_isB : isB (.bl k) H QB = QB k H := rfl
theorem e_tru (te : TE) : tTru K te σ H QB = te σ H fun x H' => rTru K x H' QB := rfl
theorem e_truB : rTru K (.bl k) H QB = QB k H := rfl
theorem e_truI : rTru K (.int i) H QB = QB (i != 0) H := rfl
theorem e_truN : rTru K .non H QB = QB false H := rfl
theorem e_eqI : rEq2 K (.int i) (.int j) H Q = Q (.bl (decide (i = j))) H := by
  show (scal (.int i) (.int j) = true ∧ Q (.bl (decide (V.int i = V.int j))) H) = _
  rw [show decide (V.int i = V.int j) = decide (i = j) from by simp]
  exact propext ⟨fun h => h.2, fun h => ⟨rfl, h⟩⟩
theorem e_eqS : rEq2 K (.str x) (.str y) H Q = Q (.bl (decide (x = y))) H := by
  show (scal (.str x) (.str y) = true ∧ Q (.bl (decide (V.str x = V.str y))) H) = _
  rw [show decide (V.str x = V.str y) = decide (x = y) from by simp]
  exact propext ⟨fun h => h.2, fun h => ⟨rfl, h⟩⟩
theorem e_neI : rNe2 K (.int i) (.int j) H Q = Q (.bl (!decide (i = j))) H := by
  show (scal (.int i) (.int j) = true ∧ Q (.bl (!decide (V.int i = V.int j))) H) = _
  rw [show decide (V.int i = V.int j) = decide (i = j) from by simp]
  exact propext ⟨fun h => h.2, fun h => ⟨rfl, h⟩⟩
theorem e_neS : rNe2 K (.str x) (.str y) H Q = Q (.bl (!decide (x = y))) H := by
  show (scal (.str x) (.str y) = true ∧ Q (.bl (!decide (V.str x = V.str y))) H) = _
  rw [show decide (V.str x = V.str y) = decide (x = y) from by simp]
  exact propext ⟨fun h => h.2, fun h => ⟨rfl, h⟩⟩
theorem e_eqNI : rEq2 K .non (.int j) H Q = Q (.bl false) H := by
  show (scal .non (.int j) = true ∧ Q (.bl (decide (V.non = V.int j))) H) = _
  exact propext ⟨fun h => by simpa using h.2, fun h => ⟨rfl, by simpa using h⟩⟩
theorem e_eqL : rEq2 K (.ref a) (.ref b) H Q = ∃ ns ms : List Int, SqL K H a (ns.map V.int) ∧ SqL K H b (ms.map V.int) ∧ Q (.bl (decide (ns = ms))) H := rfl
theorem e_i0 (g : Int → Int → V) : rInt0 g (.int i) (.int j) H Q = Q (g i j) H := rfl
theorem e_i2 (C : Int → Int → Prop) (g : Int → Int → V) : rInt2 C g (.int i) (.int j) H Q = (C i j ∧ Q (g i j) H) := rfl
theorem e_addI : rAdd2 (.int i) (.int j) H Q = Q (.int (i + j)) H := rfl
theorem e_addS : rAdd2 (.str x) (.str y) H Q = (x.length + y.length ≤ sizeLine ∧ Q (.str (x ++ y)) H) := rfl
theorem e_mulI : rMul2 (.int i) (.int j) H Q = (CMul i j ∧ Q (.int (i * j)) H) := rfl
theorem e_mulL : rMul2 (.ref a) (.int n) H Q = ∃ xs, H a = some (.lst xs) ∧ (-(2 ^ 63) ≤ n ∧ n < 2 ^ 63 ∧ xs.length * n.toNat ≤ sizeLine) ∧ ∀ p, H p = none → Q (.ref p) (upd H p (.lst (List.replicate n.toNat xs).flatten)) := rfl
theorem e_ixL : rIx2 K (.ref a) (.int i) H Q = ∃ xs v, (SqL K H a xs ∨ SqT K H a xs) ∧ atI xs i = some v ∧ Q v H := rfl
theorem e_ixS : rIx2 K (.str x) (.int i) H Q = (x.length ≤ sizeLine ∧ ∃ c, atI x.cps.toList i = some c ∧ Q (.str ⟨#[c]⟩) H) := rfl
theorem e_lenS : rLen K [.str x] H Q = (x.length ≤ sizeLine ∧ Q (.int x.length) H) := rfl
theorem e_lenR : rLen K [.ref a] H Q = ((∃ ys, (SqL K H a ys ∨ SqT K H a ys) ∧ Q (.int ys.length) H) ∨ ∃ kvs, H a = some (.dK kvs) ∧ Q (.int kvs.length) H) := rfl
theorem e_strI : rStr [.int i] H Q = (i.natAbs.log2 < 1920 ∧ Q (.str (toString i)) H) := rfl
theorem e_intS : rInt [.str x] H Q = ∃ n, (PySem.intText? x = some n ∧ x.length ≤ 640) ∧ Q (.int n) H := rfl
theorem e_min : rMin [.int i, .int j] H Q = Q (.int (if j < i then j else i)) H := rfl
end
end L2

end
section
set_option maxRecDepth 100000
set_option maxHeartbeats 4000000
set_option linter.all false
namespace K1
open PySem L2
def top (i : Nat) : Stmt := PySem.Challenge.pw_storeway_k01_what_parts_make.main.body.getD i (.Pass ⟨0, 0, 0, 0⟩)
/-! ### signs.py -/
def figs : Str := "0123456789"
def madeOf (z g : Str) : Bool := z.cps.toList.all fun c => decide (c ∈ g.cps.toList)
def spMadeOf : Sp := fun vs H Q _ => ∃ z g : Str, vs = [.str z, .str g] ∧ z.length ≤ 1000000 ∧ ∀ H', Same H H' → Q (.bl (madeOf z g)) H'
section
variable {P : Program} {w : World} {K : PySem.W.Frag} {mg : Str → Option Value} {base : Heap}
abbrev s_made_of : Stmt := top 2
theorem sc_made_of : FnSc ["word", "signs"] ["word", "signs"] ["all"] (defScope s_made_of) := ⟨⟨rfl, rfl, rfl, by decide +kernel, rfl, by decide +kernel, by decide +kernel⟩, by decide +kernel, by decide +kernel, by decide +kernel⟩
theorem cs_made_of_0 : CompSc ["sign"] ["signs"] (scopeOf (kidE (kidS (bodyAt (top 2) 0) 0) 1)) (defScope s_made_of) := ⟨rfl, by decide +kernel, by decide +kernel, by decide +kernel, by decide +kernel, by decide +kernel, by decide +kernel⟩
theorem cn_made_of_0 : ∀ x ∈ ((["sign"] : List Str) ++ (["signs"] : List Str)), (x == ("__debug__" : Str)) = false ∧ (x == ("__classdict__" : Str)) = false := by decide +kernel
theorem ok_made_of {f : Addr} {fd : FuncData} (F : Fun K "made_of" "made_of" s_made_of f fd) (n_all : mg "all" = none) : FnOk P w K mg base CX0 1 f fd ["word", "signs"] spMadeOf := by
  refine F.ok sc_made_of.S (fun vs H Q E h => ?_) (fun cdv A outer s H vs Q E hr h => ?_)
  · obtain ⟨z, g, rfl, _⟩ := h
    rfl
  · obtain ⟨z, g, rfl, hz, k⟩ := h
    have S := sc_made_of.sx (CX := CX0) (P := P) (w := w) (K := K) (mg := mg) (base := base) (qual := "made_of") (f := f) (cd := cdv) (A := A) (outer := outer) (s := s) (H := H) (E := E)
    have Sg := fun i {x} h => sc_made_of.gx (CX := CX0) (P := P) (w := w) (K := K) (mg := mg) (base := base) (qual := "made_of") (f := f) (cd := cdv) (A := A) (outer := outer) (s := s) (H := H) (E := E) i (x := x) h
    have S0 : CompSc ["sign"] ["signs"] (scopeOf (kidE (kidS (bodyAt (top 2) 0) 0) 1)) (cxOf CX0 P w K mg base ["word", "signs"] "made_of" (defScope s_made_of) f cdv A outer s H E).nox.env.scope := cs_made_of_0
    have K0 := fun C s₀ H₀ ex => S0.sx (C := C) (s₀ := s₀) (H₀ := H₀) (ex := ex) rfl cn_made_of_0
    refine ⟨_, (pss_one (ps_ret (k_all rfl (Sg 0 rfl) n_all (pa_cons (pe_cp S0 (js := [1]) rfl rfl (i_val (K := K) rfl (nv S 0)) (pg1 S0) (fun C s₀ H₀ ex => pts_nil) (fun C s₀ H₀ ex => (pe_of (o_in (K := K)) (nv (K0 C s₀ H₀ ex) 0) (nv (K0 C s₀ H₀ ex) 1)))) pa_nil)))), ?_⟩
    have e : ∀ i (hi : i < z.cps.size), (z.cps.toList.take (i + 1)) = z.cps.toList.take i ++ [z.cps[i]] := fun i hi => by
      rw [List.take_add_one]; simp [hi]
    dsimp only [tRet, tCB, tCons]
    refine tComp_by (Its z) z.cps.size (fun R h => h) (fun i ys H' => H' = H ∧ ys = ((z.cps.toList.take i).map fun c => decide (c ∈ g.cps.toList)).map V.bl) ⟨rfl, rfl⟩ (Nat.le_trans hz (by decide)) (fun i ys H' hi h => ?_) (fun i ys H' hi _ => hi) (fun ys H' _ => rfl) (fun i ys H1 x H2 hi h y => ?_) (fun ys H' h p hp => ?_)
    · rw [h.2]; simp; omega
    · obtain ⟨rfl, c, hc, rfl⟩ := y
      obtain ⟨rfl, rfl⟩ := h
      refine ⟨c, rfl, ?_⟩
      refine ⟨rfl, ?_⟩
      rw [e i hi]
      have hc' : z.cps[i] = c := by simpa [hi] using hc
      simp [hc']
    · obtain ⟨rfl, rfl⟩ := h
      refine ⟨_, upd_same, ?_⟩
      have e2 : (((z.cps.toList.take z.cps.size).map fun c => decide (c ∈ g.cps.toList)).all id) = madeOf z g := by
        rw [List.take_of_length_le (by simp)]
        unfold madeOf
        rw [List.all_map]
        rfl
      rw [e2]
      exact k _ fun b o h => by rw [upd_ne (ne_of_none h hp)]; exact h
end
end K1

end
section
set_option maxRecDepth 100000
set_option maxHeartbeats 4000000
set_option linter.all false
namespace L2
theorem Same.rfl' {H : Hp} : Same H H := fun _ _ h => h
end L2
namespace K1
open PySem L2
def numberBy (z : Str) (most : Int) : Option Int :=
  if z = "" then none else if (Str.ofString (toString most)).length < z.length then none else if madeOf z figs = false then none else
  if z.cps.toList[0]? = some 48 ∧ z ≠ "0" then none else if (NumText.digitsVal z.cps.toList : Int) ≤ most then some (NumText.digitsVal z.cps.toList : Int) else none
def numV : Option Int → V
  | none => .non
  | some n => .int n
theorem figs_l : ∀ c ∈ figs.cps.toList, 48 ≤ c ∧ c ≤ 57 := by decide +kernel
theorem digits_of {z : Str} (h : madeOf z figs = true) : NumText.AllDigits z.cps.toList := fun c hc => by
  have := List.all_eq_true.mp h c hc
  exact figs_l c (of_decide_eq_true this)
theorem str_nil {z : Str} (h : z.cps.toList = []) : z = "" := by
  have e : z = ⟨#[]⟩ := by
    cases z with
    | mk c =>
      have h : c.toList = [] := h
      rw [Array.toList_eq_nil_iff] at h
      rw [h]
  rw [e]
  decide +kernel
theorem zero_sign {c : Nat} (h : (⟨#[c]⟩ : Str) = "0") : c = 48 := by
  have e : ("0" : Str) = ⟨#[48]⟩ := by decide +kernel
  rw [e] at h
  have h := congrArg (fun s : Str => s.cps.toList) h
  simpa using h
def spNumberBy : Sp := fun vs H Q _ => ∃ (z : Str) (n : Int), vs = [.str z, .int n] ∧ z.length ≤ 1000000 ∧ 0 ≤ n ∧ n ≤ 1000 ∧ ∀ H', Same H H' → Q (numV (numberBy z n)) H'
/-! ### kinds.py -/
def spKindInit (K : PySem.W.Frag) : Sp := fun vs H Q _ => ∃ (p C dx : Addr) (told asked : V), vs = [.ref p, told, asked] ∧ H p = some (.ins C dx []) ∧ Cls K C ∧ NoAttr K C "told" ∧ NoAttr K C "asked" ∧
  Q .non (upd H p (.ins C dx (putF "asked" asked (putF "told" told []))))
def spGet (K : PySem.W.Frag) (f : Str) : Sp := fun vs H Q _ => ∃ (p C dx : Addr) (fs : List (Str × V)) (v : V), vs = [.ref p] ∧ H p = some (.ins C dx fs) ∧ Cls K C ∧ NoAttr K C f ∧ fs.lookup f = some v ∧ Q v H
section
variable {P : Program} {w : World} {K : PySem.W.Frag} {mg : Str → Option Value} {base : Heap}
abbrev s_number_by : Stmt := top 3
theorem sc_number_by : FnSc ["word", "most", "number"] ["word", "most"] ["int", "len", "str", "made_of", "FIGURES"] (defScope s_number_by) := ⟨⟨rfl, rfl, rfl, by decide +kernel, rfl, by decide +kernel, by decide +kernel⟩, by decide +kernel, by decide +kernel, by decide +kernel⟩
theorem ok_number_by {f : Addr} {fd : FuncData} (F : Fun K "number_by" "number_by" s_number_by f fd) (C_made_of : Cal P w K mg base 1 "made_of" ["word", "signs"] spMadeOf) {uF : Value} (v_FIGURES : mg "FIGURES" = some uF ∧ RelV (.str figs) uF) (n_len : mg "len" = none) (n_str : mg "str" = none) (n_int : mg "int" = none) : FnOk P w K mg base CX0 2 f fd ["word", "most"] spNumberBy := by
  refine F.ok sc_number_by.S (fun vs H Q E h => ?_) (fun cdv A outer s H vs Q E hr h => ?_)
  · obtain ⟨z, n, rfl, _⟩ := h
    rfl
  · obtain ⟨z, n, rfl, hz, h0, h1, k⟩ := h
    have S := sc_number_by.sx (CX := CX0) (P := P) (w := w) (K := K) (mg := mg) (base := base) (qual := "number_by") (f := f) (cd := cdv) (A := A) (outer := outer) (s := s) (H := H) (E := E)
    have Sg := fun i {x} h => sc_number_by.gx (CX := CX0) (P := P) (w := w) (K := K) (mg := mg) (base := base) (qual := "number_by") (f := f) (cd := cdv) (A := A) (outer := outer) (s := s) (H := H) (E := E) i (x := x) h
    have hU := hr.units
    refine ⟨_, (pss_cons (ps_if (PW.pt (pw_or (pt_of (o_eq (K := K) rfl hU) (nv S 0) pe_str) (pw_or (pt_of o_gt (k_len (K := K) rfl (Sg 1 rfl) n_len (pa_cons (nv S 0) pa_nil)) (k_len (K := K) rfl (Sg 1 rfl) n_len (pa_cons (k_str (Sg 2 rfl) n_str (pa_cons (nv S 1) pa_nil)) pa_nil))) (pw_or1 (pt_not (pt_tr (K := K) rfl (c_call C_made_of (hr.mono (by decide)) (Sg 3 rfl) (pa_cons (nv S 0) (pa_cons (g_val (Sg 4 rfl) v_FIGURES.1 v_FIGURES.2) pa_nil))))))))) (pss_one (ps_ret pe_non)) pss_nil)
      (pss_cons (ps_if (PW.pt (pw_and (pt_of (o_eq (K := K) rfl hU) (pe_ix (o_ix (K := K)) (nv S 0) pe_int (fun _ _ => rfl)) pe_str) (pw_and1 (pt_of (o_ne (K := K) rfl hU) (nv S 0) pe_str)))) (pss_one (ps_ret pe_non)) pss_nil)
      (pss_cons (ps_st S 2 (k_int (Sg 0 rfl) n_int (pa_cons (nv S 0) pa_nil)))
      (pss_one (ps_ret (pe_ifExp (pt_of o_le (nv S 2) (nv S 1)) (nv S 2) pe_non)))))), ?_⟩
    show (_ : TS) _ [some (.str z), some (.int n), none] H
    simp only [tRet, tCB, tCons, tNil, tSeq, tIfS, tAsg, gName, tV, List.getElem?_cons_zero, List.getElem?_cons_succ, List.set_cons_zero, List.set_cons_succ, tC, tOp, e_tst, e_isB, e_tru, e_truB, e_truI, e_truN, tSp, tDrop, tNext, tNot, tOr, tAnd, tIf, e_eqI, e_eqS, e_neI, e_neS, e_eqNI, e_i0, e_i2, e_addI, e_addS, e_mulI, e_ixS, e_ixL, e_lenS, e_strI, e_intS, e_min, if_true, Bool.false_eq_true, if_false]
    have hz' : z.length ≤ sizeLine := Nat.le_trans hz (by decide)
    have hlog : n.natAbs.log2 < 1920 := by
      by_cases hn : n.natAbs = 0
      · rw [hn]; decide
      · exact Nat.lt_of_lt_of_le ((Nat.log2_lt (k := 10) hn).mpr (by omega)) (by decide)
    have hlen : (Str.ofString (toString n)).length ≤ 5 := by
      rw [ofString_length]
      exact int_text_length_le10 (k := 4) (by decide) (by omega)
    refine ite2 (fun h => ?_) (fun h => ?_)
    · have e : numberBy z n = none := by unfold numberBy; rw [if_pos (of_decide_eq_true h)]
      have q := k H Same.rfl'
      rw [e] at q
      exact q
    have h := of_decide_eq_false (Bool.eq_false_iff.mpr h)
    refine ⟨hz', hlog, int_text_fits hlog, ite2 (fun g => ?_) (fun g => ?_)⟩
    · have g := of_decide_eq_true g
      have e : numberBy z n = none := by unfold numberBy; rw [if_neg h, if_pos (by omega)]
      have q := k H Same.rfl'
      rw [e] at q
      exact q
    have g := of_decide_eq_false (Bool.eq_false_iff.mpr g)
    refine ⟨z, figs, rfl, hz, fun H1 s1 => ?_⟩
    simp only [e_truB]
    cases hm : madeOf z figs with
    | false =>
      rw [show (!false) = true from rfl, if_pos rfl]
      have e : numberBy z n = none := by unfold numberBy; rw [if_neg h, if_neg (by omega), if_pos hm]
      have q := k H1 s1
      rw [e] at q
      exact q
    | true =>
      rw [show (!true) = false from rfl, if_neg Bool.false_ne_true]
      have dg := digits_of hm
      have hne : z.cps.toList ≠ [] := fun q => h (str_nil q)
      obtain ⟨c, r, hc⟩ : ∃ c r, z.cps.toList = c :: r := by
        cases q : z.cps.toList with
        | nil => exact absurd q hne
        | cons c r => exact ⟨c, r, rfl⟩
      have hl2 : z.length ≤ 4300 := by omega
      have it := intText_digits dg hne hl2
      have fin : ¬ (z.cps.toList[0]? = some 48 ∧ z ≠ "0") → ∃ n_1, (intText? z = some n_1 ∧ z.length ≤ 640) ∧ if decide (n_1 ≤ n) = true then Q (V.int n_1) H1 else Q V.non H1 := fun q => by
        refine ⟨_, ⟨it, by omega⟩, ite2 (fun g2 => ?_) (fun g2 => ?_)⟩
        · have e : numberBy z n = some (NumText.digitsVal z.cps.toList : Int) := by unfold numberBy; rw [if_neg h, if_neg (by omega), if_neg (by rw [hm]; decide), if_neg q, if_pos (of_decide_eq_true g2)]
          have q := k H1 s1
          rw [e] at q
          exact q
        · have e : numberBy z n = none := by unfold numberBy; rw [if_neg h, if_neg (by omega), if_neg (by rw [hm]; decide), if_neg q, if_neg (of_decide_eq_false (Bool.eq_false_iff.mpr g2))]
          have q := k H1 s1
          rw [e] at q
          exact q
      refine ⟨hz', c, by rw [hc]; exact atI_nat (j := 0) rfl, ite2 (fun g1 => ?_) (fun g1 => ?_)⟩
      · have g1 : c = 48 := zero_sign (of_decide_eq_true g1)
        refine ite2 (fun g2 => ?_) (fun g2 => ?_)
        · have g2 : ¬ z = "0" := by simpa using g2
          have e : numberBy z n = none := by unfold numberBy; rw [if_neg h, if_neg (by omega), if_neg (by rw [hm]; decide), if_pos ⟨by rw [hc, g1]; rfl, g2⟩]
          have q := k H1 s1
          rw [e] at q
          exact q
        · exact fin fun q => g2 (by simpa using q.2)
      · exact fin fun q => g1 (decide_eq_true (by
          rw [hc] at q
          have e : c = 48 := by simpa using q.1
          rw [e]; decide +kernel))
abbrev s_Kind_init : Stmt := inClass (top 6) 0
theorem sc_Kind_init : FnSc ["self", "told", "asked"] ["self", "told", "asked"] [] (defScope s_Kind_init) := ⟨⟨rfl, rfl, rfl, by decide +kernel, rfl, by decide +kernel, by decide +kernel⟩, by decide +kernel, by decide +kernel, by decide +kernel⟩
theorem ok_Kind_init {f : Addr} {fd : FuncData} (F : Fun K "__init__" "Kind.__init__" s_Kind_init f fd)  : FnOk P w K mg base CX0 1 f fd ["self", "told", "asked"] (spKindInit K) := by
  refine F.ok sc_Kind_init.S (fun vs H Q E h => ?_) (fun cdv A outer s H vs Q E hr h => ?_)
  · obtain ⟨p, C, dx, told, asked, rfl, _⟩ := h
    rfl
  · obtain ⟨p, C, dx, told, asked, rfl, hp, cl, nT, nA, k⟩ := h
    have S := sc_Kind_init.sx (CX := CX0) (P := P) (w := w) (K := K) (mg := mg) (base := base) (qual := "Kind.__init__") (f := f) (cd := cdv) (A := A) (outer := outer) (s := s) (H := H) (E := E)
    have hU := hr.units
    refine ⟨_, (pss_cons (ps_fd (K := K) rfl (nv S 0) (nv S 1))
      (pss_one (ps_fd (K := K) rfl (nv S 0) (nv S 2)))), ?_⟩
    show (_ : TS) _ [some (.ref p), some (told), some (asked)] H
    simp only [sFld, tRet, tCB, tCons, tNil, tSeq, tIfS, tAsg, gName, tV, List.getElem?_cons_zero, List.getElem?_cons_succ, List.set_cons_zero, List.set_cons_succ, tC, tOp, e_tst, e_isB, e_tru, e_truB, e_truI, e_truN, tSp, tDrop, tNext, tNot, tOr, tAnd, tIf, e_eqI, e_eqS, e_neI, e_neS, e_eqNI, e_i0, e_i2, e_addI, e_addS, e_mulI, e_ixS, e_ixL, e_lenS, e_strI, e_intS, e_min, if_true, Bool.false_eq_true, if_false]
    refine ⟨p, C, dx, [], rfl, hp, cl, nT, by show 0 < 1000; decide, ?_⟩
    refine ⟨p, C, dx, _, rfl, upd_same, cl, nA, by show 1 < 1000; decide, ?_⟩
    rw [upd_upd]
    exact k
abbrev s_Kind_lines : Stmt := inClass (top 6) 1
theorem sc_Kind_lines : FnSc ["self"] ["self"] [] (defScope s_Kind_lines) := ⟨⟨rfl, rfl, rfl, by decide +kernel, rfl, by decide +kernel, by decide +kernel⟩, by decide +kernel, by decide +kernel, by decide +kernel⟩
theorem ok_Kind_lines {f : Addr} {fd : FuncData} (F : Fun K "lines" "Kind.lines" s_Kind_lines f fd)  : FnOk P w K mg base CX0 1 f fd ["self"] (spGet K "asked") := by
  refine F.ok sc_Kind_lines.S (fun vs H Q E h => ?_) (fun cdv A outer s H vs Q E hr h => ?_)
  · obtain ⟨p, C, dx, fs, v, rfl, _⟩ := h
    rfl
  · obtain ⟨p, C, dx, fs, v, rfl, hp, cl, na, hv, k⟩ := h
    have S := sc_Kind_lines.sx (CX := CX0) (P := P) (w := w) (K := K) (mg := mg) (base := base) (qual := "Kind.lines") (f := f) (cd := cdv) (A := A) (outer := outer) (s := s) (H := H) (E := E)
    have hU := hr.units
    refine ⟨_, (pss_one (ps_ret (pe_fd (K := K) rfl (nv S 0)))), ?_⟩
    show (_ : TS) _ [some (.ref p)] H
    simp only [tRet, tCB, tCons, tNil, tSeq, tIfS, tAsg, gName, tV, List.getElem?_cons_zero, List.getElem?_cons_succ, List.set_cons_zero, List.set_cons_succ, tC, tOp, e_tst, e_isB, e_tru, e_truB, e_truI, e_truN, tSp, tDrop, tNext, tNot, tOr, tAnd, tIf, e_eqI, e_eqS, e_neI, e_neS, e_eqNI, e_i0, e_i2, e_addI, e_addS, e_mulI, e_ixS, e_ixL, e_lenS, e_strI, e_intS, e_min, if_true, Bool.false_eq_true, if_false]
    exact ⟨p, C, dx, fs, v, rfl, hp, cl, na, hv, k⟩
abbrev s_Kind_word : Stmt := inClass (top 6) 3
theorem sc_Kind_word : FnSc ["self"] ["self"] [] (defScope s_Kind_word) := ⟨⟨rfl, rfl, rfl, by decide +kernel, rfl, by decide +kernel, by decide +kernel⟩, by decide +kernel, by decide +kernel, by decide +kernel⟩
theorem ok_Kind_word {f : Addr} {fd : FuncData} (F : Fun K "word" "Kind.word" s_Kind_word f fd)  : FnOk P w K mg base CX0 1 f fd ["self"] (spGet K "told") := by
  refine F.ok sc_Kind_word.S (fun vs H Q E h => ?_) (fun cdv A outer s H vs Q E hr h => ?_)
  · obtain ⟨p, C, dx, fs, v, rfl, _⟩ := h
    rfl
  · obtain ⟨p, C, dx, fs, v, rfl, hp, cl, na, hv, k⟩ := h
    have S := sc_Kind_word.sx (CX := CX0) (P := P) (w := w) (K := K) (mg := mg) (base := base) (qual := "Kind.word") (f := f) (cd := cdv) (A := A) (outer := outer) (s := s) (H := H) (E := E)
    have hU := hr.units
    refine ⟨_, (pss_one (ps_ret (pe_fd (K := K) rfl (nv S 0)))), ?_⟩
    show (_ : TS) _ [some (.ref p)] H
    simp only [tRet, tCB, tCons, tNil, tSeq, tIfS, tAsg, gName, tV, List.getElem?_cons_zero, List.getElem?_cons_succ, List.set_cons_zero, List.set_cons_succ, tC, tOp, e_tst, e_isB, e_tru, e_truB, e_truI, e_truN, tSp, tDrop, tNext, tNot, tOr, tAnd, tIf, e_eqI, e_eqS, e_neI, e_neS, e_eqNI, e_i0, e_i2, e_addI, e_addS, e_mulI, e_ixS, e_ixL, e_lenS, e_strI, e_intS, e_min, if_true, Bool.false_eq_true, if_false]
    exact ⟨p, C, dx, fs, v, rfl, hp, cl, na, hv, k⟩
end
end K1

end
section
set_option maxRecDepth 100000
set_option maxHeartbeats 4000000
set_option linter.all false
namespace L2
open PySem
theorem e_bmS (r : V → List V → Hp → VK → Prop) (to : TE) (t : TA) {σ : St} {H : Hp} {Q : VK} : tBmS r to t σ H Q = to σ H fun x H1 => bmS r t x σ H1 Q := rfl
theorem e_part {z y : Str} {H : Hp} {Q : VK} : rPartition (.str z) [.str y] H Q = (((y.length == 0) = false ∧ z.length ≤ sizeLine) ∧ ∀ p, H p = none → Q (.ref p) (upd H p (.tup [.str (Txt.partition z y).1, .str (Txt.partition z y).2.1, .str (Txt.partition z y).2.2]))) := rfl
end L2
namespace K1
open PySem L2
inductive Kd where
  | src | snk | both | either | odd | plus | pick | up (n : Int) | down (n : Int)
  deriving DecidableEq
def Kd.word : Kd → Str
  | .src => "in" | .snk => "out" | .both => "and" | .either => "or" | .odd => "odd" | .plus => "plus" | .pick => "pick"
  | .up n => ("up:" : Str) ++ Str.ofString (toString n) | .down n => ("down:" : Str) ++ Str.ofString (toString n)
def Kd.asked : Kd → Int
  | .src => 0 | .snk => 1 | .both => 2 | .either => 2 | .odd => 2 | .plus => 2 | .pick => 3 | .up _ => 1 | .down _ => 1
def Kd.args : Kd → List V
  | .up n => [.int n] | .down n => [.int n] | _ => []
def flds (kd : Kd) : List (Str × V) := match kd with
  | .up n => putF "count" (.int n) (putF "asked" (.int kd.asked) (putF "told" (.str kd.word) []))
  | .down n => putF "count" (.int n) (putF "asked" (.int kd.asked) (putF "told" (.str kd.word) []))
  | _ => putF "asked" (.int kd.asked) (putF "told" (.str kd.word) [])
structure Cs where
  (src snk both either odd plus pick up down : Addr)
def Cs.of (c : Cs) : Kd → Addr
  | .src => c.src | .snk => c.snk | .both => c.both | .either => c.either | .odd => c.odd | .plus => c.plus | .pick => c.pick | .up _ => c.up | .down _ => c.down
structure ClsOk (K : PySem.W.Frag) (C : Addr) : Prop where
  cl : Cls K C
  nT : NoAttr K C "told"
  nA : NoAttr K C "asked"
  nC : NoAttr K C "count"
def KindAt (c : Cs) (H : Hp) (p : Addr) (kd : Kd) : Prop := ∃ dx, H p = some (.ins (c.of kd) dx (flds kd))
def spSub (K : PySem.W.Frag) (kd : Kd) : Sp := fun vs H Q _ => ∃ (p C dx : Addr), vs = .ref p :: kd.args ∧ H p = some (.ins C dx []) ∧ ClsOk K C ∧ Q .non (upd H p (.ins C dx (flds kd)))
def spUp (K : PySem.W.Frag) : Sp := fun vs H Q E => ∃ n, 1 ≤ n ∧ n ≤ 63 ∧ spSub K (.up n) vs H Q E
def spDown (K : PySem.W.Frag) : Sp := fun vs H Q E => ∃ n, 1 ≤ n ∧ n ≤ 63 ∧ spSub K (.down n) vs H Q E
theorem small_log {n : Int} (h : n.natAbs < 1000000) : n.natAbs.log2 < 1920 := by
  by_cases hn : n.natAbs = 0
  · rw [hn]; decide
  · exact Nat.lt_of_lt_of_le ((Nat.log2_lt (k := 20) hn).mpr (by omega)) (by decide)
theorem small_add {x : Str} {n : Int} (hx : x.length ≤ 1000) (h : n.natAbs < 1000000) : x.length + (Str.ofString (toString n)).length ≤ sizeLine := by
  have e : (Str.ofString (toString n)).length ≤ 7 := by
    rw [ofString_length]
    exact int_text_length_le10 (k := 6) (by decide) (by omega)
  exact Nat.le_trans (show _ ≤ 1007 by omega) (by decide)
/-- a kind comes, or None -/
def KRes (c : Cs) (H : Hp) (Q : VK) (o : Option Kd) : Prop := match o with
  | none => ∀ H', Same H H' → Q .non H'
  | some kd => ∀ p H', Same H H' → H p = none → KindAt c H' p kd → Q (.ref p) H'
theorem mk_kind {K : PySem.W.Frag} {c : Cs} {kd : Kd} {H : Hp} {Q : VK} (cok : ClsOk K (c.of kd)) (q : KRes c H Q (some kd)) :
    ∀ x dx, H x = none → H dx = none → dx ≠ x → spSub K kd (.ref x :: kd.args) (upd (upd H dx (.own x)) x (.ins (c.of kd) dx [])) (fun v H2 => v = .non ∧ Q (.ref x) H2) E0 := by
  intro x dx nx nd ne
  refine ⟨x, c.of kd, dx, rfl, upd_same, cok, rfl, ?_⟩
  refine q x _ (fun b o e => ?_) nx ⟨dx, upd_same⟩
  rw [upd_ne (ne_of_none e nx), upd_ne (ne_of_none e nx), upd_ne (ne_of_none e nd)]
  exact e
theorem KRes.mono {c : Cs} {H H1 : Hp} {Q : VK} {o : Option Kd} (k : KRes c H Q o) (s : Same H H1) : KRes c H1 Q o := by
  cases o with
  | none => exact fun H' s' => k H' (s.trans s')
  | some kd => exact fun p H' s' hp a => k p H' (s.trans s') (s.free hp) a
theorem part_len (z : Str) : (Txt.partition z ":").2.2.length ≤ z.length := by
  unfold Txt.partition
  split
  · exact le_strSub _ _ _
  · exact Nat.zero_le _
theorem numberBy_le {z : Str} {m n : Int} (h : numberBy z m = some n) : 0 ≤ n ∧ n ≤ m := by
  unfold numberBy at h
  split at h
  · cases h
  split at h
  · cases h
  split at h
  · cases h
  split at h
  · cases h
  split at h
  · rename_i g
    cases h
    exact ⟨Int.natCast_nonneg _, g⟩
  · cases h
/-- what a kind makes -/
def madeK (kd : Kd) (wd : Int) (ns : List Int) : Int :=
  let a := ns.getD 0 0; let b := ns.getD 1 0; let d := ns.getD 2 0
  match kd with
  | .src => 0 | .snk => a | .both => Builtin.bitAnd a b | .either => Builtin.bitOr a b | .odd => Builtin.bitXor a b | .plus => (a + b) % (1 * 2 ^ wd.toNat) | .pick => if a = 0 then d else b
  | .up n => (a * 2 ^ n.toNat) % (1 * 2 ^ wd.toNat) | .down n => a / 2 ^ n.toNat
def spMade (K : PySem.W.Frag) (kd : Kd) : Sp := fun vs H Q _ => ∃ (p l : Addr) (wd : Int) (ns : List Int) (C dx : Addr), vs = [.ref p, .ref l, .int wd] ∧ H p = some (.ins C dx (flds kd)) ∧ ClsOk K C ∧ SqL K H l (ns.map V.int) ∧ (ns.length : Int) = kd.asked ∧
  (∀ x ∈ ns, 0 ≤ x ∧ x < 2 ^ 64) ∧ 1 ≤ wd ∧ wd ≤ 64 ∧ Q (.int (madeK kd wd ns)) H
def spUpMade (K : PySem.W.Frag) : Sp := fun vs H Q E => ∃ n, 1 ≤ n ∧ n ≤ 63 ∧ spMade K (.up n) vs H Q E
def spDownMade (K : PySem.W.Frag) : Sp := fun vs H Q E => ∃ n, 1 ≤ n ∧ n ≤ 63 ∧ spMade K (.down n) vs H Q E
theorem pow_ok {wd : Int} (h1 : 1 ≤ wd) (h2 : wd ≤ 64) : CPow 1 wd := ⟨by omega, by omega, by decide⟩
theorem pow_pos' (wd : Int) : (0 : Int) < 1 * 2 ^ wd.toNat := by
  rw [Int.one_mul]
  exact Int.pow_pos (by decide)
theorem shl_ok {a n : Int} (h1 : 1 ≤ n) (h2 : n ≤ 63) (h : 0 ≤ a ∧ a < 2 ^ 64) : CPow a n := ⟨by omega, by omega, by omega⟩
def plainKind (z : Str) : Option Kd := if z = "in" then some .src else if z = "out" then some .snk else if z = "and" then some .both else if z = "or" then some .either else if z = "odd" then some .odd else if z = "plus" then some .plus else if z = "pick" then some .pick else none
def shiftKind (z : Str) (n : Int) : Option Kd := if z = "up" then some (.up n) else if z = "down" then some (.down n) else none
def kindBy (z : Str) : Option Kd := if (Txt.partition z ":").2.1 = "" then plainKind z else match numberBy (Txt.partition z ":").2.2 63 with
  | none => none
  | some n => if n = 0 then none else shiftKind (Txt.partition z ":").1 n
def spPlain (c : Cs) : Sp := fun vs H Q _ => ∃ z : Str, vs = [.str z] ∧ KRes c H Q (plainKind z)
def spShift (c : Cs) : Sp := fun vs H Q _ => ∃ (z : Str) (n : Int), vs = [.str z, .int n] ∧ 1 ≤ n ∧ n ≤ 63 ∧ KRes c H Q (shiftKind z n)
def spKindBy (c : Cs) : Sp := fun vs H Q _ => ∃ z : Str, vs = [.str z] ∧ z.length ≤ 1000000 ∧ KRes c H Q (kindBy z)
section
variable {P : Program} {w : World} {K : PySem.W.Frag} {mg : Str → Option Value} {base : Heap} {c : Cs}
abbrev s_Source_init : Stmt := inClass (top 7) 0
theorem sc_Source_init : FnSc ["self"] ["self"] ["Kind"] (defScope s_Source_init) := ⟨⟨rfl, rfl, rfl, by decide +kernel, rfl, by decide +kernel, by decide +kernel⟩, by decide +kernel, by decide +kernel, by decide +kernel⟩
theorem ok_Source_init {f : Addr} {fd : FuncData} (F : Fun K "__init__" "Source.__init__" s_Source_init f fd) (B_Kind_init : ClsFn P w K mg base 1 "Kind" "__init__" ["self", "told", "asked"] (spKindInit K)) : FnOk P w K mg base CX0 2 f fd ["self"] (spSub K .src) := by
  refine F.ok sc_Source_init.S (fun vs H Q E h => ?_) (fun cdv A outer s H vs Q E hr h => ?_)
  · obtain ⟨p, C, dx, rfl, _⟩ := h
    rfl
  · obtain ⟨p, C, dx, rfl, hp, cok, k⟩ := h
    have S := sc_Source_init.sx (CX := CX0) (P := P) (w := w) (K := K) (mg := mg) (base := base) (qual := "Source.__init__") (f := f) (cd := cdv) (A := A) (outer := outer) (s := s) (H := H) (E := E)
    have Sg := fun i {x} h => sc_Source_init.gx (CX := CX0) (P := P) (w := w) (K := K) (mg := mg) (base := base) (qual := "Source.__init__") (f := f) (cd := cdv) (A := A) (outer := outer) (s := s) (H := H) (E := E) i (x := x) h
    have hU := hr.units
    refine ⟨_, (pss_one (ps_expr (b_call B_Kind_init (hr.mono (by decide)) (Sg 0 rfl) (pa_cons (nv S 0) (pa_cons pe_str (pa_cons pe_int pa_nil)))))), ?_⟩
    show (_ : TS) _ [some (.ref p)] H
    simp only [tRet, tCB, tCons, tNil, tSeq, tIfS, tAsg, gName, tV, List.getElem?_cons_zero, List.getElem?_cons_succ, List.set_cons_zero, List.set_cons_succ, tC, tOp, e_tst, e_isB, e_tru, e_truB, e_truI, e_truN, tSp, tDrop, tNext, tNot, tOr, tAnd, tIf, e_eqI, e_eqS, e_neI, e_neS, e_eqNI, e_i0, e_i2, e_addI, e_addS, e_mulI, e_ixS, e_ixL, e_lenS, e_strI, e_intS, e_min, if_true, Bool.false_eq_true, if_false]
    exact ⟨p, C, dx, _, _, rfl, hp, cok.cl, cok.nT, cok.nA, k⟩
abbrev s_Sink_init : Stmt := inClass (top 8) 0
theorem sc_Sink_init : FnSc ["self"] ["self"] ["Kind"] (defScope s_Sink_init) := ⟨⟨rfl, rfl, rfl, by decide +kernel, rfl, by decide +kernel, by decide +kernel⟩, by decide +kernel, by decide +kernel, by decide +kernel⟩
theorem ok_Sink_init {f : Addr} {fd : FuncData} (F : Fun K "__init__" "Sink.__init__" s_Sink_init f fd) (B_Kind_init : ClsFn P w K mg base 1 "Kind" "__init__" ["self", "told", "asked"] (spKindInit K)) : FnOk P w K mg base CX0 2 f fd ["self"] (spSub K .snk) := by
  refine F.ok sc_Sink_init.S (fun vs H Q E h => ?_) (fun cdv A outer s H vs Q E hr h => ?_)
  · obtain ⟨p, C, dx, rfl, _⟩ := h
    rfl
  · obtain ⟨p, C, dx, rfl, hp, cok, k⟩ := h
    have S := sc_Sink_init.sx (CX := CX0) (P := P) (w := w) (K := K) (mg := mg) (base := base) (qual := "Sink.__init__") (f := f) (cd := cdv) (A := A) (outer := outer) (s := s) (H := H) (E := E)
    have Sg := fun i {x} h => sc_Sink_init.gx (CX := CX0) (P := P) (w := w) (K := K) (mg := mg) (base := base) (qual := "Sink.__init__") (f := f) (cd := cdv) (A := A) (outer := outer) (s := s) (H := H) (E := E) i (x := x) h
    have hU := hr.units
    refine ⟨_, (pss_one (ps_expr (b_call B_Kind_init (hr.mono (by decide)) (Sg 0 rfl) (pa_cons (nv S 0) (pa_cons pe_str (pa_cons pe_int pa_nil)))))), ?_⟩
    show (_ : TS) _ [some (.ref p)] H
    simp only [tRet, tCB, tCons, tNil, tSeq, tIfS, tAsg, gName, tV, List.getElem?_cons_zero, List.getElem?_cons_succ, List.set_cons_zero, List.set_cons_succ, tC, tOp, e_tst, e_isB, e_tru, e_truB, e_truI, e_truN, tSp, tDrop, tNext, tNot, tOr, tAnd, tIf, e_eqI, e_eqS, e_neI, e_neS, e_eqNI, e_i0, e_i2, e_addI, e_addS, e_mulI, e_ixS, e_ixL, e_lenS, e_strI, e_intS, e_min, if_true, Bool.false_eq_true, if_false]
    exact ⟨p, C, dx, _, _, rfl, hp, cok.cl, cok.nT, cok.nA, k⟩
abbrev s_Both_init : Stmt := inClass (top 9) 0
theorem sc_Both_init : FnSc ["self"] ["self"] ["Kind"] (defScope s_Both_init) := ⟨⟨rfl, rfl, rfl, by decide +kernel, rfl, by decide +kernel, by decide +kernel⟩, by decide +kernel, by decide +kernel, by decide +kernel⟩
theorem ok_Both_init {f : Addr} {fd : FuncData} (F : Fun K "__init__" "Both.__init__" s_Both_init f fd) (B_Kind_init : ClsFn P w K mg base 1 "Kind" "__init__" ["self", "told", "asked"] (spKindInit K)) : FnOk P w K mg base CX0 2 f fd ["self"] (spSub K .both) := by
  refine F.ok sc_Both_init.S (fun vs H Q E h => ?_) (fun cdv A outer s H vs Q E hr h => ?_)
  · obtain ⟨p, C, dx, rfl, _⟩ := h
    rfl
  · obtain ⟨p, C, dx, rfl, hp, cok, k⟩ := h
    have S := sc_Both_init.sx (CX := CX0) (P := P) (w := w) (K := K) (mg := mg) (base := base) (qual := "Both.__init__") (f := f) (cd := cdv) (A := A) (outer := outer) (s := s) (H := H) (E := E)
    have Sg := fun i {x} h => sc_Both_init.gx (CX := CX0) (P := P) (w := w) (K := K) (mg := mg) (base := base) (qual := "Both.__init__") (f := f) (cd := cdv) (A := A) (outer := outer) (s := s) (H := H) (E := E) i (x := x) h
    have hU := hr.units
    refine ⟨_, (pss_one (ps_expr (b_call B_Kind_init (hr.mono (by decide)) (Sg 0 rfl) (pa_cons (nv S 0) (pa_cons pe_str (pa_cons pe_int pa_nil)))))), ?_⟩
    show (_ : TS) _ [some (.ref p)] H
    simp only [tRet, tCB, tCons, tNil, tSeq, tIfS, tAsg, gName, tV, List.getElem?_cons_zero, List.getElem?_cons_succ, List.set_cons_zero, List.set_cons_succ, tC, tOp, e_tst, e_isB, e_tru, e_truB, e_truI, e_truN, tSp, tDrop, tNext, tNot, tOr, tAnd, tIf, e_eqI, e_eqS, e_neI, e_neS, e_eqNI, e_i0, e_i2, e_addI, e_addS, e_mulI, e_ixS, e_ixL, e_lenS, e_strI, e_intS, e_min, if_true, Bool.false_eq_true, if_false]
    exact ⟨p, C, dx, _, _, rfl, hp, cok.cl, cok.nT, cok.nA, k⟩
abbrev s_Either_init : Stmt := inClass (top 10) 0
theorem sc_Either_init : FnSc ["self"] ["self"] ["Kind"] (defScope s_Either_init) := ⟨⟨rfl, rfl, rfl, by decide +kernel, rfl, by decide +kernel, by decide +kernel⟩, by decide +kernel, by decide +kernel, by decide +kernel⟩
theorem ok_Either_init {f : Addr} {fd : FuncData} (F : Fun K "__init__" "Either.__init__" s_Either_init f fd) (B_Kind_init : ClsFn P w K mg base 1 "Kind" "__init__" ["self", "told", "asked"] (spKindInit K)) : FnOk P w K mg base CX0 2 f fd ["self"] (spSub K .either) := by
  refine F.ok sc_Either_init.S (fun vs H Q E h => ?_) (fun cdv A outer s H vs Q E hr h => ?_)
  · obtain ⟨p, C, dx, rfl, _⟩ := h
    rfl
  · obtain ⟨p, C, dx, rfl, hp, cok, k⟩ := h
    have S := sc_Either_init.sx (CX := CX0) (P := P) (w := w) (K := K) (mg := mg) (base := base) (qual := "Either.__init__") (f := f) (cd := cdv) (A := A) (outer := outer) (s := s) (H := H) (E := E)
    have Sg := fun i {x} h => sc_Either_init.gx (CX := CX0) (P := P) (w := w) (K := K) (mg := mg) (base := base) (qual := "Either.__init__") (f := f) (cd := cdv) (A := A) (outer := outer) (s := s) (H := H) (E := E) i (x := x) h
    have hU := hr.units
    refine ⟨_, (pss_one (ps_expr (b_call B_Kind_init (hr.mono (by decide)) (Sg 0 rfl) (pa_cons (nv S 0) (pa_cons pe_str (pa_cons pe_int pa_nil)))))), ?_⟩
    show (_ : TS) _ [some (.ref p)] H
    simp only [tRet, tCB, tCons, tNil, tSeq, tIfS, tAsg, gName, tV, List.getElem?_cons_zero, List.getElem?_cons_succ, List.set_cons_zero, List.set_cons_succ, tC, tOp, e_tst, e_isB, e_tru, e_truB, e_truI, e_truN, tSp, tDrop, tNext, tNot, tOr, tAnd, tIf, e_eqI, e_eqS, e_neI, e_neS, e_eqNI, e_i0, e_i2, e_addI, e_addS, e_mulI, e_ixS, e_ixL, e_lenS, e_strI, e_intS, e_min, if_true, Bool.false_eq_true, if_false]
    exact ⟨p, C, dx, _, _, rfl, hp, cok.cl, cok.nT, cok.nA, k⟩
abbrev s_Odd_init : Stmt := inClass (top 11) 0
theorem sc_Odd_init : FnSc ["self"] ["self"] ["Kind"] (defScope s_Odd_init) := ⟨⟨rfl, rfl, rfl, by decide +kernel, rfl, by decide +kernel, by decide +kernel⟩, by decide +kernel, by decide +kernel, by decide +kernel⟩
theorem ok_Odd_init {f : Addr} {fd : FuncData} (F : Fun K "__init__" "Odd.__init__" s_Odd_init f fd) (B_Kind_init : ClsFn P w K mg base 1 "Kind" "__init__" ["self", "told", "asked"] (spKindInit K)) : FnOk P w K mg base CX0 2 f fd ["self"] (spSub K .odd) := by
  refine F.ok sc_Odd_init.S (fun vs H Q E h => ?_) (fun cdv A outer s H vs Q E hr h => ?_)
  · obtain ⟨p, C, dx, rfl, _⟩ := h
    rfl
  · obtain ⟨p, C, dx, rfl, hp, cok, k⟩ := h
    have S := sc_Odd_init.sx (CX := CX0) (P := P) (w := w) (K := K) (mg := mg) (base := base) (qual := "Odd.__init__") (f := f) (cd := cdv) (A := A) (outer := outer) (s := s) (H := H) (E := E)
    have Sg := fun i {x} h => sc_Odd_init.gx (CX := CX0) (P := P) (w := w) (K := K) (mg := mg) (base := base) (qual := "Odd.__init__") (f := f) (cd := cdv) (A := A) (outer := outer) (s := s) (H := H) (E := E) i (x := x) h
    have hU := hr.units
    refine ⟨_, (pss_one (ps_expr (b_call B_Kind_init (hr.mono (by decide)) (Sg 0 rfl) (pa_cons (nv S 0) (pa_cons pe_str (pa_cons pe_int pa_nil)))))), ?_⟩
    show (_ : TS) _ [some (.ref p)] H
    simp only [tRet, tCB, tCons, tNil, tSeq, tIfS, tAsg, gName, tV, List.getElem?_cons_zero, List.getElem?_cons_succ, List.set_cons_zero, List.set_cons_succ, tC, tOp, e_tst, e_isB, e_tru, e_truB, e_truI, e_truN, tSp, tDrop, tNext, tNot, tOr, tAnd, tIf, e_eqI, e_eqS, e_neI, e_neS, e_eqNI, e_i0, e_i2, e_addI, e_addS, e_mulI, e_ixS, e_ixL, e_lenS, e_strI, e_intS, e_min, if_true, Bool.false_eq_true, if_false]
    exact ⟨p, C, dx, _, _, rfl, hp, cok.cl, cok.nT, cok.nA, k⟩
abbrev s_Plus_init : Stmt := inClass (top 12) 0
theorem sc_Plus_init : FnSc ["self"] ["self"] ["Kind"] (defScope s_Plus_init) := ⟨⟨rfl, rfl, rfl, by decide +kernel, rfl, by decide +kernel, by decide +kernel⟩, by decide +kernel, by decide +kernel, by decide +kernel⟩
theorem ok_Plus_init {f : Addr} {fd : FuncData} (F : Fun K "__init__" "Plus.__init__" s_Plus_init f fd) (B_Kind_init : ClsFn P w K mg base 1 "Kind" "__init__" ["self", "told", "asked"] (spKindInit K)) : FnOk P w K mg base CX0 2 f fd ["self"] (spSub K .plus) := by
  refine F.ok sc_Plus_init.S (fun vs H Q E h => ?_) (fun cdv A outer s H vs Q E hr h => ?_)
  · obtain ⟨p, C, dx, rfl, _⟩ := h
    rfl
  · obtain ⟨p, C, dx, rfl, hp, cok, k⟩ := h
    have S := sc_Plus_init.sx (CX := CX0) (P := P) (w := w) (K := K) (mg := mg) (base := base) (qual := "Plus.__init__") (f := f) (cd := cdv) (A := A) (outer := outer) (s := s) (H := H) (E := E)
    have Sg := fun i {x} h => sc_Plus_init.gx (CX := CX0) (P := P) (w := w) (K := K) (mg := mg) (base := base) (qual := "Plus.__init__") (f := f) (cd := cdv) (A := A) (outer := outer) (s := s) (H := H) (E := E) i (x := x) h
    have hU := hr.units
    refine ⟨_, (pss_one (ps_expr (b_call B_Kind_init (hr.mono (by decide)) (Sg 0 rfl) (pa_cons (nv S 0) (pa_cons pe_str (pa_cons pe_int pa_nil)))))), ?_⟩
    show (_ : TS) _ [some (.ref p)] H
    simp only [tRet, tCB, tCons, tNil, tSeq, tIfS, tAsg, gName, tV, List.getElem?_cons_zero, List.getElem?_cons_succ, List.set_cons_zero, List.set_cons_succ, tC, tOp, e_tst, e_isB, e_tru, e_truB, e_truI, e_truN, tSp, tDrop, tNext, tNot, tOr, tAnd, tIf, e_eqI, e_eqS, e_neI, e_neS, e_eqNI, e_i0, e_i2, e_addI, e_addS, e_mulI, e_ixS, e_ixL, e_lenS, e_strI, e_intS, e_min, if_true, Bool.false_eq_true, if_false]
    exact ⟨p, C, dx, _, _, rfl, hp, cok.cl, cok.nT, cok.nA, k⟩
abbrev s_Pick_init : Stmt := inClass (top 13) 0
theorem sc_Pick_init : FnSc ["self"] ["self"] ["Kind"] (defScope s_Pick_init) := ⟨⟨rfl, rfl, rfl, by decide +kernel, rfl, by decide +kernel, by decide +kernel⟩, by decide +kernel, by decide +kernel, by decide +kernel⟩
theorem ok_Pick_init {f : Addr} {fd : FuncData} (F : Fun K "__init__" "Pick.__init__" s_Pick_init f fd) (B_Kind_init : ClsFn P w K mg base 1 "Kind" "__init__" ["self", "told", "asked"] (spKindInit K)) : FnOk P w K mg base CX0 2 f fd ["self"] (spSub K .pick) := by
  refine F.ok sc_Pick_init.S (fun vs H Q E h => ?_) (fun cdv A outer s H vs Q E hr h => ?_)
  · obtain ⟨p, C, dx, rfl, _⟩ := h
    rfl
  · obtain ⟨p, C, dx, rfl, hp, cok, k⟩ := h
    have S := sc_Pick_init.sx (CX := CX0) (P := P) (w := w) (K := K) (mg := mg) (base := base) (qual := "Pick.__init__") (f := f) (cd := cdv) (A := A) (outer := outer) (s := s) (H := H) (E := E)
    have Sg := fun i {x} h => sc_Pick_init.gx (CX := CX0) (P := P) (w := w) (K := K) (mg := mg) (base := base) (qual := "Pick.__init__") (f := f) (cd := cdv) (A := A) (outer := outer) (s := s) (H := H) (E := E) i (x := x) h
    have hU := hr.units
    refine ⟨_, (pss_one (ps_expr (b_call B_Kind_init (hr.mono (by decide)) (Sg 0 rfl) (pa_cons (nv S 0) (pa_cons pe_str (pa_cons pe_int pa_nil)))))), ?_⟩
    show (_ : TS) _ [some (.ref p)] H
    simp only [tRet, tCB, tCons, tNil, tSeq, tIfS, tAsg, gName, tV, List.getElem?_cons_zero, List.getElem?_cons_succ, List.set_cons_zero, List.set_cons_succ, tC, tOp, e_tst, e_isB, e_tru, e_truB, e_truI, e_truN, tSp, tDrop, tNext, tNot, tOr, tAnd, tIf, e_eqI, e_eqS, e_neI, e_neS, e_eqNI, e_i0, e_i2, e_addI, e_addS, e_mulI, e_ixS, e_ixL, e_lenS, e_strI, e_intS, e_min, if_true, Bool.false_eq_true, if_false]
    exact ⟨p, C, dx, _, _, rfl, hp, cok.cl, cok.nT, cok.nA, k⟩
abbrev s_Up_init : Stmt := inClass (top 14) 0
theorem sc_Up_init : FnSc ["self", "count"] ["self", "count"] ["Kind", "str"] (defScope s_Up_init) := ⟨⟨rfl, rfl, rfl, by decide +kernel, rfl, by decide +kernel, by decide +kernel⟩, by decide +kernel, by decide +kernel, by decide +kernel⟩
theorem ok_Up_init {f : Addr} {fd : FuncData} (F : Fun K "__init__" "Up.__init__" s_Up_init f fd) (B_Kind_init : ClsFn P w K mg base 1 "Kind" "__init__" ["self", "told", "asked"] (spKindInit K)) (n_str : mg "str" = none) : FnOk P w K mg base CX0 2 f fd ["self", "count"] (spUp K) := by
  refine F.ok sc_Up_init.S (fun vs H Q E h => ?_) (fun cdv A outer s H vs Q E hr h => ?_)
  · obtain ⟨n, _, _, p, C, dx, rfl, _⟩ := h
    rfl
  · obtain ⟨n, h1, h2, p, C, dx, rfl, hp, cok, k⟩ := h
    have S := sc_Up_init.sx (CX := CX0) (P := P) (w := w) (K := K) (mg := mg) (base := base) (qual := "Up.__init__") (f := f) (cd := cdv) (A := A) (outer := outer) (s := s) (H := H) (E := E)
    have Sg := fun i {x} h => sc_Up_init.gx (CX := CX0) (P := P) (w := w) (K := K) (mg := mg) (base := base) (qual := "Up.__init__") (f := f) (cd := cdv) (A := A) (outer := outer) (s := s) (H := H) (E := E) i (x := x) h
    have hU := hr.units
    refine ⟨_, (pss_cons (ps_expr (b_call B_Kind_init (hr.mono (by decide)) (Sg 0 rfl) (pa_cons (nv S 0) (pa_cons (pe_op o_add pe_str (k_str (Sg 1 rfl) n_str (pa_cons (nv S 1) pa_nil))) (pa_cons pe_int pa_nil)))))
      (pss_one (ps_fd (K := K) rfl (nv S 0) (nv S 1)))), ?_⟩
    show (_ : TS) _ [some (.ref p), some (.int n)] H
    simp only [sFld, tRet, tCB, tCons, tNil, tSeq, tIfS, tAsg, gName, tV, List.getElem?_cons_zero, List.getElem?_cons_succ, List.set_cons_zero, List.set_cons_succ, tC, tOp, e_tst, e_isB, e_tru, e_truB, e_truI, e_truN, tSp, tDrop, tNext, tNot, tOr, tAnd, tIf, e_eqI, e_eqS, e_neI, e_neS, e_eqNI, e_i0, e_i2, e_addI, e_addS, e_mulI, e_ixS, e_ixL, e_lenS, e_strI, e_intS, e_min, if_true, Bool.false_eq_true, if_false]
    refine ⟨small_log (by omega), small_add (by decide) (by omega), ?_⟩
    refine ⟨p, C, dx, _, _, rfl, hp, cok.cl, cok.nT, cok.nA, ?_⟩
    simp only []
    refine ⟨p, C, dx, _, rfl, upd_same, cok.cl, cok.nC, by show 2 < 1000; decide, ?_⟩
    rw [upd_upd]
    exact k
abbrev s_Down_init : Stmt := inClass (top 15) 0
theorem sc_Down_init : FnSc ["self", "count"] ["self", "count"] ["Kind", "str"] (defScope s_Down_init) := ⟨⟨rfl, rfl, rfl, by decide +kernel, rfl, by decide +kernel, by decide +kernel⟩, by decide +kernel, by decide +kernel, by decide +kernel⟩
theorem ok_Down_init {f : Addr} {fd : FuncData} (F : Fun K "__init__" "Down.__init__" s_Down_init f fd) (B_Kind_init : ClsFn P w K mg base 1 "Kind" "__init__" ["self", "told", "asked"] (spKindInit K)) (n_str : mg "str" = none) : FnOk P w K mg base CX0 2 f fd ["self", "count"] (spDown K) := by
  refine F.ok sc_Down_init.S (fun vs H Q E h => ?_) (fun cdv A outer s H vs Q E hr h => ?_)
  · obtain ⟨n, _, _, p, C, dx, rfl, _⟩ := h
    rfl
  · obtain ⟨n, h1, h2, p, C, dx, rfl, hp, cok, k⟩ := h
    have S := sc_Down_init.sx (CX := CX0) (P := P) (w := w) (K := K) (mg := mg) (base := base) (qual := "Down.__init__") (f := f) (cd := cdv) (A := A) (outer := outer) (s := s) (H := H) (E := E)
    have Sg := fun i {x} h => sc_Down_init.gx (CX := CX0) (P := P) (w := w) (K := K) (mg := mg) (base := base) (qual := "Down.__init__") (f := f) (cd := cdv) (A := A) (outer := outer) (s := s) (H := H) (E := E) i (x := x) h
    have hU := hr.units
    refine ⟨_, (pss_cons (ps_expr (b_call B_Kind_init (hr.mono (by decide)) (Sg 0 rfl) (pa_cons (nv S 0) (pa_cons (pe_op o_add pe_str (k_str (Sg 1 rfl) n_str (pa_cons (nv S 1) pa_nil))) (pa_cons pe_int pa_nil)))))
      (pss_one (ps_fd (K := K) rfl (nv S 0) (nv S 1)))), ?_⟩
    show (_ : TS) _ [some (.ref p), some (.int n)] H
    simp only [sFld, tRet, tCB, tCons, tNil, tSeq, tIfS, tAsg, gName, tV, List.getElem?_cons_zero, List.getElem?_cons_succ, List.set_cons_zero, List.set_cons_succ, tC, tOp, e_tst, e_isB, e_tru, e_truB, e_truI, e_truN, tSp, tDrop, tNext, tNot, tOr, tAnd, tIf, e_eqI, e_eqS, e_neI, e_neS, e_eqNI, e_i0, e_i2, e_addI, e_addS, e_mulI, e_ixS, e_ixL, e_lenS, e_strI, e_intS, e_min, if_true, Bool.false_eq_true, if_false]
    refine ⟨small_log (by omega), small_add (by decide) (by omega), ?_⟩
    refine ⟨p, C, dx, _, _, rfl, hp, cok.cl, cok.nT, cok.nA, ?_⟩
    simp only []
    refine ⟨p, C, dx, _, rfl, upd_same, cok.cl, cok.nC, by show 2 < 1000; decide, ?_⟩
    rw [upd_upd]
    exact k
abbrev s_plain_kind : Stmt := top 16
theorem sc_plain_kind : FnSc ["word"] ["word"] ["Pick", "Plus", "Odd", "Either", "Both", "Sink", "Source"] (defScope s_plain_kind) := ⟨⟨rfl, rfl, rfl, by decide +kernel, rfl, by decide +kernel, by decide +kernel⟩, by decide +kernel, by decide +kernel, by decide +kernel⟩
theorem ok_plain_kind {f : Addr} {fd : FuncData} (F : Fun K "plain_kind" "plain_kind" s_plain_kind f fd) (ok : ∀ kd, ClsOk K (c.of kd)) (C_Source : Mkr P w K mg base 2 "Source" c.src ["self"] (spSub K .src)) (C_Sink : Mkr P w K mg base 2 "Sink" c.snk ["self"] (spSub K .snk)) (C_Both : Mkr P w K mg base 2 "Both" c.both ["self"] (spSub K .both)) (C_Either : Mkr P w K mg base 2 "Either" c.either ["self"] (spSub K .either)) (C_Odd : Mkr P w K mg base 2 "Odd" c.odd ["self"] (spSub K .odd)) (C_Plus : Mkr P w K mg base 2 "Plus" c.plus ["self"] (spSub K .plus)) (C_Pick : Mkr P w K mg base 2 "Pick" c.pick ["self"] (spSub K .pick)) : FnOk P w K mg base CX0 4 f fd ["word"] (spPlain c) := by
  refine F.ok sc_plain_kind.S (fun vs H Q E h => ?_) (fun cdv A outer s H vs Q E hr h => ?_)
  · obtain ⟨z, rfl, _⟩ := h
    rfl
  · obtain ⟨z, rfl, k⟩ := h
    have S := sc_plain_kind.sx (CX := CX0) (P := P) (w := w) (K := K) (mg := mg) (base := base) (qual := "plain_kind") (f := f) (cd := cdv) (A := A) (outer := outer) (s := s) (H := H) (E := E)
    have Sg := fun i {x} h => sc_plain_kind.gx (CX := CX0) (P := P) (w := w) (K := K) (mg := mg) (base := base) (qual := "plain_kind") (f := f) (cd := cdv) (A := A) (outer := outer) (s := s) (H := H) (E := E) i (x := x) h
    have hU := hr.units
    refine ⟨_, (pss_cons (ps_if (pt_of (o_eq (K := K) rfl hU) (nv S 0) pe_str) (pss_one (ps_ret (c_make0 C_Source (hr.mono (by decide)) (Sg 6 rfl)))) pss_nil)
      (pss_cons (ps_if (pt_of (o_eq (K := K) rfl hU) (nv S 0) pe_str) (pss_one (ps_ret (c_make0 C_Sink (hr.mono (by decide)) (Sg 5 rfl)))) pss_nil)
      (pss_cons (ps_if (pt_of (o_eq (K := K) rfl hU) (nv S 0) pe_str) (pss_one (ps_ret (c_make0 C_Both (hr.mono (by decide)) (Sg 4 rfl)))) pss_nil)
      (pss_cons (ps_if (pt_of (o_eq (K := K) rfl hU) (nv S 0) pe_str) (pss_one (ps_ret (c_make0 C_Either (hr.mono (by decide)) (Sg 3 rfl)))) pss_nil)
      (pss_cons (ps_if (pt_of (o_eq (K := K) rfl hU) (nv S 0) pe_str) (pss_one (ps_ret (c_make0 C_Odd (hr.mono (by decide)) (Sg 2 rfl)))) pss_nil)
      (pss_cons (ps_if (pt_of (o_eq (K := K) rfl hU) (nv S 0) pe_str) (pss_one (ps_ret (c_make0 C_Plus (hr.mono (by decide)) (Sg 1 rfl)))) pss_nil)
      (pss_cons (ps_if (pt_of (o_eq (K := K) rfl hU) (nv S 0) pe_str) (pss_one (ps_ret (c_make0 C_Pick (hr.mono (by decide)) (Sg 0 rfl)))) pss_nil)
      (pss_one (ps_ret pe_non))))))))), ?_⟩
    show (_ : TS) _ [some (.str z)] H
    simp only [tMk, tRet, tCB, tCons, tNil, tSeq, tIfS, tAsg, gName, tV, List.getElem?_cons_zero, List.getElem?_cons_succ, List.set_cons_zero, List.set_cons_succ, tC, tOp, e_tst, e_isB, e_tru, e_truB, e_truI, e_truN, tSp, tDrop, tNext, tNot, tOr, tAnd, tIf, e_eqI, e_eqS, e_neI, e_neS, e_eqNI, e_i0, e_i2, e_addI, e_addS, e_mulI, e_ixS, e_ixL, e_lenS, e_strI, e_intS, e_min, if_true, Bool.false_eq_true, if_false]
    unfold plainKind at k
    refine ite2 (fun h => ?_) (fun h => ?_)
    · rw [if_pos (of_decide_eq_true h)] at k
      exact mk_kind (kd := .src) (ok _) k
    rw [if_neg (of_decide_eq_false (Bool.eq_false_iff.mpr h))] at k
    refine ite2 (fun h => ?_) (fun h => ?_)
    · rw [if_pos (of_decide_eq_true h)] at k
      exact mk_kind (kd := .snk) (ok _) k
    rw [if_neg (of_decide_eq_false (Bool.eq_false_iff.mpr h))] at k
    refine ite2 (fun h => ?_) (fun h => ?_)
    · rw [if_pos (of_decide_eq_true h)] at k
      exact mk_kind (kd := .both) (ok _) k
    rw [if_neg (of_decide_eq_false (Bool.eq_false_iff.mpr h))] at k
    refine ite2 (fun h => ?_) (fun h => ?_)
    · rw [if_pos (of_decide_eq_true h)] at k
      exact mk_kind (kd := .either) (ok _) k
    rw [if_neg (of_decide_eq_false (Bool.eq_false_iff.mpr h))] at k
    refine ite2 (fun h => ?_) (fun h => ?_)
    · rw [if_pos (of_decide_eq_true h)] at k
      exact mk_kind (kd := .odd) (ok _) k
    rw [if_neg (of_decide_eq_false (Bool.eq_false_iff.mpr h))] at k
    refine ite2 (fun h => ?_) (fun h => ?_)
    · rw [if_pos (of_decide_eq_true h)] at k
      exact mk_kind (kd := .plus) (ok _) k
    rw [if_neg (of_decide_eq_false (Bool.eq_false_iff.mpr h))] at k
    refine ite2 (fun h => ?_) (fun h => ?_)
    · rw [if_pos (of_decide_eq_true h)] at k
      exact mk_kind (kd := .pick) (ok _) k
    rw [if_neg (of_decide_eq_false (Bool.eq_false_iff.mpr h))] at k
    exact k H Same.rfl'
abbrev s_shifting_kind : Stmt := top 17
theorem sc_shifting_kind : FnSc ["word", "count"] ["word", "count"] ["Down", "Up"] (defScope s_shifting_kind) := ⟨⟨rfl, rfl, rfl, by decide +kernel, rfl, by decide +kernel, by decide +kernel⟩, by decide +kernel, by decide +kernel, by decide +kernel⟩
theorem ok_shifting_kind {f : Addr} {fd : FuncData} (F : Fun K "shifting_kind" "shifting_kind" s_shifting_kind f fd) (ok : ∀ kd, ClsOk K (c.of kd)) (C_Up : Mkr P w K mg base 2 "Up" c.up ["self", "count"] (spUp K)) (C_Down : Mkr P w K mg base 2 "Down" c.down ["self", "count"] (spDown K)) : FnOk P w K mg base CX0 4 f fd ["word", "count"] (spShift c) := by
  refine F.ok sc_shifting_kind.S (fun vs H Q E h => ?_) (fun cdv A outer s H vs Q E hr h => ?_)
  · obtain ⟨z, n, rfl, _⟩ := h
    rfl
  · obtain ⟨z, n, rfl, h1, h2, k⟩ := h
    have S := sc_shifting_kind.sx (CX := CX0) (P := P) (w := w) (K := K) (mg := mg) (base := base) (qual := "shifting_kind") (f := f) (cd := cdv) (A := A) (outer := outer) (s := s) (H := H) (E := E)
    have Sg := fun i {x} h => sc_shifting_kind.gx (CX := CX0) (P := P) (w := w) (K := K) (mg := mg) (base := base) (qual := "shifting_kind") (f := f) (cd := cdv) (A := A) (outer := outer) (s := s) (H := H) (E := E) i (x := x) h
    have hU := hr.units
    refine ⟨_, (pss_cons (ps_if (pt_of (o_eq (K := K) rfl hU) (nv S 0) pe_str) (pss_one (ps_ret (c_make C_Up (hr.mono (by decide)) (Sg 1 rfl) (pa_cons (nv S 1) pa_nil)))) pss_nil)
      (pss_cons (ps_if (pt_of (o_eq (K := K) rfl hU) (nv S 0) pe_str) (pss_one (ps_ret (c_make C_Down (hr.mono (by decide)) (Sg 0 rfl) (pa_cons (nv S 1) pa_nil)))) pss_nil)
      (pss_one (ps_ret pe_non)))), ?_⟩
    show (_ : TS) _ [some (.str z), some (.int n)] H
    simp only [tMk, tRet, tCB, tCons, tNil, tSeq, tIfS, tAsg, gName, tV, List.getElem?_cons_zero, List.getElem?_cons_succ, List.set_cons_zero, List.set_cons_succ, tC, tOp, e_tst, e_isB, e_tru, e_truB, e_truI, e_truN, tSp, tDrop, tNext, tNot, tOr, tAnd, tIf, e_eqI, e_eqS, e_neI, e_neS, e_eqNI, e_i0, e_i2, e_addI, e_addS, e_mulI, e_ixS, e_ixL, e_lenS, e_strI, e_intS, e_min, if_true, Bool.false_eq_true, if_false]
    unfold shiftKind at k
    refine ite2 (fun h => ?_) (fun h => ?_)
    · rw [if_pos (of_decide_eq_true h)] at k
      exact fun x dx nx nd ne => ⟨n, h1, h2, mk_kind (kd := .up n) (ok _) k x dx nx nd ne⟩
    rw [if_neg (of_decide_eq_false (Bool.eq_false_iff.mpr h))] at k
    refine ite2 (fun h => ?_) (fun h => ?_)
    · rw [if_pos (of_decide_eq_true h)] at k
      exact fun x dx nx nd ne => ⟨n, h1, h2, mk_kind (kd := .down n) (ok _) k x dx nx nd ne⟩
    rw [if_neg (of_decide_eq_false (Bool.eq_false_iff.mpr h))] at k
    exact k H Same.rfl'
abbrev s_kind_by : Stmt := top 18
theorem sc_kind_by : FnSc ["word", "pieces", "count"] ["word"] ["shifting_kind", "number_by", "MOST_PLACES", "plain_kind"] (defScope s_kind_by) := ⟨⟨rfl, rfl, rfl, by decide +kernel, rfl, by decide +kernel, by decide +kernel⟩, by decide +kernel, by decide +kernel, by decide +kernel⟩
theorem ok_kind_by {f : Addr} {fd : FuncData} (F : Fun K "kind_by" "kind_by" s_kind_by f fd) (C_plain_kind : Cal P w K mg base 4 "plain_kind" ["word"] (spPlain c)) (C_shifting_kind : Cal P w K mg base 4 "shifting_kind" ["word", "count"] (spShift c)) (C_number_by : Cal P w K mg base 2 "number_by" ["word", "most"] spNumberBy) {uM : Value} (v_MOST_PLACES : mg "MOST_PLACES" = some uM ∧ RelV (.int 63) uM) : FnOk P w K mg base CX0 5 f fd ["word"] (spKindBy c) := by
  refine F.ok sc_kind_by.S (fun vs H Q E h => ?_) (fun cdv A outer s H vs Q E hr h => ?_)
  · obtain ⟨z, rfl, _⟩ := h
    rfl
  · obtain ⟨z, rfl, hz, k⟩ := h
    have S := sc_kind_by.sx (CX := CX0) (P := P) (w := w) (K := K) (mg := mg) (base := base) (qual := "kind_by") (f := f) (cd := cdv) (A := A) (outer := outer) (s := s) (H := H) (E := E)
    have Sg := fun i {x} h => sc_kind_by.gx (CX := CX0) (P := P) (w := w) (K := K) (mg := mg) (base := base) (qual := "kind_by") (f := f) (cd := cdv) (A := A) (outer := outer) (s := s) (H := H) (E := E) i (x := x) h
    have hU := hr.units
    refine ⟨_, (pss_cons (ps_st S 1 (m_partition (nv S 0) (pa_cons pe_str pa_nil)))
      (pss_cons (ps_if (pt_of (o_eq (K := K) rfl hU) (pe_ix (o_ix (K := K)) (nv S 1) pe_int (fun _ _ => rfl)) pe_str) (pss_one (ps_ret (c_call C_plain_kind (hr.mono (by decide)) (Sg 3 rfl) (pa_cons (nv S 0) pa_nil)))) pss_nil)
      (pss_cons (ps_st S 2 (c_call C_number_by (hr.mono (by decide)) (Sg 1 rfl) (pa_cons (pe_ix (o_ix (K := K)) (nv S 1) pe_int (fun _ _ => rfl)) (pa_cons (g_val (Sg 2 rfl) v_MOST_PLACES.1 v_MOST_PLACES.2) pa_nil))))
      (pss_cons (ps_if (PW.pt (pw_or (pt_of o_is (nv S 2) pe_non) (pw_or1 (pt_of (o_eq (K := K) rfl hU) (nv S 2) pe_int)))) (pss_one (ps_ret pe_non)) pss_nil)
      (pss_one (ps_ret (c_call C_shifting_kind (hr.mono (by decide)) (Sg 0 rfl) (pa_cons (pe_ix (o_ix (K := K)) (nv S 1) pe_int (fun _ _ => rfl)) (pa_cons (nv S 2) pa_nil))))))))), ?_⟩
    show (_ : TS) _ [some (.str z), none, none] H
    simp only [e_bmS, e_bmSS, e_part, tRet, tCB, tCons, tNil, tSeq, tIfS, tAsg, gName, tV, List.getElem?_cons_zero, List.getElem?_cons_succ, List.set_cons_zero, List.set_cons_succ, tC, tOp, e_tst, e_isB, e_tru, e_truB, e_truI, e_truN, tSp, tDrop, tNext, tNot, tOr, tAnd, tIf, e_eqI, e_eqS, e_neI, e_neS, e_eqNI, e_i0, e_i2, e_addI, e_addS, e_mulI, e_ixS, e_ixL, e_lenS, e_strI, e_intS, e_min, if_true, Bool.false_eq_true, if_false]
    refine ⟨⟨by decide +kernel, Nat.le_trans hz (by decide)⟩, fun p hp => ?_⟩
    have s1 : Same H (upd H p (.tup [.str (Txt.partition z ":").1, .str (Txt.partition z ":").2.1, .str (Txt.partition z ":").2.2])) := fun b o e => by rw [upd_ne (ne_of_none e hp)]; exact e
    have ht : upd H p (.tup [.str (Txt.partition z ":").1, .str (Txt.partition z ":").2.1, .str (Txt.partition z ":").2.2]) p = some (.tup [.str (Txt.partition z ":").1, .str (Txt.partition z ":").2.1, .str (Txt.partition z ":").2.2]) := upd_same
    generalize upd H p (.tup [.str (Txt.partition z ":").1, .str (Txt.partition z ":").2.1, .str (Txt.partition z ":").2.2]) = H1 at s1 ht
    refine ⟨_, _, .inr (SqT.of ht), atI_nat (j := 1) rfl, ?_⟩
    simp only [e_eqS, e_isB]
    refine ite2 (fun h => ?_) (fun h => ?_)
    · have e : kindBy z = plainKind z := by unfold kindBy; rw [if_pos (of_decide_eq_true h)]
      rw [e] at k
      exact ⟨z, rfl, k.mono s1⟩
    have h := of_decide_eq_false (Bool.eq_false_iff.mpr h)
    refine ⟨_, _, .inr (SqT.of ht), atI_nat (j := 2) rfl, ?_⟩
    refine ⟨_, 63, rfl, Nat.le_trans (part_len z) hz, by decide, by decide, fun H2 s2 => ⟨trivial, ?_⟩⟩
    unfold kindBy at k
    rw [if_neg h] at k
    cases en : numberBy (Txt.partition z ":").2.2 63 with
    | none =>
      rw [en] at k
      rw [if_pos (by rfl)]
      exact k H2 (s1.trans s2)
    | some n =>
      rw [en] at k
      obtain ⟨b0, b1⟩ := numberBy_le en
      rw [if_neg (by simp [numV])]
      simp only [numV, e_eqI, e_isB]
      refine ite2 (fun g => ?_) (fun g => ?_)
      · have k : KRes c H Q (if n = 0 then none else shiftKind (Txt.partition z ":").1 n) := k
        rw [if_pos (of_decide_eq_true g)] at k
        exact k H2 (s1.trans s2)
      · have g := of_decide_eq_false (Bool.eq_false_iff.mpr g)
        have k : KRes c H Q (if n = 0 then none else shiftKind (Txt.partition z ":").1 n) := k
        rw [if_neg g] at k
        exact ⟨_, _, .inr (SqT.of (s2 _ _ ht)), atI_nat (j := 0) rfl, _, n, rfl, by omega, b1, k.mono (s1.trans s2)⟩
abbrev s_Both_made : Stmt := inClass (top 9) 1
theorem sc_Both_made : FnSc ["self", "numbers", "width"] ["self", "numbers", "width"] [] (defScope s_Both_made) := ⟨⟨rfl, rfl, rfl, by decide +kernel, rfl, by decide +kernel, by decide +kernel⟩, by decide +kernel, by decide +kernel, by decide +kernel⟩
theorem ok_Both_made {f : Addr} {fd : FuncData} (F : Fun K "made" "Both.made" s_Both_made f fd)  : FnOk P w K mg base CX0 1 f fd ["self", "numbers", "width"] (spMade K .both) := by
  refine F.ok sc_Both_made.S (fun vs H Q E h => ?_) (fun cdv A outer s H vs Q E hr h => ?_)
  · obtain ⟨p, l, wd, ns, C, dx, rfl, _⟩ := h
    rfl
  · obtain ⟨p, l, wd, ns, C, dx, rfl, hp, cok, hq, hl, hn, w1, w2, k⟩ := h
    have S := sc_Both_made.sx (CX := CX0) (P := P) (w := w) (K := K) (mg := mg) (base := base) (qual := "Both.made") (f := f) (cd := cdv) (A := A) (outer := outer) (s := s) (H := H) (E := E)
    have hU := hr.units
    refine ⟨_, (pss_one (ps_ret (pe_op o_and (pe_ix (o_ix (K := K)) (nv S 1) pe_int (fun _ _ => rfl)) (pe_ix (o_ix (K := K)) (nv S 1) pe_int (fun _ _ => rfl))))), ?_⟩
    show (_ : TS) _ [some (.ref p), some (.ref l), some (.int wd)] H
    obtain ⟨a, b, rfl⟩ : ∃ a b, ns = [a, b] := by
      match ns, hl with
      | [a, b], _ => exact ⟨a, b, rfl⟩
    simp only [tRet, tCB, tCons, tNil, tSeq, tIfS, tAsg, gName, tV, List.getElem?_cons_zero, List.getElem?_cons_succ, List.set_cons_zero, List.set_cons_succ, tC, tOp, e_tst, e_isB, e_tru, e_truB, e_truI, e_truN, tSp, tDrop, tNext, tNot, tOr, tAnd, tIf, e_eqI, e_eqS, e_neI, e_neS, e_eqNI, e_i0, e_i2, e_addI, e_addS, e_mulI, e_ixS, e_ixL, e_lenS, e_strI, e_intS, e_min, if_true, Bool.false_eq_true, if_false]
    refine ⟨_, _, .inl hq, atI_nat (j := 0) rfl, ?_⟩
    refine ⟨_, _, .inl hq, atI_nat (j := 1) rfl, ?_⟩
    simp only [e_i0, e_i2, e_addI, e_mulI]
    exact k
abbrev s_Either_made : Stmt := inClass (top 10) 1
theorem sc_Either_made : FnSc ["self", "numbers", "width"] ["self", "numbers", "width"] [] (defScope s_Either_made) := ⟨⟨rfl, rfl, rfl, by decide +kernel, rfl, by decide +kernel, by decide +kernel⟩, by decide +kernel, by decide +kernel, by decide +kernel⟩
theorem ok_Either_made {f : Addr} {fd : FuncData} (F : Fun K "made" "Either.made" s_Either_made f fd)  : FnOk P w K mg base CX0 1 f fd ["self", "numbers", "width"] (spMade K .either) := by
  refine F.ok sc_Either_made.S (fun vs H Q E h => ?_) (fun cdv A outer s H vs Q E hr h => ?_)
  · obtain ⟨p, l, wd, ns, C, dx, rfl, _⟩ := h
    rfl
  · obtain ⟨p, l, wd, ns, C, dx, rfl, hp, cok, hq, hl, hn, w1, w2, k⟩ := h
    have S := sc_Either_made.sx (CX := CX0) (P := P) (w := w) (K := K) (mg := mg) (base := base) (qual := "Either.made") (f := f) (cd := cdv) (A := A) (outer := outer) (s := s) (H := H) (E := E)
    have hU := hr.units
    refine ⟨_, (pss_one (ps_ret (pe_op o_or (pe_ix (o_ix (K := K)) (nv S 1) pe_int (fun _ _ => rfl)) (pe_ix (o_ix (K := K)) (nv S 1) pe_int (fun _ _ => rfl))))), ?_⟩
    show (_ : TS) _ [some (.ref p), some (.ref l), some (.int wd)] H
    obtain ⟨a, b, rfl⟩ : ∃ a b, ns = [a, b] := by
      match ns, hl with
      | [a, b], _ => exact ⟨a, b, rfl⟩
    simp only [tRet, tCB, tCons, tNil, tSeq, tIfS, tAsg, gName, tV, List.getElem?_cons_zero, List.getElem?_cons_succ, List.set_cons_zero, List.set_cons_succ, tC, tOp, e_tst, e_isB, e_tru, e_truB, e_truI, e_truN, tSp, tDrop, tNext, tNot, tOr, tAnd, tIf, e_eqI, e_eqS, e_neI, e_neS, e_eqNI, e_i0, e_i2, e_addI, e_addS, e_mulI, e_ixS, e_ixL, e_lenS, e_strI, e_intS, e_min, if_true, Bool.false_eq_true, if_false]
    refine ⟨_, _, .inl hq, atI_nat (j := 0) rfl, ?_⟩
    refine ⟨_, _, .inl hq, atI_nat (j := 1) rfl, ?_⟩
    simp only [e_i0, e_i2, e_addI, e_mulI]
    exact k
abbrev s_Odd_made : Stmt := inClass (top 11) 1
theorem sc_Odd_made : FnSc ["self", "numbers", "width"] ["self", "numbers", "width"] [] (defScope s_Odd_made) := ⟨⟨rfl, rfl, rfl, by decide +kernel, rfl, by decide +kernel, by decide +kernel⟩, by decide +kernel, by decide +kernel, by decide +kernel⟩
theorem ok_Odd_made {f : Addr} {fd : FuncData} (F : Fun K "made" "Odd.made" s_Odd_made f fd)  : FnOk P w K mg base CX0 1 f fd ["self", "numbers", "width"] (spMade K .odd) := by
  refine F.ok sc_Odd_made.S (fun vs H Q E h => ?_) (fun cdv A outer s H vs Q E hr h => ?_)
  · obtain ⟨p, l, wd, ns, C, dx, rfl, _⟩ := h
    rfl
  · obtain ⟨p, l, wd, ns, C, dx, rfl, hp, cok, hq, hl, hn, w1, w2, k⟩ := h
    have S := sc_Odd_made.sx (CX := CX0) (P := P) (w := w) (K := K) (mg := mg) (base := base) (qual := "Odd.made") (f := f) (cd := cdv) (A := A) (outer := outer) (s := s) (H := H) (E := E)
    have hU := hr.units
    refine ⟨_, (pss_one (ps_ret (pe_op o_xor (pe_ix (o_ix (K := K)) (nv S 1) pe_int (fun _ _ => rfl)) (pe_ix (o_ix (K := K)) (nv S 1) pe_int (fun _ _ => rfl))))), ?_⟩
    show (_ : TS) _ [some (.ref p), some (.ref l), some (.int wd)] H
    obtain ⟨a, b, rfl⟩ : ∃ a b, ns = [a, b] := by
      match ns, hl with
      | [a, b], _ => exact ⟨a, b, rfl⟩
    simp only [tRet, tCB, tCons, tNil, tSeq, tIfS, tAsg, gName, tV, List.getElem?_cons_zero, List.getElem?_cons_succ, List.set_cons_zero, List.set_cons_succ, tC, tOp, e_tst, e_isB, e_tru, e_truB, e_truI, e_truN, tSp, tDrop, tNext, tNot, tOr, tAnd, tIf, e_eqI, e_eqS, e_neI, e_neS, e_eqNI, e_i0, e_i2, e_addI, e_addS, e_mulI, e_ixS, e_ixL, e_lenS, e_strI, e_intS, e_min, if_true, Bool.false_eq_true, if_false]
    refine ⟨_, _, .inl hq, atI_nat (j := 0) rfl, ?_⟩
    refine ⟨_, _, .inl hq, atI_nat (j := 1) rfl, ?_⟩
    simp only [e_i0, e_i2, e_addI, e_mulI]
    exact k
abbrev s_Sink_made : Stmt := inClass (top 8) 1
theorem sc_Sink_made : FnSc ["self", "numbers", "width"] ["self", "numbers", "width"] [] (defScope s_Sink_made) := ⟨⟨rfl, rfl, rfl, by decide +kernel, rfl, by decide +kernel, by decide +kernel⟩, by decide +kernel, by decide +kernel, by decide +kernel⟩
theorem ok_Sink_made {f : Addr} {fd : FuncData} (F : Fun K "made" "Sink.made" s_Sink_made f fd)  : FnOk P w K mg base CX0 1 f fd ["self", "numbers", "width"] (spMade K .snk) := by
  refine F.ok sc_Sink_made.S (fun vs H Q E h => ?_) (fun cdv A outer s H vs Q E hr h => ?_)
  · obtain ⟨p, l, wd, ns, C, dx, rfl, _⟩ := h
    rfl
  · obtain ⟨p, l, wd, ns, C, dx, rfl, hp, cok, hq, hl, hn, w1, w2, k⟩ := h
    have S := sc_Sink_made.sx (CX := CX0) (P := P) (w := w) (K := K) (mg := mg) (base := base) (qual := "Sink.made") (f := f) (cd := cdv) (A := A) (outer := outer) (s := s) (H := H) (E := E)
    have hU := hr.units
    refine ⟨_, (pss_one (ps_ret (pe_ix (o_ix (K := K)) (nv S 1) pe_int (fun _ _ => rfl)))), ?_⟩
    show (_ : TS) _ [some (.ref p), some (.ref l), some (.int wd)] H
    obtain ⟨a, rfl⟩ : ∃ a, ns = [a] := by
      match ns, hl with
      | [a], _ => exact ⟨a, rfl⟩
    simp only [tRet, tCB, tCons, tNil, tSeq, tIfS, tAsg, gName, tV, List.getElem?_cons_zero, List.getElem?_cons_succ, List.set_cons_zero, List.set_cons_succ, tC, tOp, e_tst, e_isB, e_tru, e_truB, e_truI, e_truN, tSp, tDrop, tNext, tNot, tOr, tAnd, tIf, e_eqI, e_eqS, e_neI, e_neS, e_eqNI, e_i0, e_i2, e_addI, e_addS, e_mulI, e_ixS, e_ixL, e_lenS, e_strI, e_intS, e_min, if_true, Bool.false_eq_true, if_false]
    refine ⟨_, _, .inl hq, atI_nat (j := 0) rfl, ?_⟩
    exact k
abbrev s_Plus_made : Stmt := inClass (top 12) 1
theorem sc_Plus_made : FnSc ["self", "numbers", "width"] ["self", "numbers", "width"] [] (defScope s_Plus_made) := ⟨⟨rfl, rfl, rfl, by decide +kernel, rfl, by decide +kernel, by decide +kernel⟩, by decide +kernel, by decide +kernel, by decide +kernel⟩
theorem ok_Plus_made {f : Addr} {fd : FuncData} (F : Fun K "made" "Plus.made" s_Plus_made f fd)  : FnOk P w K mg base CX0 1 f fd ["self", "numbers", "width"] (spMade K .plus) := by
  refine F.ok sc_Plus_made.S (fun vs H Q E h => ?_) (fun cdv A outer s H vs Q E hr h => ?_)
  · obtain ⟨p, l, wd, ns, C, dx, rfl, _⟩ := h
    rfl
  · obtain ⟨p, l, wd, ns, C, dx, rfl, hp, cok, hq, hl, hn, w1, w2, k⟩ := h
    have S := sc_Plus_made.sx (CX := CX0) (P := P) (w := w) (K := K) (mg := mg) (base := base) (qual := "Plus.made") (f := f) (cd := cdv) (A := A) (outer := outer) (s := s) (H := H) (E := E)
    have hU := hr.units
    refine ⟨_, (pss_one (ps_ret (pe_op o_mod (pe_op o_add (pe_ix (o_ix (K := K)) (nv S 1) pe_int (fun _ _ => rfl)) (pe_ix (o_ix (K := K)) (nv S 1) pe_int (fun _ _ => rfl))) (pe_op o_shl pe_int (nv S 2))))), ?_⟩
    show (_ : TS) _ [some (.ref p), some (.ref l), some (.int wd)] H
    obtain ⟨a, b, rfl⟩ : ∃ a b, ns = [a, b] := by
      match ns, hl with
      | [a, b], _ => exact ⟨a, b, rfl⟩
    simp only [tRet, tCB, tCons, tNil, tSeq, tIfS, tAsg, gName, tV, List.getElem?_cons_zero, List.getElem?_cons_succ, List.set_cons_zero, List.set_cons_succ, tC, tOp, e_tst, e_isB, e_tru, e_truB, e_truI, e_truN, tSp, tDrop, tNext, tNot, tOr, tAnd, tIf, e_eqI, e_eqS, e_neI, e_neS, e_eqNI, e_i0, e_i2, e_addI, e_addS, e_mulI, e_ixS, e_ixL, e_lenS, e_strI, e_intS, e_min, if_true, Bool.false_eq_true, if_false]
    refine ⟨_, _, .inl hq, atI_nat (j := 0) rfl, ?_⟩
    refine ⟨_, _, .inl hq, atI_nat (j := 1) rfl, ?_⟩
    simp only [e_i0, e_i2, e_addI, e_mulI]
    exact ⟨pow_ok w1 w2, pow_pos' wd, k⟩
abbrev s_Pick_made : Stmt := inClass (top 13) 1
theorem sc_Pick_made : FnSc ["self", "numbers", "width"] ["self", "numbers", "width"] [] (defScope s_Pick_made) := ⟨⟨rfl, rfl, rfl, by decide +kernel, rfl, by decide +kernel, by decide +kernel⟩, by decide +kernel, by decide +kernel, by decide +kernel⟩
theorem ok_Pick_made {f : Addr} {fd : FuncData} (F : Fun K "made" "Pick.made" s_Pick_made f fd)  : FnOk P w K mg base CX0 1 f fd ["self", "numbers", "width"] (spMade K .pick) := by
  refine F.ok sc_Pick_made.S (fun vs H Q E h => ?_) (fun cdv A outer s H vs Q E hr h => ?_)
  · obtain ⟨p, l, wd, ns, C, dx, rfl, _⟩ := h
    rfl
  · obtain ⟨p, l, wd, ns, C, dx, rfl, hp, cok, hq, hl, hn, w1, w2, k⟩ := h
    have S := sc_Pick_made.sx (CX := CX0) (P := P) (w := w) (K := K) (mg := mg) (base := base) (qual := "Pick.made") (f := f) (cd := cdv) (A := A) (outer := outer) (s := s) (H := H) (E := E)
    have hU := hr.units
    refine ⟨_, (pss_one (ps_ret (pe_ifExp (pt_of (o_ne (K := K) rfl hU) (pe_ix (o_ix (K := K)) (nv S 1) pe_int (fun _ _ => rfl)) pe_int) (pe_ix (o_ix (K := K)) (nv S 1) pe_int (fun _ _ => rfl)) (pe_ix (o_ix (K := K)) (nv S 1) pe_int (fun _ _ => rfl))))), ?_⟩
    show (_ : TS) _ [some (.ref p), some (.ref l), some (.int wd)] H
    obtain ⟨a, b, d, rfl⟩ : ∃ a b d, ns = [a, b, d] := by
      match ns, hl with
      | [a, b, d], _ => exact ⟨a, b, d, rfl⟩
    simp only [tRet, tCB, tCons, tNil, tSeq, tIfS, tAsg, gName, tV, List.getElem?_cons_zero, List.getElem?_cons_succ, List.set_cons_zero, List.set_cons_succ, tC, tOp, e_tst, e_isB, e_tru, e_truB, e_truI, e_truN, tSp, tDrop, tNext, tNot, tOr, tAnd, tIf, e_eqI, e_eqS, e_neI, e_neS, e_eqNI, e_i0, e_i2, e_addI, e_addS, e_mulI, e_ixS, e_ixL, e_lenS, e_strI, e_intS, e_min, if_true, Bool.false_eq_true, if_false]
    refine ⟨_, _, .inl hq, atI_nat (j := 0) rfl, ?_⟩
    simp only [e_neI, e_isB]
    refine ite2 (fun h => ?_) (fun h => ?_)
    · have h : ¬ a = 0 := by simpa using h
      refine ⟨_, _, .inl hq, atI_nat (j := 1) rfl, ?_⟩
      have e : madeK .pick wd [a, b, d] = b := by show (if a = 0 then d else b) = b; rw [if_neg h]
      rw [e] at k
      exact k
    · have h : a = 0 := by simpa using h
      refine ⟨_, _, .inl hq, atI_nat (j := 2) rfl, ?_⟩
      have e : madeK .pick wd [a, b, d] = d := by show (if a = 0 then d else b) = d; rw [if_pos h]
      rw [e] at k
      exact k
abbrev s_Up_made : Stmt := inClass (top 14) 1
theorem sc_Up_made : FnSc ["self", "numbers", "width"] ["self", "numbers", "width"] [] (defScope s_Up_made) := ⟨⟨rfl, rfl, rfl, by decide +kernel, rfl, by decide +kernel, by decide +kernel⟩, by decide +kernel, by decide +kernel, by decide +kernel⟩
theorem ok_Up_made {f : Addr} {fd : FuncData} (F : Fun K "made" "Up.made" s_Up_made f fd)  : FnOk P w K mg base CX0 1 f fd ["self", "numbers", "width"] (spUpMade K) := by
  refine F.ok sc_Up_made.S (fun vs H Q E h => ?_) (fun cdv A outer s H vs Q E hr h => ?_)
  · obtain ⟨n, _, _, p, l, wd, ns, C, dx, rfl, _⟩ := h
    rfl
  · obtain ⟨n, n1, n2, p, l, wd, ns, C, dx, rfl, hp, cok, hq, hl, hn, w1, w2, k⟩ := h
    have S := sc_Up_made.sx (CX := CX0) (P := P) (w := w) (K := K) (mg := mg) (base := base) (qual := "Up.made") (f := f) (cd := cdv) (A := A) (outer := outer) (s := s) (H := H) (E := E)
    have hU := hr.units
    refine ⟨_, (pss_one (ps_ret (pe_op o_mod (pe_op o_shl (pe_ix (o_ix (K := K)) (nv S 1) pe_int (fun _ _ => rfl)) (pe_fd (K := K) rfl (nv S 0))) (pe_op o_shl pe_int (nv S 2))))), ?_⟩
    show (_ : TS) _ [some (.ref p), some (.ref l), some (.int wd)] H
    obtain ⟨a, rfl⟩ : ∃ a, ns = [a] := by
      match ns, hl with
      | [a], _ => exact ⟨a, rfl⟩
    simp only [tRet, tCB, tCons, tNil, tSeq, tIfS, tAsg, gName, tV, List.getElem?_cons_zero, List.getElem?_cons_succ, List.set_cons_zero, List.set_cons_succ, tC, tOp, e_tst, e_isB, e_tru, e_truB, e_truI, e_truN, tSp, tDrop, tNext, tNot, tOr, tAnd, tIf, e_eqI, e_eqS, e_neI, e_neS, e_eqNI, e_i0, e_i2, e_addI, e_addS, e_mulI, e_ixS, e_ixL, e_lenS, e_strI, e_intS, e_min, if_true, Bool.false_eq_true, if_false]
    refine ⟨_, _, .inl hq, atI_nat (j := 0) rfl, ?_⟩
    refine ⟨p, C, dx, _, .int n, rfl, hp, cok.cl, cok.nC, by unfold flds; rw [lookup_putF, if_pos rfl], ?_⟩
    simp only [e_i0, e_i2, e_addI, e_mulI]
    exact ⟨shl_ok n1 n2 (hn a (by simp)), pow_ok w1 w2, pow_pos' wd, k⟩
abbrev s_Down_made : Stmt := inClass (top 15) 1
theorem sc_Down_made : FnSc ["self", "numbers", "width"] ["self", "numbers", "width"] [] (defScope s_Down_made) := ⟨⟨rfl, rfl, rfl, by decide +kernel, rfl, by decide +kernel, by decide +kernel⟩, by decide +kernel, by decide +kernel, by decide +kernel⟩
theorem ok_Down_made {f : Addr} {fd : FuncData} (F : Fun K "made" "Down.made" s_Down_made f fd)  : FnOk P w K mg base CX0 1 f fd ["self", "numbers", "width"] (spDownMade K) := by
  refine F.ok sc_Down_made.S (fun vs H Q E h => ?_) (fun cdv A outer s H vs Q E hr h => ?_)
  · obtain ⟨n, _, _, p, l, wd, ns, C, dx, rfl, _⟩ := h
    rfl
  · obtain ⟨n, n1, n2, p, l, wd, ns, C, dx, rfl, hp, cok, hq, hl, hn, w1, w2, k⟩ := h
    have S := sc_Down_made.sx (CX := CX0) (P := P) (w := w) (K := K) (mg := mg) (base := base) (qual := "Down.made") (f := f) (cd := cdv) (A := A) (outer := outer) (s := s) (H := H) (E := E)
    have hU := hr.units
    refine ⟨_, (pss_one (ps_ret (pe_op o_shr (pe_ix (o_ix (K := K)) (nv S 1) pe_int (fun _ _ => rfl)) (pe_fd (K := K) rfl (nv S 0))))), ?_⟩
    show (_ : TS) _ [some (.ref p), some (.ref l), some (.int wd)] H
    obtain ⟨a, rfl⟩ : ∃ a, ns = [a] := by
      match ns, hl with
      | [a], _ => exact ⟨a, rfl⟩
    simp only [tRet, tCB, tCons, tNil, tSeq, tIfS, tAsg, gName, tV, List.getElem?_cons_zero, List.getElem?_cons_succ, List.set_cons_zero, List.set_cons_succ, tC, tOp, e_tst, e_isB, e_tru, e_truB, e_truI, e_truN, tSp, tDrop, tNext, tNot, tOr, tAnd, tIf, e_eqI, e_eqS, e_neI, e_neS, e_eqNI, e_i0, e_i2, e_addI, e_addS, e_mulI, e_ixS, e_ixL, e_lenS, e_strI, e_intS, e_min, if_true, Bool.false_eq_true, if_false]
    refine ⟨_, _, .inl hq, atI_nat (j := 0) rfl, ?_⟩
    refine ⟨p, C, dx, _, .int n, rfl, hp, cok.cl, cok.nC, by unfold flds; rw [lookup_putF, if_pos rfl], ?_⟩
    simp only [e_i0, e_i2, e_addI, e_mulI]
    exact ⟨by omega, k⟩
end
end K1

end
section
set_option maxRecDepth 100000
set_option maxHeartbeats 1000000
namespace K1
open PySem L2
theorem bit_step (x k : Nat) : x % 2 ^ (k + 1) = x % 2 ^ k + 2 ^ k * (x / 2 ^ k % 2) := by
  rw [Nat.pow_succ, Nat.mod_mul]
theorem tb (x k : Nat) : (x / 2 ^ k % 2 = 1) = (x.testBit k = true) := by
  rw [Nat.testBit_eq_decide_div_mod_eq]; simp
theorem and_bit (a b k : Nat) : (a &&& b) / 2 ^ k % 2 = if a / 2 ^ k % 2 + b / 2 ^ k % 2 = 2 then 1 else 0 := by
  have h1 := tb (a &&& b) k; have h2 := tb a k; have h3 := tb b k
  rw [Nat.testBit_and] at h1
  have m1 := Nat.mod_two_eq_zero_or_one ((a &&& b) / 2 ^ k); have m2 := Nat.mod_two_eq_zero_or_one (a / 2 ^ k); have m3 := Nat.mod_two_eq_zero_or_one (b / 2 ^ k)
  cases e1 : a.testBit k <;> cases e2 : b.testBit k <;> simp [e1, e2] at h1 h2 h3 <;> split <;> omega
theorem or_bit (a b k : Nat) : (a ||| b) / 2 ^ k % 2 = if 0 < a / 2 ^ k % 2 + b / 2 ^ k % 2 then 1 else 0 := by
  have h1 := tb (a ||| b) k; have h2 := tb a k; have h3 := tb b k
  rw [Nat.testBit_or] at h1
  have m1 := Nat.mod_two_eq_zero_or_one ((a ||| b) / 2 ^ k); have m2 := Nat.mod_two_eq_zero_or_one (a / 2 ^ k); have m3 := Nat.mod_two_eq_zero_or_one (b / 2 ^ k)
  cases e1 : a.testBit k <;> cases e2 : b.testBit k <;> simp [e1, e2] at h1 h2 h3 <;> split <;> omega
/-- the sum of bits so far -/
def tot (k x y i : Nat) : Int := match k with
  | 0 => (((x &&& y) % 2 ^ i : Nat) : Int)
  | 1 => (((x ||| y) % 2 ^ i : Nat) : Int)
  | _ => (((x ||| y) % 2 ^ i : Nat) : Int) - (((x &&& y) % 2 ^ i : Nat) : Int)
def hit (k s : Nat) : Nat := match k with
  | 0 => if s = 2 then 1 else 0
  | 1 => if 0 < s then 1 else 0
  | _ => if s = 1 then 1 else 0
theorem tot_zero (k x y : Nat) : tot k x y 0 = 0 := by
  unfold tot
  split <;> simp [Nat.mod_one]
theorem tot_step (k x y i : Nat) : tot k x y (i + 1) = tot k x y i + 2 ^ i * (hit k (x / 2 ^ i % 2 + y / 2 ^ i % 2) : Nat) := by
  have e1 := bit_step (x &&& y) i
  have e2 := bit_step (x ||| y) i
  rw [and_bit] at e1
  rw [or_bit] at e2
  have m2 := Nat.mod_two_eq_zero_or_one (x / 2 ^ i); have m3 := Nat.mod_two_eq_zero_or_one (y / 2 ^ i)
  have ep : ((2 ^ i : Nat) : Int) = (2 : Int) ^ i := by simp
  rw [← ep]
  unfold tot hit
  generalize 2 ^ i = p at *
  generalize 2 ^ (i + 1) = p2 at *
  rcases m2 with m2 | m2 <;> rcases m3 with m3 | m3 <;> rw [m2, m3] at e1 e2 ⊢ <;> simp at e1 e2 <;> split <;> simp <;> omega
theorem nat_and (x y : Nat) : Builtin.bitAnd (x : Int) (y : Int) = ((x &&& y : Nat) : Int) := by
  unfold Builtin.bitAnd
  rw [decide_eq_true (Int.natCast_nonneg x), decide_eq_true (Int.natCast_nonneg y)]
  simp
theorem nat_or (x y : Nat) : Builtin.bitOr (x : Int) (y : Int) = ((x ||| y : Nat) : Int) := by
  unfold Builtin.bitOr Builtin.bitAnd
  rw [decide_eq_false (by unfold Builtin.bitNot; omega), decide_eq_false (by unfold Builtin.bitNot; omega)]
  have e : ∀ z : Int, Builtin.bitNot (Builtin.bitNot z) = z := fun z => by unfold Builtin.bitNot; omega
  simp only [e, Int.toNat_natCast]
theorem tot_and (x y n : Nat) (hx : x < 2 ^ n) : tot 0 x y n = Builtin.bitAnd (x : Int) (y : Int) := by
  rw [nat_and]
  show (((x &&& y) % 2 ^ n : Nat) : Int) = _
  rw [Nat.mod_eq_of_lt (Nat.lt_of_le_of_lt Nat.and_le_left hx)]
theorem tot_or (x y n : Nat) (hx : x < 2 ^ n) (hy : y < 2 ^ n) : tot 1 x y n = Builtin.bitOr (x : Int) (y : Int) := by
  rw [nat_or]
  show (((x ||| y) % 2 ^ n : Nat) : Int) = _
  rw [Nat.mod_eq_of_lt (Nat.or_lt_two_pow hx hy)]
theorem tot_xor (x y n : Nat) (hx : x < 2 ^ n) (hy : y < 2 ^ n) : tot 2 x y n = Builtin.bitXor (x : Int) (y : Int) := by
  unfold Builtin.bitXor
  rw [nat_or, nat_and]
  show (((x ||| y) % 2 ^ n : Nat) : Int) - (((x &&& y) % 2 ^ n : Nat) : Int) = _
  rw [Nat.mod_eq_of_lt (Nat.or_lt_two_pow hx hy), Nat.mod_eq_of_lt (Nat.lt_of_le_of_lt Nat.and_le_left hx)]
theorem bit_at (x i : Nat) : (x : Int) / 2 ^ i % 2 = ((x / 2 ^ i % 2 : Nat) : Int) := by
  rw [Int.natCast_emod, Int.natCast_ediv]; simp
theorem pow_log (i : Nat) (h : i < 9000) : ((2 : Int) ^ i).natAbs.log2 < 9000 := by
  rw [Int.natAbs_pow]
  show (2 ^ i).log2 < 9000
  rw [Nat.log2_two_pow]
  exact h
end K1

end
section
set_option maxRecDepth 100000
set_option maxHeartbeats 4000000
set_option linter.all false
namespace K1
open PySem L2
seal L2.PE L2.PS L2.PSs L2.PT L2.PA L2.PG L2.PI L2.PW
def primesL : List Int := [1000003, 1000033, 1000037, 1000039, 1000081, 1000099, 1000117, 1000121, 1000133, 1000151, 1000159, 1000171, 1000183, 1000187, 1000193, 1000199]
def draw (cell : Int) (k : Nat) (many : Int) : Int := (cell * 48271 + (k : Int) * 69621) % primesL.getD k 1 % many
theorem primes_at {k : Nat} (h : k < 16) : ([.int 1000003, .int 1000033, .int 1000037, .int 1000039, .int 1000081, .int 1000099, .int 1000117, .int 1000121, .int 1000133, .int 1000151, .int 1000159, .int 1000171, .int 1000183, .int 1000187, .int 1000193, .int 1000199] : List V)[k]? = some (.int (primesL.getD k 1)) := by
  have e : ([.int 1000003, .int 1000033, .int 1000037, .int 1000039, .int 1000081, .int 1000099, .int 1000117, .int 1000121, .int 1000133, .int 1000151, .int 1000159, .int 1000171, .int 1000183, .int 1000187, .int 1000193, .int 1000199] : List V) = primesL.map V.int := rfl
  have hl : primesL.length = 16 := rfl
  rw [e, List.getElem?_map, List.getElem?_eq_getElem (by omega), List.getD_eq_getElem?_getD, List.getElem?_eq_getElem (by omega)]
  rfl
theorem pr_pos {k : Nat} (h : k < 16) : 0 < primesL.getD k 1 := by
  have : ∀ j : _root_.Fin 16, 0 < primesL.getD j.val 1 := by decide
  exact this ⟨k, h⟩
theorem draw_nn {cell : Int} {k : Nat} {many : Int} (hm : 0 < many) : 0 ≤ draw cell k many ∧ draw cell k many < many := ⟨Int.emod_nonneg _ (by omega), Int.emod_lt_of_pos _ hm⟩
def spDraw : Sp := fun vs H Q _ => ∃ (cell many : Int) (k : Nat), vs = [.int cell, .int (k : Nat), .int many] ∧ k < 16 ∧ 0 < many ∧ ∀ H', Same H H' → Q (.int (draw cell k many)) H'
def kdOf (k : Nat) (count : Int) : Kd := match k with
  | 0 => .both | 1 => .either | 2 => .odd | 3 => .plus | 4 => .pick | 5 => .snk | 6 => .up count | _ => .down count
def spLawMade (K : PySem.W.Frag) : Sp := fun vs H Q _ => ∃ (k : Nat) (count wd : Int) (l : Addr) (ns : List Int), vs = [.int (k : Nat), .int count, .int wd, .ref l] ∧ k < 8 ∧ 1 ≤ count ∧ count ≤ 63 ∧ 1 ≤ wd ∧ wd ≤ 64 ∧ SqL K H l (ns.map V.int) ∧ ns.length = 3 ∧
  (∀ x ∈ ns, 0 ≤ x ∧ x < 2 ^ wd.toNat) ∧ Q (.int (madeK (kdOf k count) wd ns)) H
def WInv (k : Nat) (count wd : Int) (l : Addr) (o : Option V) (x y : Nat) (H' : Hp) (i : Nat) : St → Hp → Prop := fun σ H1 => H1 = H' ∧ ∃ ones : Option V,
  σ = [some (.int (k : Nat)), some (.int count), some (.int wd), some (.ref l), some (.int (2 ^ wd.toNat)), o, some (.int (tot k x y i)), some (.int (2 ^ i)), ones, none]
theorem pow64 {n : Nat} (h : n ≤ 64) : (2 : Int) ^ n ≤ 2 ^ 64 := by
  have : 2 ^ n ≤ 2 ^ 64 := Nat.pow_le_pow_right (by decide) h
  have : ((2 ^ n : Nat) : Int) ≤ ((2 ^ 64 : Nat) : Int) := by exact_mod_cast this
  simpa using this
theorem pow_lt_of {i n : Nat} (h : (2 : Int) ^ i < 2 ^ n) : i < n := by
  have h : ((2 ^ i : Nat) : Int) < ((2 ^ n : Nat) : Int) := by simpa using h
  have h : 2 ^ i < 2 ^ n := by exact_mod_cast h
  exact (Nat.pow_lt_pow_iff_right (by decide)).mp h
theorem pow_eq_of {i n : Nat} (hi : i ≤ n) (h : ¬ (2 : Int) ^ i < 2 ^ n) : i = n := by
  rcases Nat.lt_or_ge i n with g | g
  · exfalso
    apply h
    have : 2 ^ i < 2 ^ n := (Nat.pow_lt_pow_iff_right (by decide)).mpr g
    have : ((2 ^ i : Nat) : Int) < ((2 ^ n : Nat) : Int) := by exact_mod_cast this
    simpa using this
  · omega
section
variable {P : Program} {w : World} {K : PySem.W.Frag} {mg : Str → Option Value} {base : Heap} {c : Cs}
abbrev s_law_draw : Stmt := top 20
theorem sc_law_draw : FnSc ["_law_cell", "_law_k", "_law_many", "_law_primes"] ["_law_cell", "_law_k", "_law_many"] [] (defScope s_law_draw) := ⟨⟨rfl, rfl, rfl, by decide +kernel, rfl, by decide +kernel, by decide +kernel⟩, by decide +kernel, by decide +kernel, by decide +kernel⟩
def lt_law_draw_0 : List V := [.int 1000003, .int 1000033, .int 1000037, .int 1000039, .int 1000081, .int 1000099, .int 1000117, .int 1000121, .int 1000133, .int 1000151, .int 1000159, .int 1000171, .int 1000183, .int 1000187, .int 1000193, .int 1000199]
theorem ok_law_draw {f : Addr} {fd : FuncData} (F : Fun K "_law_draw" "_law_draw" s_law_draw f fd)  : FnOk P w K mg base CX0 1 f fd ["_law_cell", "_law_k", "_law_many"] spDraw := by
  refine F.ok sc_law_draw.S (fun vs H Q E h => ?_) (fun cdv A outer s H vs Q E hr h => ?_)
  · obtain ⟨cell, many, k, rfl, _⟩ := h
    rfl
  · obtain ⟨cell, many, k, rfl, hk, hm, q⟩ := h
    have S := sc_law_draw.sx (CX := CX0) (P := P) (w := w) (K := K) (mg := mg) (base := base) (qual := "_law_draw") (f := f) (cd := cdv) (A := A) (outer := outer) (s := s) (H := H) (E := E)
    have hU := hr.units
    refine ⟨_, (pss_cons (ps_st S 3 (pe_id (t := tTup (tLits lt_law_draw_0)) ?L0))
      (pss_one (ps_ret (pe_op o_mod (pe_op o_mod (pe_op o_add (pe_op o_mul (nv S 0) pe_int) (pe_op o_mul (nv S 1) pe_int)) (pe_ix (o_ix (K := K)) (nv S 3) (pe_op o_mod (nv S 1) pe_int) (fun _ _ => rfl))) (nv S 2))))), ?_⟩
    case L0 =>
      refine pe_litT ?_
      rfl
    show (_ : TS) _ [some (.int cell), some (.int k), some (.int many), none] H
    simp only [tTup, tLits, lt_law_draw_0, tMk, tSl, tNoPart, tPart, rSlL, tAndV, tRet, tCB, tCons, tNil, tSeq, tIfS, tAsg, gName, tV, List.getElem?_cons_zero, List.getElem?_cons_succ, List.set_cons_zero, List.set_cons_succ, tC, tOp, e_tst, e_isB, e_tru, e_truB, e_truI, e_truN, tSp, tDrop, tNext, tNot, tOr, tAnd, tIf, e_eqI, e_eqS, e_neI, e_neS, e_eqNI, e_i0, e_i2, e_addI, e_addS, e_mulI, e_ixS, e_ixL, e_lenS, e_strI, e_intS, e_min, if_true, Bool.false_eq_true, if_false]
    refine ⟨by show 16 ≤ sizeLine; decide, fun p hp => ?_⟩
    refine ⟨.inr ⟨by decide, by decide⟩, .inr ⟨by decide, by decide⟩, by decide, ?_⟩
    have e16 : ((k : Nat) : Int) % 16 = ((k : Nat) : Int) := Int.emod_eq_of_lt (by omega) (by omega)
    refine ⟨_, _, .inr (SqT.of upd_same), by rw [e16]; exact atI_nat (primes_at hk), ?_⟩
    simp only [e_i2]
    refine ⟨pr_pos hk, hm, ?_⟩
    exact q _ fun b o e => by rw [upd_ne (ne_of_none e hp)]; exact e
abbrev s_law_made : Stmt := top 21
theorem sc_law_made : FnSc ["_law_which", "_law_count", "_law_width", "_law_numbers", "_law_top", "_law_k", "_law_total", "_law_bit", "_law_ones", "_law_times"] ["_law_which", "_law_count", "_law_width", "_law_numbers"] ["range"] (defScope s_law_made) := ⟨⟨rfl, rfl, rfl, by decide +kernel, rfl, by decide +kernel, by decide +kernel⟩, by decide +kernel, by decide +kernel, by decide +kernel⟩
theorem ok_law_made {f : Addr} {fd : FuncData} (F : Fun K "_law_made" "_law_made" s_law_made f fd) (n_range : mg "range" = none) : FnOk P w K mg base CX0 1 f fd ["_law_which", "_law_count", "_law_width", "_law_numbers"] (spLawMade K) := by
  refine F.ok sc_law_made.S (fun vs H Q E h => ?_) (fun cdv A outer s H vs Q E hr h => ?_)
  · obtain ⟨k, count, wd, l, ns, rfl, _⟩ := h
    rfl
  · obtain ⟨k, count, wd, l, ns, rfl, hk, c1, c2, w1, w2, hq, hl, hn, q⟩ := h
    have S := sc_law_made.sx (CX := CX0) (P := P) (w := w) (K := K) (mg := mg) (base := base) (qual := "_law_made") (f := f) (cd := cdv) (A := A) (outer := outer) (s := s) (H := H) (E := E)
    have Sg := fun i {x} h => sc_law_made.gx (CX := CX0) (P := P) (w := w) (K := K) (mg := mg) (base := base) (qual := "_law_made") (f := f) (cd := cdv) (A := A) (outer := outer) (s := s) (H := H) (E := E) i (x := x) h
    have hU := hr.units
    refine ⟨_, (pss_cons (ps_st S 4 pe_int)
      (pss_cons (ps_for PassesOwn.never rfl (i_range1 (Sg 0 rfl) n_range (pa_cons (nv S 2) pa_nil)) (pn S 5) (pss_one (ps_st S 4 (pe_op o_mul (nv S 4) pe_int))))
      (pss_cons (ps_if (pt_of o_lt (nv S 0) pe_int) (pss_cons (ps_st S 6 pe_int)
      (pss_cons (ps_st S 7 pe_int)
      (pss_cons (ps_while PassesOwn.never (pt_of o_lt (nv S 7) (nv S 4)) (pss_cons (ps_st S 8 (pe_op o_add (pe_op o_mod (pe_op o_fdiv (pe_ix (o_ix (K := K)) (nv S 3) pe_int (fun _ _ => rfl)) (nv S 7)) pe_int) (pe_op o_mod (pe_op o_fdiv (pe_ix (o_ix (K := K)) (nv S 3) pe_int (fun _ _ => rfl)) (nv S 7)) pe_int)))
      (pss_cons (ps_if (PW.pt (pw_or (PW.pt (pw_and (pt_of (o_eq (K := K) rfl hU) (nv S 0) pe_int) (pw_and1 (pt_of (o_eq (K := K) rfl hU) (nv S 8) pe_int)))) (pw_or (PW.pt (pw_and (pt_of (o_eq (K := K) rfl hU) (nv S 0) pe_int) (pw_and1 (pt_of o_gt (nv S 8) pe_int)))) (pw_or1 (PW.pt (pw_and (pt_of (o_eq (K := K) rfl hU) (nv S 0) pe_int) (pw_and1 (pt_of (o_eq (K := K) rfl hU) (nv S 8) pe_int)))))))) (pss_one (ps_st S 6 (pe_op o_add (nv S 6) (nv S 7)))) pss_nil)
      (pss_one (ps_st S 7 (pe_op o_mul (nv S 7) pe_int))))))
      (pss_one (ps_ret (nv S 6)))))) pss_nil)
      (pss_cons (ps_if (pt_of (o_eq (K := K) rfl hU) (nv S 0) pe_int) (pss_one (ps_ret (pe_op o_mod (pe_op o_add (pe_ix (o_ix (K := K)) (nv S 3) pe_int (fun _ _ => rfl)) (pe_ix (o_ix (K := K)) (nv S 3) pe_int (fun _ _ => rfl))) (nv S 4)))) pss_nil)
      (pss_cons (ps_if (pt_of (o_eq (K := K) rfl hU) (nv S 0) pe_int) (pss_one (ps_ret (pe_ifExp (pt_of (o_eq (K := K) rfl hU) (pe_ix (o_ix (K := K)) (nv S 3) pe_int (fun _ _ => rfl)) pe_int) (pe_ix (o_ix (K := K)) (nv S 3) pe_int (fun _ _ => rfl)) (pe_ix (o_ix (K := K)) (nv S 3) pe_int (fun _ _ => rfl))))) pss_nil)
      (pss_cons (ps_if (pt_of (o_eq (K := K) rfl hU) (nv S 0) pe_int) (pss_one (ps_ret (pe_ix (o_ix (K := K)) (nv S 3) pe_int (fun _ _ => rfl)))) pss_nil)
      (pss_cons (ps_st S 9 pe_int)
      (pss_cons (ps_for PassesOwn.never rfl (i_range1 (Sg 0 rfl) n_range (pa_cons (nv S 1) pa_nil)) (pn S 5) (pss_one (ps_st S 9 (pe_op o_mul (nv S 9) pe_int))))
      (pss_one (ps_ret (pe_ifExp (pt_of (o_eq (K := K) rfl hU) (nv S 0) pe_int) (pe_op o_mod (pe_op o_mul (pe_ix (o_ix (K := K)) (nv S 3) pe_int (fun _ _ => rfl)) (nv S 9)) (nv S 4)) (pe_op o_fdiv (pe_ix (o_ix (K := K)) (nv S 3) pe_int (fun _ _ => rfl)) (nv S 9))))))))))))), ?_⟩
    show (_ : TS) _ [some (.int (k : Nat)), some (.int count), some (.int wd), some (.ref l), none, none, none, none, none, none] H
    obtain ⟨a, b, d, rfl⟩ : ∃ a b d, ns = [a, b, d] := by
      match ns, hl with
      | [a, b, d], _ => exact ⟨a, b, d, rfl⟩
    simp only [tSeq, tAsg, gName, tC, List.set_cons_zero, List.set_cons_succ]
    refine tFor_by (Itr 0 wd.toNat) wd.toNat (fun R h => ?_) (fun i σ H' => H' = H ∧ ∃ o, σ = [some (.int (k : Nat)), some (.int count), some (.int wd), some (.ref l), some (.int (2 ^ i)), o, none, none, none, none]) ⟨rfl, _, rfl⟩ (fun i σ H' hi _ => hi) (fun σ H' _ => Nat.le_refl _) (fun i σ H1 x H2 hi h y => ?_) (fun σ H' h => ?_)
    · exact ⟨⟨by omega, by omega⟩, h⟩
    · obtain ⟨rfl, rfl⟩ := y
      obtain ⟨rfl, o, rfl⟩ := h
      simp only [tRet, tCB, tCons, tNil, tSeq, tIfS, tAsg, gName, tV, List.getElem?_cons_zero, List.getElem?_cons_succ, List.set_cons_zero, List.set_cons_succ, tC, tOp, e_tst, e_isB, e_tru, e_truB, e_truI, e_truN, tSp, tDrop, tNext, tNot, tOr, tAnd, tIf, e_eqI, e_eqS, e_neI, e_neS, e_eqNI, e_i0, e_i2, e_addI, e_addS, e_mulI, e_ixS, e_ixL, e_lenS, e_strI, e_intS, e_min, if_true, Bool.false_eq_true, if_false]
      exact ⟨.inr ⟨by decide, by decide⟩, trivial, _, by rw [Int.pow_succ]⟩
    obtain ⟨rfl, o, rfl⟩ := h
    simp only [tRet, tCB, tCons, tNil, tSeq, tIfS, tAsg, gName, tV, List.getElem?_cons_zero, List.getElem?_cons_succ, List.set_cons_zero, List.set_cons_succ, tC, tOp, e_tst, e_isB, e_tru, e_truB, e_truI, e_truN, tSp, tDrop, tNext, tNot, tOr, tAnd, tIf, e_eqI, e_eqS, e_neI, e_neS, e_eqNI, e_i0, e_i2, e_addI, e_addS, e_mulI, e_ixS, e_ixL, e_lenS, e_strI, e_intS, e_min, if_true, Bool.false_eq_true, if_false]
    have ha := hn a (by simp)
    have hb := hn b (by simp)
    refine ite2 (fun h => ?_) (fun h3 => ?_)
    · have hk3 : k < 3 := by have := of_decide_eq_true h; omega
      obtain ⟨x, rfl⟩ := Int.eq_ofNat_of_zero_le ha.1
      obtain ⟨y, rfl⟩ := Int.eq_ofNat_of_zero_le hb.1
      have hx : x < 2 ^ wd.toNat := by have := ha.2; exact_mod_cast this
      have hy : y < 2 ^ wd.toNat := by have := hb.2; exact_mod_cast this
      refine ⟨fun m σ H1 => ∃ i, m = wd.toNat - i ∧ i ≤ wd.toNat ∧ WInv k count wd l o x y H' i σ H1, ⟨wd.toNat, 0, rfl, Nat.zero_le _, rfl, none, by rw [tot_zero]; rfl⟩, ?_⟩
      rintro m σ H1 ⟨i, rfl, hi, rfl, ones, rfl⟩
      simp only [tRet, tCB, tCons, tNil, tSeq, tIfS, tAsg, gName, tV, List.getElem?_cons_zero, List.getElem?_cons_succ, List.set_cons_zero, List.set_cons_succ, tC, tOp, e_tst, e_isB, e_tru, e_truB, e_truI, e_truN, tSp, tDrop, tNext, tNot, tOr, tAnd, tIf, e_eqI, e_eqS, e_neI, e_neS, e_eqNI, e_i0, e_i2, e_addI, e_addS, e_mulI, e_ixS, e_ixL, e_lenS, e_strI, e_intS, e_min, if_true, Bool.false_eq_true, if_false]
      refine ite2 (fun hlt => ?_) (fun hlt => ?_)
      · have hlt : i < wd.toNat := pow_lt_of (of_decide_eq_true hlt)
        refine ⟨WInv k count wd l o x y H1 (i + 1), fun σ' H2 h => ⟨wd.toNat - (i + 1), by omega, i + 1, rfl, hlt, h⟩, ?_⟩
        have hp : (0 : Int) < 2 ^ i := Int.pow_pos (by decide)
        have hlg := pow_log i (by omega)
        refine ⟨_, _, .inl hq, atI_nat (j := 0) rfl, ?_⟩
        simp only [e_i2]
        refine ⟨⟨hp, hlg⟩, by decide, ?_⟩
        refine ⟨_, _, .inl hq, atI_nat (j := 1) rfl, ?_⟩
        simp only [tRet, tCB, tCons, tNil, tSeq, tIfS, tAsg, gName, tV, List.getElem?_cons_zero, List.getElem?_cons_succ, List.set_cons_zero, List.set_cons_succ, tC, tOp, e_tst, e_isB, e_tru, e_truB, e_truI, e_truN, tSp, tDrop, tNext, tNot, tOr, tAnd, tIf, e_eqI, e_eqS, e_neI, e_neS, e_eqNI, e_i0, e_i2, e_addI, e_addS, e_mulI, e_ixS, e_ixL, e_lenS, e_strI, e_intS, e_min, if_true, Bool.false_eq_true, if_false]
        refine ⟨⟨hp, hlg⟩, by decide, ?_⟩
        rw [bit_at, bit_at]
        have ts := tot_step k x y i
        obtain rfl | rfl | rfl : k = 0 ∨ k = 1 ∨ k = 2 := by omega
        all_goals
          rcases Nat.mod_two_eq_zero_or_one (x / 2 ^ i) with a0 | a0 <;> rcases Nat.mod_two_eq_zero_or_one (y / 2 ^ i) with b0 | b0 <;> rw [a0, b0] at ts ⊢ <;> simp [hit] at ts <;>
          (repeat' (refine ite2 (fun h => ?_) (fun h => ?_) <;> try first | exact absurd h (by decide) | exact absurd (by decide) h)) <;>
          exact ⟨.inr ⟨by decide, by decide⟩, rfl, _, by rw [ts, Int.pow_succ]⟩
      · have e : i = wd.toNat := by
          have := of_decide_eq_false (Bool.eq_false_iff.mpr hlt)
          exact pow_eq_of hi this
        subst e
        obtain rfl | rfl | rfl : k = 0 ∨ k = 1 ∨ k = 2 := by omega
        · rw [tot_and x y _ hx]
          exact q
        · rw [tot_or x y _ hx hy]
          exact q
        · rw [tot_xor x y _ hx hy]
          exact q
    have h3 : 3 ≤ k := by have := of_decide_eq_false (Bool.eq_false_iff.mpr h3); omega
    have e1 : (1 : Int) * 2 ^ wd.toNat = 2 ^ wd.toNat := Int.one_mul _
    refine ite2 (fun h => ?_) (fun h4 => ?_)
    · obtain rfl : k = 3 := by have := of_decide_eq_true h; omega
      refine ⟨_, _, .inl hq, atI_nat (j := 0) rfl, _, _, .inl hq, atI_nat (j := 1) rfl, ?_⟩
      simp only [e_i2, e_addI]
      refine ⟨Int.pow_pos (by decide), ?_⟩
      rw [← e1]
      exact q
    have h4 : 4 ≤ k := by have := of_decide_eq_false (Bool.eq_false_iff.mpr h4); omega
    refine ite2 (fun h => ?_) (fun h5 => ?_)
    · obtain rfl : k = 4 := by have := of_decide_eq_true h; omega
      refine ⟨_, _, .inl hq, atI_nat (j := 0) rfl, ?_⟩
      simp only [e_eqI, e_isB]
      refine ite2 (fun h => ?_) (fun h => ?_)
      · refine ⟨_, _, .inl hq, atI_nat (j := 2) rfl, ?_⟩
        have e : madeK (kdOf 4 count) wd [a, b, d] = d := by show (if a = 0 then d else b) = d; rw [if_pos (of_decide_eq_true h)]
        rw [e] at q
        exact q
      · refine ⟨_, _, .inl hq, atI_nat (j := 1) rfl, ?_⟩
        have e : madeK (kdOf 4 count) wd [a, b, d] = b := by show (if a = 0 then d else b) = b; rw [if_neg (of_decide_eq_false (Bool.eq_false_iff.mpr h))]
        rw [e] at q
        exact q
    have h5 : 5 ≤ k := by have := of_decide_eq_false (Bool.eq_false_iff.mpr h5); omega
    refine ite2 (fun h => ?_) (fun h6 => ?_)
    · obtain rfl : k = 5 := by have := of_decide_eq_true h; omega
      exact ⟨_, _, .inl hq, atI_nat (j := 0) rfl, q⟩
    have h6 : 6 ≤ k := by have := of_decide_eq_false (Bool.eq_false_iff.mpr h6); omega
    refine tFor_by (Itr 0 count.toNat) count.toNat (fun R h => ⟨⟨by omega, by omega⟩, h⟩) (fun i σ H1 => H1 = H' ∧ ∃ o, σ = [some (.int (k : Nat)), some (.int count), some (.int wd), some (.ref l), some (.int (2 ^ wd.toNat)), o, none, none, none, some (.int (2 ^ i))]) ⟨rfl, _, rfl⟩ (fun i σ H' hi _ => hi) (fun σ H' _ => Nat.le_refl _) (fun i σ H1 x H2 hi h y => ?_) (fun σ H1 h => ?_)
    · obtain ⟨rfl, rfl⟩ := y
      obtain ⟨rfl, o, rfl⟩ := h
      simp only [tRet, tCB, tCons, tNil, tSeq, tIfS, tAsg, gName, tV, List.getElem?_cons_zero, List.getElem?_cons_succ, List.set_cons_zero, List.set_cons_succ, tC, tOp, e_tst, e_isB, e_tru, e_truB, e_truI, e_truN, tSp, tDrop, tNext, tNot, tOr, tAnd, tIf, e_eqI, e_eqS, e_neI, e_neS, e_eqNI, e_i0, e_i2, e_addI, e_addS, e_mulI, e_ixS, e_ixL, e_lenS, e_strI, e_intS, e_min, if_true, Bool.false_eq_true, if_false]
      exact ⟨.inr ⟨by decide, by decide⟩, trivial, _, by rw [Int.pow_succ]⟩
    obtain ⟨rfl, o, rfl⟩ := h
    simp only [tRet, tCB, tCons, tNil, tSeq, tIfS, tAsg, gName, tV, List.getElem?_cons_zero, List.getElem?_cons_succ, List.set_cons_zero, List.set_cons_succ, tC, tOp, e_tst, e_isB, e_tru, e_truB, e_truI, e_truN, tSp, tDrop, tNext, tNot, tOr, tAnd, tIf, e_eqI, e_eqS, e_neI, e_neS, e_eqNI, e_i0, e_i2, e_addI, e_addS, e_mulI, e_ixS, e_ixL, e_lenS, e_strI, e_intS, e_min, if_true, Bool.false_eq_true, if_false]
    have b64 : a < 2 ^ 64 := Int.lt_of_lt_of_le ha.2 (pow64 (by omega))
    refine ite2 (fun h => ?_) (fun h7 => ?_)
    · obtain rfl : k = 6 := by have := of_decide_eq_true h; omega
      refine ⟨_, _, .inl hq, atI_nat (j := 0) rfl, ?_⟩
      simp only [e_i2, e_mulI]
      refine ⟨.inl ⟨by omega, b64⟩, Int.pow_pos (by decide), ?_⟩
      rw [← e1]
      exact q
    · obtain rfl : k = 7 := by have := of_decide_eq_false (Bool.eq_false_iff.mpr h7); omega
      refine ⟨_, _, .inl hq, atI_nat (j := 0) rfl, ?_⟩
      simp only [e_i2]
      exact ⟨⟨Int.pow_pos (by decide), pow_log _ (by omega)⟩, q⟩
end
end K1

end
section
set_option maxRecDepth 100000
set_option maxHeartbeats 4000000
set_option linter.all false
namespace L2
open PySem
theorem bb_bool : bootBuiltins "bool" = some (.type "bool") := by decide +kernel
def mtR (MS : Addr → Sp → Prop) (m : Str) (t : TA) (x : V) (σ : St) (H1 : Hp) (Q : VK) : Prop := match x with
  | .ref q => ∃ C dx fs sp, H1 q = some (.ins C dx fs) ∧ fs.lookup m = none ∧ MS C sp ∧ t σ H1 fun vs H2 => sp (.ref q :: vs) H2 Q E0
  | _ => False
theorem e_tMt (MS : Addr → Sp → Prop) (m : Str) (ta : TE) (t : TA) {σ : St} {H : Hp} {Q : VK} : tMt MS m ta t σ H Q = ta σ H fun x H1 => mtR MS m t x σ H1 Q := rfl
theorem e_mtR (MS : Addr → Sp → Prop) (m : Str) (t : TA) (q : Addr) {σ : St} {H1 : Hp} {Q : VK} : mtR MS m t (.ref q) σ H1 Q = ∃ C dx fs sp, H1 q = some (.ins C dx fs) ∧ fs.lookup m = none ∧ MS C sp ∧ t σ H1 fun vs H2 => sp (.ref q :: vs) H2 Q E0 := rfl
theorem e_isiC {K : PySem.W.Frag} {x : V} {q : Addr} {H : Hp} {Q : VK} : rIsi K [x, .ref q] H Q = ∃ t b, TyOf K H x t ∧ PySem.W.kitOne K t (.ref q) = some b ∧ Q (.bl b) H := by cases x <;> rfl
theorem e_isiT {K : PySem.W.Frag} {x : V} {n : String} {H : Hp} {Q : VK} : rIsi K [x, .ty n] H Q = ∃ t b, TyOf K H x t ∧ PySem.W.kitOne K t (.type n) = some b ∧ Q (.bl b) H := by cases x <;> rfl
end L2
namespace K1
open PySem L2
seal L2.PE L2.PS L2.PSs L2.PT L2.PA L2.PG L2.PI L2.PW
theorem mk_kind' {K : PySem.W.Frag} {c : Cs} {kd : Kd} {H : Hp} {R : Addr → Hp → Prop} (cok : ClsOk K (c.of kd)) (q : ∀ p H', Same H H' → H p = none → KindAt c H' p kd → R p H') :
    ∀ x dx, H x = none → H dx = none → dx ≠ x → spSub K kd (.ref x :: kd.args) (upd (upd H dx (.own x)) x (.ins (c.of kd) dx [])) (fun v H2 => v = .non ∧ R x H2) E0 := by
  intro x dx nx nd ne
  refine ⟨x, c.of kd, dx, rfl, upd_same, cok, rfl, ?_⟩
  refine q x _ (fun b o e => ?_) nx ⟨dx, upd_same⟩
  rw [upd_ne (ne_of_none e nx), upd_ne (ne_of_none e nx), upd_ne (ne_of_none e nd)]
  exact e
theorem KindAt.mono {c : Cs} {H H' : Hp} {p : Addr} {kd : Kd} (k : KindAt c H p kd) (s : Same H H') : KindAt c H' p kd := let ⟨dx, e⟩ := k; ⟨dx, s _ _ e⟩
def spLawKind (c : Cs) : Sp := fun vs H Q _ => ∃ (k : Nat) (n : Int), vs = [.int (k : Nat), .int n] ∧ k < 8 ∧ 1 ≤ n ∧ n ≤ 63 ∧ KRes c H Q (some (kdOf k n))
def Kd.fit : Kd → Prop
  | .up n => 1 ≤ n ∧ n ≤ 63
  | .down n => 1 ≤ n ∧ n ≤ 63
  | _ => True
def M_word (P : Program) (w : World) (K : PySem.W.Frag) (mg : Str → Option Value) (base : Heap) : Addr → Sp → Prop := fun C sp => Mth P w K mg base 1 C "word" sp
def M_lines (P : Program) (w : World) (K : PySem.W.Frag) (mg : Str → Option Value) (base : Heap) : Addr → Sp → Prop := fun C sp => Mth P w K mg base 1 C "lines" sp
def M_made (P : Program) (w : World) (K : PySem.W.Frag) (mg : Str → Option Value) (base : Heap) : Addr → Sp → Prop := fun C sp => Mth P w K mg base 1 C "made" sp
def spAsked (c : Cs) : Sp := fun vs H Q _ => ∃ (p : Addr) (k : Nat) (n wd : Int) (l : Addr) (ns : List Int), vs = [.ref p, .int (k : Nat), .int n, .int wd, .ref l] ∧ KindAt c H p (kdOf k n) ∧ k < 8 ∧ 1 ≤ n ∧ n ≤ 63 ∧ 1 ≤ wd ∧ wd ≤ 64 ∧ H l = some (.lst (ns.map V.int)) ∧ ns.length = 3 ∧
  (∀ x ∈ ns, 0 ≤ x ∧ x < 2 ^ wd.toNat) ∧ ∀ H', Same H H' → Q (.bl true) H'
theorem flds_told (kd : Kd) : (flds kd).lookup ("told" : Str) = some (.str kd.word) := by
  have h1 : ¬ ("told" : Str) = "asked" := by decide +kernel
  have h2 : ¬ ("told" : Str) = "count" := by decide +kernel
  cases kd <;> unfold flds <;> simp only [lookup_putF, if_neg h1, if_neg h2, if_true]
theorem flds_asked (kd : Kd) : (flds kd).lookup ("asked" : Str) = some (.int kd.asked) := by
  have h2 : ¬ ("asked" : Str) = "count" := by decide +kernel
  cases kd <;> unfold flds <;> simp only [lookup_putF, if_neg h2, if_true]
theorem flds_no (kd : Kd) {m : Str} (h1 : ¬ m = "told") (h2 : ¬ m = "asked") (h3 : ¬ m = "count") : (flds kd).lookup m = none := by
  cases kd <;> unfold flds <;> simp only [lookup_putF, if_neg h1, if_neg h2, if_neg h3] <;> rfl
theorem lines_at {k : Nat} (n : Int) (h : k < 8) : ([V.int 2, V.int 2, V.int 2, V.int 2, V.int 3, V.int 1, V.int 1, V.int 1] : List V)[k]? = some (.int (kdOf k n).asked) := by
  match k, h with
  | 0, _ => rfl
  | 1, _ => rfl
  | 2, _ => rfl
  | 3, _ => rfl
  | 4, _ => rfl
  | 5, _ => rfl
  | 6, _ => rfl
  | 7, _ => rfl
theorem words_at {k : Nat} {n : Int} (h : k < 8) : ([V.str (Str.ofString "and"), V.str (Str.ofString "or"), V.str (Str.ofString "odd"), V.str (Str.ofString "plus"), V.str (Str.ofString "pick"), V.str (Str.ofString "out"), V.str (Str.ofString "up:" ++ Str.ofString (toString n)), V.str (Str.ofString "down:" ++ Str.ofString (toString n))] : List V)[k]? = some (.str (kdOf k n).word) := by
  match k, h with
  | 0, _ => rfl
  | 1, _ => rfl
  | 2, _ => rfl
  | 3, _ => rfl
  | 4, _ => rfl
  | 5, _ => rfl
  | 6, _ => rfl
  | 7, _ => rfl
theorem asked_le (k : Nat) (n : Int) : 1 ≤ (kdOf k n).asked ∧ (kdOf k n).asked ≤ 3 := by
  unfold kdOf
  split <;> simp [Kd.asked]
theorem rep_zero (m : Nat) : (List.replicate m [V.int 0]).flatten = (List.replicate m (0 : Int)).map V.int := by
  induction m with
  | zero => rfl
  | succ m ih =>
    rw [List.replicate_succ, List.replicate_succ, List.flatten_cons, ih, List.map_cons]
    rfl
theorem cut_take {xs : List V} {a : Int} (h : 0 ≤ a) : cutV xs none (some a) = xs.take a.toNat := by
  unfold cutV
  rw [HT.sIx_none]
  have e : HT.sIx xs.length xs.length (some a) = min a.toNat xs.length := by
    show (if a < 0 then (a + (xs.length : Int)).toNat else min a.toNat xs.length) = min a.toNat xs.length
    rw [if_neg (by omega)]
  rw [e, List.drop_zero, Nat.sub_zero]
  rcases Nat.le_total a.toNat xs.length with g | g
  · rw [Nat.min_eq_left g]
  · rw [Nat.min_eq_right g, List.take_of_length_le (Nat.le_refl _), List.take_of_length_le g]
theorem not_src (k : Nat) (n : Int) : kdOf k n ≠ .src := by
  unfold kdOf
  split <;> intro e <;> cases e
theorem fit_of {k : Nat} {n : Int} (h1 : 1 ≤ n) (h2 : n ≤ 63) : (kdOf k n).fit := by
  match k with
  | 0 => trivial
  | 1 => trivial
  | 2 => trivial
  | 3 => trivial
  | 4 => trivial
  | 5 => trivial
  | 6 => exact ⟨h1, h2⟩
  | _ + 7 => exact ⟨h1, h2⟩
theorem made_take {k : Nat} {n wd : Int} {ns : List Int} (hk : k < 8) (hl : ns.length = 3) : madeK (kdOf k n) wd (ns.take (kdOf k n).asked.toNat) = madeK (kdOf k n) wd ns := by
  match ns, hl with
  | [a, b, d], _ =>
    match k, hk with
    | 0, _ => rfl
    | 1, _ => rfl
    | 2, _ => rfl
    | 3, _ => rfl
    | 4, _ => rfl
    | 5, _ => rfl
    | 6, _ => rfl
    | 7, _ => rfl
theorem made_zero {k : Nat} {n wd : Int} (hk : k < 8) (hn : 0 ≤ n) : madeK (kdOf k n) wd (List.replicate (kdOf k n).asked.toNat 0) = 0 := by
  have z : ∀ m : Nat, (0 : Int) / 2 ^ m = 0 := fun m => Int.zero_ediv _
  match k, hk with
  | 0, _ => show Builtin.bitAnd 0 0 = 0; decide +kernel
  | 1, _ => show Builtin.bitOr 0 0 = 0; decide +kernel
  | 2, _ => show Builtin.bitXor 0 0 = 0; decide +kernel
  | 3, _ => show ((0 : Int) + 0) % (1 * 2 ^ wd.toNat) = 0; simp
  | 4, _ => rfl
  | 5, _ => rfl
  | 6, _ => show ((0 : Int) * 2 ^ n.toNat) % (1 * 2 ^ wd.toNat) = 0; simp
  | 7, _ => exact z _
section
variable {P : Program} {w : World} {K : PySem.W.Frag} {mg : Str → Option Value} {base : Heap} {c : Cs}
abbrev s_law_kind : Stmt := top 22
theorem sc_law_kind : FnSc ["_law_which", "_law_count"] ["_law_which", "_law_count"] ["Up", "Down", "Sink", "Pick", "Plus", "Odd", "Either", "Both"] (defScope s_law_kind) := ⟨⟨rfl, rfl, rfl, by decide +kernel, rfl, by decide +kernel, by decide +kernel⟩, by decide +kernel, by decide +kernel, by decide +kernel⟩
theorem ok_law_kind {f : Addr} {fd : FuncData} (F : Fun K "_law_kind" "_law_kind" s_law_kind f fd) (ok : ∀ kd, ClsOk K (c.of kd)) (C_Source : Mkr P w K mg base 2 "Source" c.src ["self"] (spSub K .src)) (C_Sink : Mkr P w K mg base 2 "Sink" c.snk ["self"] (spSub K .snk)) (C_Both : Mkr P w K mg base 2 "Both" c.both ["self"] (spSub K .both)) (C_Either : Mkr P w K mg base 2 "Either" c.either ["self"] (spSub K .either)) (C_Odd : Mkr P w K mg base 2 "Odd" c.odd ["self"] (spSub K .odd)) (C_Plus : Mkr P w K mg base 2 "Plus" c.plus ["self"] (spSub K .plus)) (C_Pick : Mkr P w K mg base 2 "Pick" c.pick ["self"] (spSub K .pick)) (C_Up : Mkr P w K mg base 2 "Up" c.up ["self", "count"] (spUp K)) (C_Down : Mkr P w K mg base 2 "Down" c.down ["self", "count"] (spDown K)) : FnOk P w K mg base CX0 4 f fd ["_law_which", "_law_count"] (spLawKind c) := by
  refine F.ok sc_law_kind.S (fun vs H Q E h => ?_) (fun cdv A outer s H vs Q E hr h => ?_)
  · obtain ⟨k, n, rfl, _⟩ := h
    rfl
  · obtain ⟨k, n, rfl, hk, c1, c2, q⟩ := h
    have S := sc_law_kind.sx (CX := CX0) (P := P) (w := w) (K := K) (mg := mg) (base := base) (qual := "_law_kind") (f := f) (cd := cdv) (A := A) (outer := outer) (s := s) (H := H) (E := E)
    have Sg := fun i {x} h => sc_law_kind.gx (CX := CX0) (P := P) (w := w) (K := K) (mg := mg) (base := base) (qual := "_law_kind") (f := f) (cd := cdv) (A := A) (outer := outer) (s := s) (H := H) (E := E) i (x := x) h
    have hU := hr.units
    refine ⟨_, (pss_cons (ps_if (pt_of o_lt (nv S 0) pe_int) (pss_one (ps_ret (pe_ix (o_ix (K := K)) (pe_tup (pa_cons (c_make0 C_Both (hr.mono (by decide)) (Sg 7 rfl)) (pa_cons (c_make0 C_Either (hr.mono (by decide)) (Sg 6 rfl)) (pa_cons (c_make0 C_Odd (hr.mono (by decide)) (Sg 5 rfl)) pa_nil)))) (nv S 0) (fun _ _ => rfl)))) pss_nil)
      (pss_cons (ps_if (pt_of o_lt (nv S 0) pe_int) (pss_one (ps_ret (pe_ix (o_ix (K := K)) (pe_tup (pa_cons (c_make0 C_Plus (hr.mono (by decide)) (Sg 4 rfl)) (pa_cons (c_make0 C_Pick (hr.mono (by decide)) (Sg 3 rfl)) (pa_cons (c_make0 C_Sink (hr.mono (by decide)) (Sg 2 rfl)) pa_nil)))) (pe_op o_sub (nv S 0) pe_int) (fun _ _ => rfl)))) pss_nil)
      (pss_one (ps_ret (pe_ifExp (pt_of (o_eq (K := K) rfl hU) (nv S 0) pe_int) (c_make C_Up (hr.mono (by decide)) (Sg 0 rfl) (pa_cons (nv S 1) pa_nil)) (c_make C_Down (hr.mono (by decide)) (Sg 1 rfl) (pa_cons (nv S 1) pa_nil))))))), ?_⟩
    show (_ : TS) _ [some (.int (k : Nat)), some (.int n)] H
    simp only [tTup, tLits, lt_law_draw_0, tMk, tSl, tNoPart, tPart, rSlL, tAndV, e_tMt, e_mtR, e_isiC, e_isiT, tRet, tCB, tCons, tNil, tSeq, tIfS, tAsg, gName, tV, List.getElem?_cons_zero, List.getElem?_cons_succ, List.set_cons_zero, List.set_cons_succ, tC, tOp, e_tst, e_isB, e_tru, e_truB, e_truI, e_truN, tSp, tDrop, tNext, tNot, tOr, tAnd, tIf, e_eqI, e_eqS, e_neI, e_neS, e_eqNI, e_i0, e_i2, e_addI, e_addS, e_mulI, e_ixS, e_ixL, e_lenS, e_strI, e_intS, e_min, if_true, Bool.false_eq_true, if_false]
    refine ite2 (fun h => ?_) (fun h3 => ?_)
    · have hk3 : k < 3 := by have := of_decide_eq_true h; omega
      refine mk_kind' (kd := .both) (ok _) fun p1 H1 s1 n1 k1 => ?_
      refine mk_kind' (kd := .either) (ok _) fun p2 H2 s2 n2 k2 => ?_
      refine mk_kind' (kd := .odd) (ok _) fun p3 H3 s3 n3 k3 => ?_
      refine ⟨by show 3 ≤ sizeLine; decide, fun t ht => ?_⟩
      have s4 : Same H3 (upd H3 t (.tup [.ref p1, .ref p2, .ref p3])) := fun b o e => by rw [upd_ne (ne_of_none e ht)]; exact e
      obtain rfl | rfl | rfl : k = 0 ∨ k = 1 ∨ k = 2 := by omega
      · exact ⟨_, _, .inr (SqT.of upd_same), atI_nat (j := 0) rfl, q p1 _ (((s1.trans s2).trans s3).trans s4) n1 (k1.mono ((s2.trans s3).trans s4))⟩
      · exact ⟨_, _, .inr (SqT.of upd_same), atI_nat (j := 1) rfl, q p2 _ (((s1.trans s2).trans s3).trans s4) (s1.free n2) (k2.mono (s3.trans s4))⟩
      · exact ⟨_, _, .inr (SqT.of upd_same), atI_nat (j := 2) rfl, q p3 _ (((s1.trans s2).trans s3).trans s4) ((s1.trans s2).free n3) (k3.mono s4)⟩
    have h3 : 3 ≤ k := by have := of_decide_eq_false (Bool.eq_false_iff.mpr h3); omega
    refine ite2 (fun h => ?_) (fun h6 => ?_)
    · have hk6 : k < 6 := by have := of_decide_eq_true h; omega
      refine mk_kind' (kd := .plus) (ok _) fun p1 H1 s1 n1 k1 => ?_
      refine mk_kind' (kd := .pick) (ok _) fun p2 H2 s2 n2 k2 => ?_
      refine mk_kind' (kd := .snk) (ok _) fun p3 H3 s3 n3 k3 => ?_
      refine ⟨by show 3 ≤ sizeLine; decide, fun t ht => ?_⟩
      have s4 : Same H3 (upd H3 t (.tup [.ref p1, .ref p2, .ref p3])) := fun b o e => by rw [upd_ne (ne_of_none e ht)]; exact e
      obtain rfl | rfl | rfl : k = 3 ∨ k = 4 ∨ k = 5 := by omega
      · exact ⟨_, _, .inr (SqT.of upd_same), atI_nat (j := 0) rfl, q p1 _ (((s1.trans s2).trans s3).trans s4) n1 (k1.mono ((s2.trans s3).trans s4))⟩
      · exact ⟨_, _, .inr (SqT.of upd_same), atI_nat (j := 1) rfl, q p2 _ (((s1.trans s2).trans s3).trans s4) (s1.free n2) (k2.mono (s3.trans s4))⟩
      · exact ⟨_, _, .inr (SqT.of upd_same), atI_nat (j := 2) rfl, q p3 _ (((s1.trans s2).trans s3).trans s4) ((s1.trans s2).free n3) (k3.mono s4)⟩
    have h6 : 6 ≤ k := by have := of_decide_eq_false (Bool.eq_false_iff.mpr h6); omega
    refine ite2 (fun h => ?_) (fun h7 => ?_)
    · obtain rfl : k = 6 := by have := of_decide_eq_true h; omega
      exact fun x dx nx nd ne => ⟨n, c1, c2, mk_kind (kd := .up n) (ok _) q x dx nx nd ne⟩
    · obtain rfl : k = 7 := by have := of_decide_eq_false (Bool.eq_false_iff.mpr h7); omega
      exact fun x dx nx nd ne => ⟨n, c1, c2, mk_kind (kd := .down n) (ok _) q x dx nx nd ne⟩
abbrev s_law_asked : Stmt := top 23
theorem sc_law_asked : FnSc ["_law_kind_here", "_law_which", "_law_count", "_law_width", "_law_numbers", "_law_words", "_law_lines", "_law_handed", "_law_made_here"] ["_law_kind_here", "_law_which", "_law_count", "_law_width", "_law_numbers"] ["isinstance", "int", "bool", "_law_made", "Kind", "str"] (defScope s_law_asked) := ⟨⟨rfl, rfl, rfl, by decide +kernel, rfl, by decide +kernel, by decide +kernel⟩, by decide +kernel, by decide +kernel, by decide +kernel⟩
def lt_law_asked_0 : List V := [.int 2, .int 2, .int 2, .int 2, .int 3, .int 1, .int 1, .int 1]
theorem ok_law_asked {f : Addr} {fd : FuncData} (F : Fun K "_law_asked" "_law_asked" s_law_asked f fd) (ok : ∀ kd, ClsOk K (c.of kd)) (Mw : ∀ kd, M_word P w K mg base (c.of kd) (spGet K "told")) (Ml : ∀ kd, M_lines P w K mg base (c.of kd) (spGet K "asked")) (Mm : ∀ kd, Kd.fit kd → kd ≠ .src → M_made P w K mg base (c.of kd) (spMade K kd)) (isT : ∀ (kd : Kd) (H : Hp) (p dx : Addr) (fs : List (Str × V)), H p = some (.ins (c.of kd) dx fs) → TyOf K H (.ref p) (.ref (c.of kd))) {cK : Addr} (kit : ∀ kd : Kd, PySem.W.kitOne K (.ref (c.of kd)) (.ref cK) = some true) (kitI : PySem.W.kitOne K (.type "int") (.type "int") = some true) (kitB : PySem.W.kitOne K (.type "int") (.type "bool") = some false) (v_Kind : mg "Kind" = some (.ref cK) ∧ RelV (.ref cK) (.ref cK)) (n_isinstance : mg "isinstance" = none) (n_int : mg "int" = none) (n_bool : mg "bool" = none) (n_str : mg "str" = none) (C_law_made : Cal P w K mg base 1 "_law_made" ["_law_which", "_law_count", "_law_width", "_law_numbers"] (spLawMade K)) : FnOk P w K mg base CX0 2 f fd ["_law_kind_here", "_law_which", "_law_count", "_law_width", "_law_numbers"] (spAsked c) := by
  refine F.ok sc_law_asked.S (fun vs H Q E h => ?_) (fun cdv A outer s H vs Q E hr h => ?_)
  · obtain ⟨p, k, n, wd, l, ns, rfl, _⟩ := h
    rfl
  · obtain ⟨p, k, n, wd, l, ns, rfl, ka, hk, c1, c2, w1, w2, hq, hl, hn, q⟩ := h
    have S := sc_law_asked.sx (CX := CX0) (P := P) (w := w) (K := K) (mg := mg) (base := base) (qual := "_law_asked") (f := f) (cd := cdv) (A := A) (outer := outer) (s := s) (H := H) (E := E)
    have Sg := fun i {x} h => sc_law_asked.gx (CX := CX0) (P := P) (w := w) (K := K) (mg := mg) (base := base) (qual := "_law_asked") (f := f) (cd := cdv) (A := A) (outer := outer) (s := s) (H := H) (E := E) i (x := x) h
    have hU := hr.units
    refine ⟨_, (pss_cons (ps_st S 5 (pe_tup (pa_cons pe_str (pa_cons pe_str (pa_cons pe_str (pa_cons pe_str (pa_cons pe_str (pa_cons pe_str (pa_cons (pe_op o_add pe_str (k_str (Sg 5 rfl) n_str (pa_cons (nv S 2) pa_nil))) (pa_cons (pe_op o_add pe_str (k_str (Sg 5 rfl) n_str (pa_cons (nv S 2) pa_nil))) pa_nil))))))))))
      (pss_cons (ps_st S 6 (pe_ix (o_ix (K := K)) (pe_id (t := tTup (tLits lt_law_asked_0)) ?L0) (nv S 1) (fun _ _ => rfl)))
      (pss_cons (ps_if (PW.pt (pw_or (pt_not (pt_tr (K := K) rfl (k_isinstance (K := K) rfl (Sg 0 rfl) n_isinstance (pa_cons (nv S 0) (pa_cons (g_val (Sg 4 rfl) v_Kind.1 v_Kind.2) pa_nil))))) (pw_or (pt_of (o_ne (K := K) rfl hU) (m_call0 1 (hr.mono (by decide)) (MS := M_word P w K mg base) (fun _ _ h => h) (nv S 0)) (pe_ix (o_ix (K := K)) (nv S 5) (nv S 1) (fun _ _ => rfl))) (pw_or1 (pt_of (o_ne (K := K) rfl hU) (m_call0 1 (hr.mono (by decide)) (MS := M_lines P w K mg base) (fun _ _ h => h) (nv S 0)) (nv S 6)))))) (pss_one (ps_ret pe_bl)) pss_nil)
      (pss_cons (ps_st S 7 (pe_slice (o_sl (K := K)) (nv S 4) po_none (po_some (nv S 6))))
      (pss_cons (ps_st S 8 (m_call 1 (hr.mono (by decide)) (MS := M_made P w K mg base) (fun _ _ h => h) (nv S 0) (pa_cons (nv S 7) (pa_cons (nv S 3) pa_nil))))
      (pss_cons (ps_if (PW.pt (pw_or (pt_not (pt_tr (K := K) rfl (k_isinstance (K := K) rfl (Sg 0 rfl) n_isinstance (pa_cons (nv S 8) (pa_cons (g_ty (Sg 1 rfl) n_int bb_int) pa_nil))))) (pw_or (pt_tr (K := K) rfl (k_isinstance (K := K) rfl (Sg 0 rfl) n_isinstance (pa_cons (nv S 8) (pa_cons (g_ty (Sg 2 rfl) n_bool bb_bool) pa_nil)))) (pw_or1 (pt_of (o_ne (K := K) rfl hU) (nv S 8) (c_call C_law_made (hr.mono (by decide)) (Sg 3 rfl) (pa_cons (nv S 1) (pa_cons (nv S 2) (pa_cons (nv S 3) (pa_cons (nv S 4) pa_nil)))))))))) (pss_one (ps_ret pe_bl)) pss_nil)
      (pss_one (ps_ret (pe_and (pe_of (o_eq (K := K) rfl hU) (nv S 7) (pe_slice (o_sl (K := K)) (nv S 4) po_none (po_some (nv S 6)))) (pe_one (pe_of (o_eq (K := K) rfl hU) (m_call 1 (hr.mono (by decide)) (MS := M_made P w K mg base) (fun _ _ h => h) (nv S 0) (pa_cons (pe_op o_mul (pe_lst (pa_cons pe_int pa_nil)) (nv S 6)) (pa_cons (nv S 3) pa_nil))) pe_int))))))))))), ?_⟩
    case L0 =>
      refine pe_litT ?_
      rfl
    show (_ : TS) _ [some (.ref p), some (.int (k : Nat)), some (.int n), some (.int wd), some (.ref l), none, none, none, none] H
    simp only [lt_law_asked_0, tTup, tLits, lt_law_draw_0, tMk, tSl, tNoPart, tPart, rSlL, tAndV, e_tMt, e_mtR, e_isiC, e_isiT, tRet, tCB, tCons, tNil, tSeq, tIfS, tAsg, gName, tV, List.getElem?_cons_zero, List.getElem?_cons_succ, List.set_cons_zero, List.set_cons_succ, tC, tOp, e_tst, e_isB, e_tru, e_truB, e_truI, e_truN, tSp, tDrop, tNext, tNot, tOr, tAnd, tIf, e_eqI, e_eqS, e_neI, e_neS, e_eqNI, e_i0, e_i2, e_addI, e_addS, e_mulI, e_ixS, e_ixL, e_lenS, e_strI, e_intS, e_min, if_true, Bool.false_eq_true, if_false]
    refine ⟨small_log (by omega), small_add (by decide +kernel) (by omega), small_log (by omega), small_add (by decide +kernel) (by omega), by show 8 ≤ sizeLine; decide, fun p1 h1 => ⟨by show 8 ≤ sizeLine; decide, fun p2 h2 => ?_⟩⟩
    have sA : Same H (upd (upd H p1 (HO.tup [V.str (Str.ofString "and"), V.str (Str.ofString "or"), V.str (Str.ofString "odd"), V.str (Str.ofString "plus"), V.str (Str.ofString "pick"), V.str (Str.ofString "out"), V.str (Str.ofString "up:" ++ Str.ofString (toString n)), V.str (Str.ofString "down:" ++ Str.ofString (toString n))])) p2 (HO.tup [V.int 2, V.int 2, V.int 2, V.int 2, V.int 3, V.int 1, V.int 1, V.int 1])) := fun b o e => by
      have e1 : upd H p1 (HO.tup [V.str (Str.ofString "and"), V.str (Str.ofString "or"), V.str (Str.ofString "odd"), V.str (Str.ofString "plus"), V.str (Str.ofString "pick"), V.str (Str.ofString "out"), V.str (Str.ofString "up:" ++ Str.ofString (toString n)), V.str (Str.ofString "down:" ++ Str.ofString (toString n))]) b = some o := by rw [upd_ne (ne_of_none e h1)]; exact e
      rw [upd_ne (ne_of_none e1 h2)]; exact e1
    have tL : upd (upd H p1 (HO.tup [V.str (Str.ofString "and"), V.str (Str.ofString "or"), V.str (Str.ofString "odd"), V.str (Str.ofString "plus"), V.str (Str.ofString "pick"), V.str (Str.ofString "out"), V.str (Str.ofString "up:" ++ Str.ofString (toString n)), V.str (Str.ofString "down:" ++ Str.ofString (toString n))])) p2 (HO.tup [V.int 2, V.int 2, V.int 2, V.int 2, V.int 3, V.int 1, V.int 1, V.int 1]) p2 = some (HO.tup [V.int 2, V.int 2, V.int 2, V.int 2, V.int 3, V.int 1, V.int 1, V.int 1]) := upd_same
    have tW : upd (upd H p1 (HO.tup [V.str (Str.ofString "and"), V.str (Str.ofString "or"), V.str (Str.ofString "odd"), V.str (Str.ofString "plus"), V.str (Str.ofString "pick"), V.str (Str.ofString "out"), V.str (Str.ofString "up:" ++ Str.ofString (toString n)), V.str (Str.ofString "down:" ++ Str.ofString (toString n))])) p2 (HO.tup [V.int 2, V.int 2, V.int 2, V.int 2, V.int 3, V.int 1, V.int 1, V.int 1]) p1 = some (HO.tup [V.str (Str.ofString "and"), V.str (Str.ofString "or"), V.str (Str.ofString "odd"), V.str (Str.ofString "plus"), V.str (Str.ofString "pick"), V.str (Str.ofString "out"), V.str (Str.ofString "up:" ++ Str.ofString (toString n)), V.str (Str.ofString "down:" ++ Str.ofString (toString n))]) := by
      have e1 : upd H p1 (HO.tup [V.str (Str.ofString "and"), V.str (Str.ofString "or"), V.str (Str.ofString "odd"), V.str (Str.ofString "plus"), V.str (Str.ofString "pick"), V.str (Str.ofString "out"), V.str (Str.ofString "up:" ++ Str.ofString (toString n)), V.str (Str.ofString "down:" ++ Str.ofString (toString n))]) p1 = some (HO.tup [V.str (Str.ofString "and"), V.str (Str.ofString "or"), V.str (Str.ofString "odd"), V.str (Str.ofString "plus"), V.str (Str.ofString "pick"), V.str (Str.ofString "out"), V.str (Str.ofString "up:" ++ Str.ofString (toString n)), V.str (Str.ofString "down:" ++ Str.ofString (toString n))]) := upd_same
      rw [upd_ne (ne_of_none e1 h2)]; exact e1
    generalize upd (upd H p1 (HO.tup [V.str (Str.ofString "and"), V.str (Str.ofString "or"), V.str (Str.ofString "odd"), V.str (Str.ofString "plus"), V.str (Str.ofString "pick"), V.str (Str.ofString "out"), V.str (Str.ofString "up:" ++ Str.ofString (toString n)), V.str (Str.ofString "down:" ++ Str.ofString (toString n))])) p2 (HO.tup [V.int 2, V.int 2, V.int 2, V.int 2, V.int 3, V.int 1, V.int 1, V.int 1]) = H2 at sA tL tW
    obtain ⟨dx, ka⟩ := ka
    have ka2 := sA _ _ ka
    have hq2 := sA _ _ hq
    refine ⟨_, _, .inr (SqT.of tL), atI_nat (lines_at n hk), ?_⟩
    refine ⟨_, _, isT _ _ _ _ _ ka2, kit _, ?_⟩
    rw [if_neg (by decide)]
    refine ⟨_, _, _, _, ka2, flds_no _ (by decide +kernel) (by decide +kernel) (by decide +kernel), Mw _, ?_⟩
    refine ⟨p, _, dx, _, .str (kdOf k n).word, rfl, ka2, (ok _).cl, (ok _).nT, flds_told _, ?_⟩
    refine ⟨_, _, .inr (SqT.of tW), atI_nat (words_at hk), ?_⟩
    simp only [e_neS, e_isB]
    rw [if_neg (by simp)]
    refine ⟨_, _, _, _, ka2, flds_no _ (by decide +kernel) (by decide +kernel) (by decide +kernel), Ml _, ?_⟩
    refine ⟨p, _, dx, _, .int (kdOf k n).asked, rfl, ka2, (ok _).cl, (ok _).nA, flds_asked _, ?_⟩
    simp only [e_neI, e_isB]
    rw [if_neg (by simp)]
    refine ⟨_, rfl, l, _, rfl, SqL.of hq2, fun p3 h3 => ?_⟩
    have as := asked_le k n
    have ec : cutV (ns.map V.int) none (some (kdOf k n).asked) = (ns.take (kdOf k n).asked.toNat).map V.int := by rw [cut_take (by omega), List.map_take]
    rw [ec]
    have s3 : Same H2 (upd H2 p3 (HO.lst ((ns.take (kdOf k n).asked.toNat).map V.int))) := fun b o e => by rw [upd_ne (ne_of_none e h3)]; exact e
    have g3 : upd H2 p3 (HO.lst ((ns.take (kdOf k n).asked.toNat).map V.int)) p3 = some (HO.lst ((ns.take (kdOf k n).asked.toNat).map V.int)) := upd_same
    generalize upd H2 p3 (HO.lst ((ns.take (kdOf k n).asked.toNat).map V.int)) = H3 at s3 g3
    have ka3 := s3 _ _ ka2
    have hq3 := s3 _ _ hq2
    have b64 : ∀ x ∈ ns, 0 ≤ x ∧ x < 2 ^ 64 := fun x hx => ⟨(hn x hx).1, Int.lt_of_lt_of_le (hn x hx).2 (pow64 (by omega))⟩
    refine ⟨_, _, _, _, ka3, flds_no _ (by decide +kernel) (by decide +kernel) (by decide +kernel), Mm _ (fit_of c1 c2) (not_src k n), ?_⟩
    refine ⟨p, p3, wd, ns.take (kdOf k n).asked.toNat, _, dx, rfl, ka3, ok _, SqL.of g3, by rw [List.length_take]; omega, fun x hx => b64 x (List.mem_of_mem_take hx), w1, w2, ?_⟩
    refine ⟨_, _, TyOf.int _, kitI, ?_⟩
    rw [if_neg (by decide)]
    refine ⟨_, _, TyOf.int _, kitB, ?_⟩
    rw [if_neg Bool.false_ne_true]
    refine ⟨k, n, wd, l, ns, rfl, hk, c1, c2, w1, w2, SqL.of hq3, hl, hn, ?_⟩
    simp only [e_neI, e_isB]
    rw [made_take hk hl, if_neg (by simp)]
    refine ⟨_, rfl, l, _, rfl, SqL.of hq3, fun p4 h4 => ?_⟩
    rw [ec]
    have s4 : Same H3 (upd H3 p4 (HO.lst ((ns.take (kdOf k n).asked.toNat).map V.int))) := fun b o e => by rw [upd_ne (ne_of_none e h4)]; exact e
    have g4 : upd H3 p4 (HO.lst ((ns.take (kdOf k n).asked.toNat).map V.int)) p4 = some (HO.lst ((ns.take (kdOf k n).asked.toNat).map V.int)) := upd_same
    generalize upd H3 p4 (HO.lst ((ns.take (kdOf k n).asked.toNat).map V.int)) = H4 at s4 g4
    rw [e_eqL]
    refine ⟨_, _, SqL.of (s4 _ _ g3), SqL.of g4, ?_⟩
    refine ⟨true, by simp, ?_⟩
    rw [if_pos rfl]
    have ka4 := s4 _ _ ka3
    refine ⟨_, _, _, _, ka4, flds_no _ (by decide +kernel) (by decide +kernel) (by decide +kernel), Mm _ (fit_of c1 c2) (not_src k n), ?_⟩
    simp only [tLst, tCons, tC, tNil]
    refine ⟨by show 1 ≤ sizeLine; decide, fun p5 h5 => ?_⟩
    rw [e_mulL]
    refine ⟨_, upd_same, ⟨by omega, by omega, Nat.le_trans (show 1 * (kdOf k n).asked.toNat ≤ 3 by omega) (by decide)⟩, fun p6 h6 => ?_⟩
    rw [rep_zero]
    have s6 : Same H4 (upd (upd H4 p5 (HO.lst [V.int 0])) p6 (HO.lst ((List.replicate (kdOf k n).asked.toNat (0 : Int)).map V.int))) := fun b o e => by
      have e1 : upd H4 p5 (HO.lst [V.int 0]) b = some o := by rw [upd_ne (ne_of_none e h5)]; exact e
      rw [upd_ne (ne_of_none e1 h6)]; exact e1
    refine ⟨p, p6, wd, List.replicate (kdOf k n).asked.toNat 0, _, dx, rfl, s6 _ _ ka4, ok _, SqL.of upd_same, by rw [List.length_replicate]; omega, fun x hx => by rw [List.eq_of_mem_replicate hx]; decide, w1, w2, ?_⟩
    rw [made_zero hk (by omega)]
    simp only [e_eqI]
    exact q _ (((sA.trans s3).trans s4).trans s6)
end
end K1

end
section
set_option maxRecDepth 100000
set_option maxHeartbeats 4000000
set_option linter.all false
namespace L2
open PySem
theorem o_set {X : Cx} : PSet X rSetL := set_list
end L2
namespace K1
open PySem L2
seal L2.PE L2.PS L2.PSs L2.PT L2.PA L2.PG L2.PI L2.PW
theorem kind_in : kindBy "in" = some .src := by decide +kernel
theorem kit_same (K : PySem.W.Frag) (C : Addr) : PySem.W.kitOne K (.ref C) (.ref C) = some true := by
  unfold PySem.W.kitOne
  rw [if_pos (by simp)]
def num (v wd : Int) (j : Nat) : Int := (v * ((j : Int) + 1) + 31 * (j : Int)) % (1 * 2 ^ wd.toNat)
theorem num_bd {v wd x : Int} {n : Nat} (h : x ∈ (List.range n).map (num v wd)) : 0 ≤ x ∧ x < 2 ^ wd.toNat := by
  obtain ⟨j, _, rfl⟩ := List.mem_map.mp h
  unfold num
  have hp := pow_pos' wd
  refine ⟨Int.emod_nonneg _ (by omega), ?_⟩
  have := Int.emod_lt_of_pos (v * ((j : Int) + 1) + 31 * (j : Int)) hp
  rw [Int.one_mul] at this ⊢
  exact this
theorem ix_ok {n : Nat} {j : Int} (hn : n = 3) (h0 : 0 ≤ j) (h1 : j < 3) : ixN n j = some j.toNat := by
  unfold ixN
  rw [if_pos h0, if_pos (by omega)]
theorem set_ints (l : List Int) (j : Nat) (z : Int) : (l.map V.int).set j (.int z) = (l.set j z).map V.int := by rw [List.map_set]
theorem set_bd {l : List Int} {j : Nat} {z b : Int} (h : ∀ x ∈ l, 0 ≤ x ∧ x < b) (hz : 0 ≤ z ∧ z < b) : ∀ x ∈ l.set j z, 0 ≤ x ∧ x < b := fun x hx => by
  rcases List.mem_or_eq_of_mem_set hx with g | g
  · exact h x g
  · rw [g]; exact hz
theorem up_all : ∀ j : _root_.Fin 64, 1 ≤ j.val → kindBy (Kd.word (.up (j.val : Int))) = some (.up (j.val : Int)) := by decide +kernel
theorem down_all : ∀ j : _root_.Fin 64, 1 ≤ j.val → kindBy (Kd.word (.down (j.val : Int))) = some (.down (j.val : Int)) := by decide +kernel
theorem kind_word {k : Nat} {n : Int} (hk : k < 8) (h1 : 1 ≤ n) (h2 : n ≤ 63) : kindBy (kdOf k n).word = some (kdOf k n) := by
  obtain ⟨m, rfl⟩ := Int.eq_ofNat_of_zero_le (show 0 ≤ n by omega)
  match k, hk with
  | 0, _ => show kindBy "and" = some .both; decide +kernel
  | 1, _ => show kindBy "or" = some .either; decide +kernel
  | 2, _ => show kindBy "odd" = some .odd; decide +kernel
  | 3, _ => show kindBy "plus" = some .plus; decide +kernel
  | 4, _ => show kindBy "pick" = some .pick; decide +kernel
  | 5, _ => show kindBy "out" = some .snk; decide +kernel
  | 6, _ => exact up_all ⟨m, by omega⟩ (by show 1 ≤ m; omega)
  | 7, _ => exact down_all ⟨m, by omega⟩ (by show 1 ≤ m; omega)
theorem cat_len (x y : Str) : (x ++ y).length = x.length + y.length := by
  show (x.cps ++ y.cps).size = _
  rw [Array.size_append]
  rfl
theorem word_len {k : Nat} {n : Int} (h1 : 1 ≤ n) (h2 : n ≤ 63) : (kdOf k n).word.length ≤ 1000000 := by
  have e : (Str.ofString (toString n)).length ≤ 7 := by
    rw [ofString_length]
    exact int_text_length_le10 (k := 6) (by decide) (by omega)
  unfold kdOf
  split
  · show ("and" : Str).length ≤ 1000000; decide +kernel
  · show ("or" : Str).length ≤ 1000000; decide +kernel
  · show ("odd" : Str).length ≤ 1000000; decide +kernel
  · show ("plus" : Str).length ≤ 1000000; decide +kernel
  · show ("pick" : Str).length ≤ 1000000; decide +kernel
  · show ("out" : Str).length ≤ 1000000; decide +kernel
  · show (("up:" : Str) ++ Str.ofString (toString n)).length ≤ 1000000
    rw [cat_len, show ("up:" : Str).length = 3 from by decide +kernel]; omega
  · show (("down:" : Str) ++ Str.ofString (toString n)).length ≤ 1000000
    rw [cat_len, show ("down:" : Str).length = 5 from by decide +kernel]; omega
def spLaw (K : PySem.W.Frag) : Sp := fun vs H Q _ => ∃ (a : Addr) (ns : List Int), vs = [.ref a] ∧ SqL K H a (ns.map V.int) ∧ ns.length ≤ 63 ∧ ∀ H', Q (.bl true) H'
section
variable {P : Program} {w : World} {K : PySem.W.Frag} {mg : Str → Option Value} {base : Heap} {c : Cs}
abbrev s_law : Stmt := top 24
theorem sc_law : FnSc ["_law_script", "_law_wrong", "_law_word", "_law_source", "_law_at", "_law_cell", "_law_which", "_law_count", "_law_width", "_law_numbers", "_law_kind_here"] ["_law_script"] ["range", "min", "len", "_law_asked", "kind_by", "_law_kind", "_law_draw", "isinstance", "Source"] (defScope s_law) := ⟨⟨rfl, rfl, rfl, by decide +kernel, rfl, by decide +kernel, by decide +kernel⟩, by decide +kernel, by decide +kernel, by decide +kernel⟩
theorem cs_law_0 : CompSc ["_law_k"] ["_law_script", "_law_at", "_law_width"] (scopeOf (kidS (kidSS (bodyAt (top 24) 4) 4) 0)) (defScope s_law) := ⟨rfl, by decide +kernel, by decide +kernel, by decide +kernel, by decide +kernel, by decide +kernel, by decide +kernel⟩
theorem cn_law_0 : ∀ x ∈ ((["_law_k"] : List Str) ++ (["_law_script", "_law_at", "_law_width"] : List Str)), (x == ("__debug__" : Str)) = false ∧ (x == ("__classdict__" : Str)) = false := by decide +kernel
def lt_law_0 : List V := [.str "", .str "nand", .str "up", .str "up:", .str "up:0", .str "up:64", .str "down:064", .str "up:03", .str "down:a", .str "out:1", .str "In", .str "up:3:1", .str "up: 3"]
def wrongOk : V → Bool
  | .str z => decide (z.length ≤ 1000000) && (kindBy z).isNone
  | _ => false
theorem wrong_ok : ∀ x ∈ lt_law_0, wrongOk x = true := by decide +kernel
theorem wrong_none {i : Nat} {x : V} (h : lt_law_0[i]? = some x) : ∃ z : Str, x = .str z ∧ z.length ≤ 1000000 ∧ kindBy z = none := by
  have q := wrong_ok x (List.mem_of_getElem? h)
  cases x with
  | str z =>
    have q : (decide (z.length ≤ 1000000) && (kindBy z).isNone) = true := q
    rw [Bool.and_eq_true] at q
    exact ⟨z, rfl, of_decide_eq_true q.1, Option.isNone_iff_eq_none.mp q.2⟩
  | _ => cases q
theorem ok_law {f : Addr} {fd : FuncData} (F : Fun K "law" "law" s_law f fd) (ok : ∀ kd, ClsOk K (c.of kd)) (Mw : ∀ kd, M_word P w K mg base (c.of kd) (spGet K "told")) (Ml : ∀ kd, M_lines P w K mg base (c.of kd) (spGet K "asked")) (Mm : ∀ kd, Kd.fit kd → kd ≠ .src → M_made P w K mg base (c.of kd) (spMade K kd)) (isT : ∀ (kd : Kd) (H : Hp) (p dx : Addr) (fs : List (Str × V)), H p = some (.ins (c.of kd) dx fs) → TyOf K H (.ref p) (.ref (c.of kd))) {cK : Addr} (kit : ∀ kd : Kd, PySem.W.kitOne K (.ref (c.of kd)) (.ref cK) = some true) (kitI : PySem.W.kitOne K (.type "int") (.type "int") = some true) (kitB : PySem.W.kitOne K (.type "int") (.type "bool") = some false) (v_Kind : mg "Kind" = some (.ref cK) ∧ RelV (.ref cK) (.ref cK)) (n_isinstance : mg "isinstance" = none) (n_int : mg "int" = none) (n_bool : mg "bool" = none) (n_str : mg "str" = none) (v_Source : mg "Source" = some (.ref c.src) ∧ RelV (.ref c.src) (.ref c.src)) (C_Source : Mkr P w K mg base 2 "Source" c.src ["self"] (spSub K .src)) (C_kind_by : Cal P w K mg base 5 "kind_by" ["word"] (spKindBy c)) (C_law_draw : Cal P w K mg base 1 "_law_draw" ["_law_cell", "_law_k", "_law_many"] spDraw) (C_law_kind : Cal P w K mg base 4 "_law_kind" ["_law_which", "_law_count"] (spLawKind c)) (C_law_asked : Cal P w K mg base 2 "_law_asked" ["_law_kind_here", "_law_which", "_law_count", "_law_width", "_law_numbers"] (spAsked c)) (n_range : mg "range" = none) (n_min : mg "min" = none) (n_len : mg "len" = none) : FnOk P w K mg base CX0 6 f fd ["_law_script"] (spLaw K) := by
  refine F.ok sc_law.S (fun vs H Q E h => ?_) (fun cdv A outer s H vs Q E hr h => ?_)
  · obtain ⟨a, ns, rfl, _⟩ := h
    rfl
  · obtain ⟨a, ns, rfl, hS, hlen, k⟩ := h
    have S := sc_law.sx (CX := CX0) (P := P) (w := w) (K := K) (mg := mg) (base := base) (qual := "law") (f := f) (cd := cdv) (A := A) (outer := outer) (s := s) (H := H) (E := E)
    have Sg := fun i {x} h => sc_law.gx (CX := CX0) (P := P) (w := w) (K := K) (mg := mg) (base := base) (qual := "law") (f := f) (cd := cdv) (A := A) (outer := outer) (s := s) (H := H) (E := E) i (x := x) h
    have hU := hr.units
    have S0 : CompSc ["_law_k"] ["_law_script", "_law_at", "_law_width"] (scopeOf (kidS (kidSS (bodyAt (top 24) 4) 4) 0)) (cxOf CX0 P w K mg base ["_law_script", "_law_wrong", "_law_word", "_law_source", "_law_at", "_law_cell", "_law_which", "_law_count", "_law_width", "_law_numbers", "_law_kind_here"] "law" (defScope s_law) f cdv A outer s H E).nox.env.scope := cs_law_0
    have K0 := fun C s₀ H₀ ex => S0.sx (C := C) (s₀ := s₀) (H₀ := H₀) (ex := ex) rfl cn_law_0
    refine ⟨_, (pss_cons (ps_st S 1 (pe_id (t := tTup (tLits lt_law_0)) ?L0))
      (pss_cons (ps_for PassesOwn.never rfl (i_val (K := K) rfl (nv S 1)) (pn S 2) (pss_one (ps_if (pt_of o_isnot (c_call C_kind_by (hr.mono (by decide)) (Sg 4 rfl) (pa_cons (nv S 2) pa_nil)) pe_non) (pss_one (ps_ret pe_bl)) pss_nil)))
      (pss_cons (ps_st S 3 (c_call C_kind_by (hr.mono (by decide)) (Sg 4 rfl) (pa_cons pe_str pa_nil)))
      (pss_cons (ps_if (PW.pt (pw_or (pt_not (pt_tr (K := K) rfl (k_isinstance (K := K) rfl (Sg 7 rfl) n_isinstance (pa_cons (nv S 3) (pa_cons (g_val (Sg 8 rfl) v_Source.1 v_Source.2) pa_nil))))) (pw_or (pt_of (o_ne (K := K) rfl hU) (m_call0 1 (hr.mono (by decide)) (MS := M_lines P w K mg base) (fun _ _ h => h) (nv S 3)) pe_int) (pw_or (pt_of (o_ne (K := K) rfl hU) (m_call0 1 (hr.mono (by decide)) (MS := M_word P w K mg base) (fun _ _ h => h) (nv S 3)) pe_str) (pw_or1 (pt_of (o_ne (K := K) rfl hU) (m_call0 1 (hr.mono (by decide)) (MS := M_word P w K mg base) (fun _ _ h => h) (c_make0 C_Source (hr.mono (by decide)) (Sg 8 rfl))) pe_str)))))) (pss_one (ps_ret pe_bl)) pss_nil)
      (pss_cons (ps_for PassesOwn.never rfl (i_range1 (Sg 0 rfl) n_range (pa_cons (k_min rfl (Sg 1 rfl) n_min (pa_cons (k_len (K := K) rfl (Sg 2 rfl) n_len (pa_cons (nv S 0) pa_nil)) (pa_cons pe_int pa_nil))) pa_nil)) (pn S 4) (pss_cons (ps_st S 5 (pe_op o_add (pe_ix (o_ix (K := K)) (nv S 0) (nv S 4) (fun _ _ => rfl)) (pe_op o_mul pe_int (nv S 4))))
      (pss_cons (ps_st S 6 (c_call C_law_draw (hr.mono (by decide)) (Sg 6 rfl) (pa_cons (nv S 5) (pa_cons pe_int (pa_cons pe_int pa_nil)))))
      (pss_cons (ps_st S 7 (pe_op o_add pe_int (c_call C_law_draw (hr.mono (by decide)) (Sg 6 rfl) (pa_cons (nv S 5) (pa_cons pe_int (pa_cons pe_int pa_nil))))))
      (pss_cons (ps_st S 8 (pe_op o_add pe_int (c_call C_law_draw (hr.mono (by decide)) (Sg 6 rfl) (pa_cons (nv S 5) (pa_cons pe_int (pa_cons pe_int pa_nil))))))
      (pss_cons (ps_cp S 9 S0 (js := [0, 4, 8]) rfl rfl (i_range1 (Sg 0 rfl) n_range (pa_cons pe_int pa_nil)) (pg1 S0) (fun C s₀ H₀ ex => pts_nil) (fun C s₀ H₀ ex => (pe_op o_mod (pe_op o_add (pe_op o_mul (pe_ix (o_ix (K := K)) (nv (K0 C s₀ H₀ ex) 1) (nv (K0 C s₀ H₀ ex) 2) (fun _ _ => rfl)) (pe_op o_add (nv (K0 C s₀ H₀ ex) 0) pe_int)) (pe_op o_mul pe_int (nv (K0 C s₀ H₀ ex) 0))) (pe_op o_shl pe_int (nv (K0 C s₀ H₀ ex) 3)))))
      (pss_cons (ps_if (pt_of (o_eq (K := K) rfl hU) (c_call C_law_draw (hr.mono (by decide)) (Sg 6 rfl) (pa_cons (nv S 5) (pa_cons pe_int (pa_cons pe_int pa_nil)))) pe_int) (pss_one (ps_asg pe_int (pg_sub (nv S 9) (c_call C_law_draw (hr.mono (by decide)) (Sg 6 rfl) (pa_cons (nv S 5) (pa_cons pe_int (pa_cons pe_int pa_nil)))) o_set))) pss_nil)
      (pss_cons (ps_if (pt_of (o_eq (K := K) rfl hU) (c_call C_law_draw (hr.mono (by decide)) (Sg 6 rfl) (pa_cons (nv S 5) (pa_cons pe_int (pa_cons pe_int pa_nil)))) pe_int) (pss_one (ps_asg (pe_op o_sub (pe_op o_shl pe_int (nv S 8)) pe_int) (pg_sub (nv S 9) (c_call C_law_draw (hr.mono (by decide)) (Sg 6 rfl) (pa_cons (nv S 5) (pa_cons pe_int (pa_cons pe_int pa_nil)))) o_set))) pss_nil)
      (pss_cons (ps_st S 10 (c_call C_law_kind (hr.mono (by decide)) (Sg 5 rfl) (pa_cons (nv S 6) (pa_cons (nv S 7) pa_nil))))
      (pss_cons (ps_if (pt_not (pt_tr (K := K) rfl (c_call C_law_asked (hr.mono (by decide)) (Sg 3 rfl) (pa_cons (nv S 10) (pa_cons (nv S 6) (pa_cons (nv S 7) (pa_cons (nv S 8) (pa_cons (nv S 9) pa_nil)))))))) (pss_one (ps_ret pe_bl)) pss_nil)
      (pss_one (ps_if (pt_not (pt_tr (K := K) rfl (c_call C_law_asked (hr.mono (by decide)) (Sg 3 rfl) (pa_cons (c_call C_kind_by (hr.mono (by decide)) (Sg 4 rfl) (pa_cons (m_call0 1 (hr.mono (by decide)) (MS := M_word P w K mg base) (fun _ _ h => h) (nv S 10)) pa_nil)) (pa_cons (nv S 6) (pa_cons (nv S 7) (pa_cons (nv S 8) (pa_cons (nv S 9) pa_nil)))))))) (pss_one (ps_ret pe_bl)) pss_nil))))))))))))
      (pss_one (ps_ret pe_bl))))))), ?_⟩
    case L0 =>
      refine pe_litT ?_
      rfl
    show (_ : TS) _ [some (.ref a), none, none, none, none, none, none, none, none, none, none] H
    simp only [tTup, tLits, tMk, tSl, tNoPart, tPart, rSlL, tAndV, e_tMt, e_mtR, e_isiC, e_isiT, tRet, tCB, tCons, tNil, tSeq, tIfS, tAsg, gName, tV, List.getElem?_cons_zero, List.getElem?_cons_succ, List.set_cons_zero, List.set_cons_succ, tC, tOp, e_tst, e_isB, e_tru, e_truB, e_truI, e_truN, tSp, tDrop, tNext, tNot, tOr, tAnd, tIf, e_eqI, e_eqS, e_neI, e_neS, e_eqNI, e_i0, e_i2, e_addI, e_addS, e_mulI, e_ixS, e_ixL, e_lenS, e_strI, e_intS, e_min, if_true, Bool.false_eq_true, if_false]
    refine ⟨by show 13 ≤ sizeLine; decide, fun p1 h1 => ?_⟩
    have sA : Same H (upd H p1 (HO.tup lt_law_0)) := fun b o e => by rw [upd_ne (ne_of_none e h1)]; exact e
    have tW : upd H p1 (HO.tup lt_law_0) p1 = some (HO.tup lt_law_0) := upd_same
    generalize upd H p1 (HO.tup lt_law_0) = H1 at sA tW
    refine tFor_by (Itt K p1) 13 (fun R h => ⟨_, .inr ⟨SqT.of tW, h⟩⟩) (fun i σ H' => Same H1 H' ∧ ∃ o, σ = [some (.ref a), some (.ref p1), o, none, none, none, none, none, none, none, none]) ⟨Same.rfl', _, rfl⟩ (fun i σ H' hi h => ?_) (fun σ H' h => ⟨_, SqT.of (h.1 _ _ tW), Nat.le_refl _⟩) (fun i σ H2 x H3 hi h y => ?_) (fun σ H' h => ?_)
    · have hi' : i < lt_law_0.length := hi
      exact ⟨_, _, SqT.of (h.1 _ _ tW), List.getElem?_eq_getElem hi'⟩
    · obtain ⟨rfl, y⟩ := y
      obtain ⟨s2, o, rfl⟩ := h
      obtain ⟨z, rfl, zl, zn⟩ := wrong_none (y _ (SqT.of (s2 _ _ tW)))
      simp only [tTup, tLits, tMk, tSl, tNoPart, tPart, rSlL, tAndV, e_tMt, e_mtR, e_isiC, e_isiT, tRet, tCB, tCons, tNil, tSeq, tIfS, tAsg, gName, tV, List.getElem?_cons_zero, List.getElem?_cons_succ, List.set_cons_zero, List.set_cons_succ, tC, tOp, e_tst, e_isB, e_tru, e_truB, e_truI, e_truN, tSp, tDrop, tNext, tNot, tOr, tAnd, tIf, e_eqI, e_eqS, e_neI, e_neS, e_eqNI, e_i0, e_i2, e_addI, e_addS, e_mulI, e_ixS, e_ixL, e_lenS, e_strI, e_intS, e_min, if_true, Bool.false_eq_true, if_false]
      refine ⟨z, rfl, zl, ?_⟩
      rw [zn]
      exact fun H4 s4 => ⟨trivial, by simp only [e_isB]; rw [if_neg (by decide)]; exact ⟨s2.trans s4, _, rfl⟩⟩
    obtain ⟨s2, o, rfl⟩ := h
    simp only [tTup, tLits, tMk, tSl, tNoPart, tPart, rSlL, tAndV, e_tMt, e_mtR, e_isiC, e_isiT, tRet, tCB, tCons, tNil, tSeq, tIfS, tAsg, gName, tV, List.getElem?_cons_zero, List.getElem?_cons_succ, List.set_cons_zero, List.set_cons_succ, tC, tOp, e_tst, e_isB, e_tru, e_truB, e_truI, e_truN, tSp, tDrop, tNext, tNot, tOr, tAnd, tIf, e_eqI, e_eqS, e_neI, e_neS, e_eqNI, e_i0, e_i2, e_addI, e_addS, e_mulI, e_ixS, e_ixL, e_lenS, e_strI, e_intS, e_min, if_true, Bool.false_eq_true, if_false]
    refine ⟨_, rfl, by decide +kernel, ?_⟩
    rw [kind_in]
    refine fun ps H3 s3 ns3 kS => ?_
    obtain ⟨dS, kS⟩ := kS
    have noW : (flds .src).lookup ("word" : Str) = none := flds_no _ (by decide +kernel) (by decide +kernel) (by decide +kernel)
    have noL : (flds .src).lookup ("lines" : Str) = none := flds_no _ (by decide +kernel) (by decide +kernel) (by decide +kernel)
    refine ⟨_, _, isT .src _ _ _ _ kS, kit_same _ _, ?_⟩
    rw [if_neg (by decide)]
    simp only [e_mtR, tNil]
    refine ⟨_, _, _, _, kS, noL, Ml .src, ps, _, dS, _, .int 0, rfl, kS, (ok .src).cl, (ok .src).nA, flds_asked .src, ?_⟩
    simp only [e_neI, e_isB]
    rw [if_neg (by decide)]
    refine ⟨_, _, _, _, kS, noW, Mw .src, ps, _, dS, _, .str (Kd.word .src), rfl, kS, (ok .src).cl, (ok .src).nT, flds_told .src, ?_⟩
    simp only [e_neS, e_isB]
    rw [if_neg (by decide +kernel)]
    refine mk_kind' (kd := .src) (ok .src) fun px H4 s4 n4 k4 => ?_
    obtain ⟨dX, k4⟩ := k4
    refine ⟨_, _, _, _, k4, noW, Mw .src, px, _, dX, _, .str (Kd.word .src), rfl, k4, (ok .src).cl, (ok .src).nT, flds_told .src, ?_⟩
    simp only [e_neS, e_isB]
    rw [if_neg (by decide +kernel)]
    have sH : Same H H4 := ((sA.trans s2).trans s3).trans s4
    refine tFor_by (Itr 0 (min ns.length 40)) (min ns.length 40) (fun R h => ?_) (fun i σ H' => Same H H' ∧ ∃ o2 o4 o5 o6 o7 o8 o9 o10, σ = [some (.ref a), some (.ref p1), o2, some (.ref ps), o4, o5, o6, o7, o8, o9, o10]) ⟨sH, _, _, _, _, _, _, _, _, rfl⟩ (fun i σ H' hi h => hi) (fun σ H' h => Nat.le_refl _) (fun i σ H5 x H6 hi h y => ?_) (fun σ H' h => k _)
    · simp only [iRg1, tCons, tCB, tC, tNil, tV, List.getElem?_cons_zero, e_lenR]
      refine .inl ⟨_, .inl (sH.seq hS), ?_⟩
      simp only [e_min, List.length_map]
      have e : (if (40 : Int) < (ns.length : Int) then (40 : Int) else (ns.length : Int)) = ((min ns.length 40 : Nat) : Int) := by split <;> omega
      rw [e]
      exact ⟨⟨by omega, by omega⟩, h⟩
    obtain ⟨rfl, rfl⟩ := y
    obtain ⟨s6, o2, o4, o5, o6, o7, o8, o9, o10, rfl⟩ := h
    obtain ⟨v, hv⟩ : ∃ v, ns[i]? = some v := ⟨ns[i], List.getElem?_eq_getElem (by omega)⟩
    have hix : atI (ns.map V.int) (0 + (i : Int)) = some (.int v) := by
      rw [Int.zero_add]
      exact atI_nat (by rw [List.getElem?_map, hv]; rfl)
    simp only [tTup, tLits, tMk, tSl, tNoPart, tPart, rSlL, tAndV, e_tMt, e_mtR, e_isiC, e_isiT, tRet, tCB, tCons, tNil, tSeq, tIfS, tAsg, gName, tV, List.getElem?_cons_zero, List.getElem?_cons_succ, List.set_cons_zero, List.set_cons_succ, tC, tOp, e_tst, e_isB, e_tru, e_truB, e_truI, e_truN, tSp, tDrop, tNext, tNot, tOr, tAnd, tIf, e_eqI, e_eqS, e_neI, e_neS, e_eqNI, e_i0, e_i2, e_addI, e_addS, e_mulI, e_ixS, e_ixL, e_lenS, e_strI, e_intS, e_min, if_true, Bool.false_eq_true, if_false]
    refine ⟨_, _, .inl (s6.seq hS), hix, .inl ⟨by decide, by decide⟩, ?_⟩
    simp only [e_addI]
    generalize v + 977 * (0 + (i : Int)) = cell
    refine ⟨cell, 8, 0, rfl, by decide, by decide, fun H7 s7 => ?_⟩
    refine ⟨cell, 63, 1, rfl, by decide, by decide, fun H8 s8 => ?_⟩
    simp only [e_addI]
    refine ⟨cell, 64, 2, rfl, by decide, by decide, fun H9 s9 => ?_⟩
    simp only [e_addI]
    obtain ⟨d0, d0'⟩ := draw_nn (cell := cell) (k := 0) (many := 8) (by decide)
    obtain ⟨d1, d1'⟩ := draw_nn (cell := cell) (k := 1) (many := 63) (by decide)
    obtain ⟨d2, d2'⟩ := draw_nn (cell := cell) (k := 2) (many := 64) (by decide)
    obtain ⟨kk, hkk⟩ := Int.eq_ofNat_of_zero_le d0
    rw [hkk]
    have hk8 : kk < 8 := by omega
    generalize draw cell 1 63 = q1 at d1 d1'
    generalize draw cell 2 64 = q2 at d2 d2'
    obtain ⟨cnt, hcnt⟩ : ∃ cnt, cnt = 1 + q1 := ⟨_, rfl⟩
    obtain ⟨wd, hwd⟩ : ∃ wd, wd = 1 + q2 := ⟨_, rfl⟩
    rw [← hcnt, ← hwd]
    have c1 : 1 ≤ cnt := by omega
    have c2 : cnt ≤ 63 := by omega
    have w1 : 1 ≤ wd := by omega
    have w2 : wd ≤ 64 := by omega
    have s79 : Same H H9 := ((s6.trans s7).trans s8).trans s9
    refine tComp_by (Itr 0 3) 3 (fun R h => ⟨⟨by decide, by decide⟩, h⟩) (fun j ys H' => H' = H9 ∧ ys = ((List.range j).map (num v wd)).map V.int) ⟨rfl, rfl⟩ (by decide) (fun j ys H' hj h => by rw [h.2]; simp) (fun j ys H' hj h => hj) (fun ys H' h => Nat.le_refl _) (fun j ys H' x H'' hj h y => ?_) (fun ys H' h p9 hp9 => ?_)
    · obtain ⟨rfl, rfl⟩ := y
      obtain ⟨rfl, rfl⟩ := h
      simp only [gx1, tYes, frv, List.map_cons, List.map_nil, Option.getD_some, List.cons_append, List.nil_append, tTup, tLits, tMk, tSl, tNoPart, tPart, rSlL, tAndV, e_tMt, e_mtR, e_isiC, e_isiT, tRet, tCB, tCons, tNil, tSeq, tIfS, tAsg, gName, tV, List.getElem?_cons_zero, List.getElem?_cons_succ, List.set_cons_zero, List.set_cons_succ, tC, tOp, e_tst, e_isB, e_tru, e_truB, e_truI, e_truN, tSp, tDrop, tNext, tNot, tOr, tAnd, tIf, e_eqI, e_eqS, e_neI, e_neS, e_eqNI, e_i0, e_i2, e_addI, e_addS, e_mulI, e_ixS, e_ixL, e_lenS, e_strI, e_intS, e_min, if_true, Bool.false_eq_true, if_false]
      refine ⟨_, _, .inl (s79.seq hS), hix, ?_⟩
      simp only [e_addI, e_mulI, e_i2]
      refine ⟨.inr ⟨by omega, by omega⟩, .inl ⟨by decide, by decide⟩, pow_ok w1 w2, pow_pos' wd, trivial, ?_⟩
      rw [List.range_succ, List.map_append, List.map_append]
      simp [num]
    obtain ⟨rfl, rfl⟩ := h
    have sN : Same H (upd H' p9 (HO.lst (((List.range 3).map (num v wd)).map V.int))) := fun b o e => by rw [upd_ne (ne_of_none (s79 _ _ e) hp9)]; exact s79 _ _ e
    have hp : H p9 = none := s79.free hp9
    have gN : upd H' p9 (HO.lst (((List.range 3).map (num v wd)).map V.int)) p9 = some (HO.lst (((List.range 3).map (num v wd)).map V.int)) := upd_same
    generalize upd H' p9 (HO.lst (((List.range 3).map (num v wd)).map V.int)) = HN at sN gN
    have lN : ((List.range 3).map (num v wd)).length = 3 := rfl
    have bN : ∀ x ∈ (List.range 3).map (num v wd), 0 ≤ x ∧ x < 2 ^ wd.toNat := fun x hx => num_bd hx
    generalize (List.range 3).map (num v wd) = nl at gN lN bN
    refine ⟨cell, 4, 3, rfl, by decide, by decide, fun HA sA' => ?_⟩
    have sNA := sN.trans sA'
    have gA := sA' _ _ gN
    simp only [e_eqI, e_isB]
    refine ite2 (fun _ => ?_) (fun _ => ?_)
    · simp only [gSub, rSetL, tSp, tCons, tC, tNil, tV, List.getElem?_cons_zero, List.getElem?_cons_succ]
      refine ⟨cell, 3, 4, rfl, by decide, by decide, fun HB sB' => ?_⟩
      obtain ⟨e0, e0'⟩ := draw_nn (cell := cell) (k := 4) (many := 3) (by decide)
      refine ⟨p9, _, _, (draw cell 4 3).toNat, rfl, rfl, sB' _ _ gA, ix_ok (by rw [List.length_map]; omega) e0 e0', ?_⟩
      rw [set_ints]
      have sC : Same H (upd HB p9 (HO.lst ((nl.set (draw cell 4 3).toNat 0).map V.int))) := fun b o e => by rw [upd_ne (ne_of_none e hp)]; exact (sNA.trans sB') _ _ e
      have gC : upd HB p9 (HO.lst ((nl.set (draw cell 4 3).toNat 0).map V.int)) p9 = some (HO.lst ((nl.set (draw cell 4 3).toNat 0).map V.int)) := upd_same
      generalize upd HB p9 (HO.lst ((nl.set (draw cell 4 3).toNat 0).map V.int)) = HC at sC gC
      have lC : (nl.set (draw cell 4 3).toNat 0).length = 3 := by rw [List.length_set]; exact lN
      have bC : ∀ x ∈ nl.set (draw cell 4 3).toNat 0, 0 ≤ x ∧ x < 2 ^ wd.toNat := set_bd bN ⟨by decide, Int.pow_pos (by decide)⟩
      generalize nl.set (draw cell 4 3).toNat 0 = nc at gC lC bC
      simp only [tTup, tLits, tMk, tSl, tNoPart, tPart, rSlL, tAndV, e_tMt, e_mtR, e_isiC, e_isiT, tRet, tCB, tCons, tNil, tSeq, tIfS, tAsg, gName, tV, List.getElem?_cons_zero, List.getElem?_cons_succ, List.set_cons_zero, List.set_cons_succ, tC, tOp, e_tst, e_isB, e_tru, e_truB, e_truI, e_truN, tSp, tDrop, tNext, tNot, tOr, tAnd, tIf, e_eqI, e_eqS, e_neI, e_neS, e_eqNI, e_i0, e_i2, e_addI, e_addS, e_mulI, e_ixS, e_ixL, e_lenS, e_strI, e_intS, e_min, if_true, Bool.false_eq_true, if_false]
      refine ⟨cell, 4, 5, rfl, by decide, by decide, fun HD sD' => ?_⟩
      simp only [e_eqI, e_isB]
      refine ite2 (fun _ => ?_) (fun _ => ?_)
      · try simp only [e_i2]
        refine ⟨pow_ok w1 w2, ?_⟩
        simp only [e_i0, gSub, rSetL, tSp, tCons, tC, tNil, tV, List.getElem?_cons_zero, List.getElem?_cons_succ]
        refine ⟨cell, 3, 6, rfl, by decide, by decide, fun HE sE' => ?_⟩
        obtain ⟨f0, f0'⟩ := draw_nn (cell := cell) (k := 6) (many := 3) (by decide)
        refine ⟨p9, _, _, (draw cell 6 3).toNat, rfl, rfl, sE' _ _ (sD' _ _ gC), ix_ok (by rw [List.length_map]; omega) f0 f0', ?_⟩
        rw [set_ints]
        have sF : Same H (upd HE p9 (HO.lst (((nc).set (draw cell 6 3).toNat (1 * 2 ^ wd.toNat - 1)).map V.int))) := fun b o e => by rw [upd_ne (ne_of_none e hp)]; exact ((sC.trans sD').trans sE') _ _ e
        have gF : upd HE p9 (HO.lst (((nc).set (draw cell 6 3).toNat (1 * 2 ^ wd.toNat - 1)).map V.int)) p9 = some (HO.lst (((nc).set (draw cell 6 3).toNat (1 * 2 ^ wd.toNat - 1)).map V.int)) := upd_same
        generalize upd HE p9 (HO.lst (((nc).set (draw cell 6 3).toNat (1 * 2 ^ wd.toNat - 1)).map V.int)) = HF at sF gF
        have lF : ((nc).set (draw cell 6 3).toNat (1 * 2 ^ wd.toNat - 1)).length = 3 := by rw [List.length_set]; exact lC
        have bF : ∀ x ∈ (nc).set (draw cell 6 3).toNat (1 * 2 ^ wd.toNat - 1), 0 ≤ x ∧ x < 2 ^ wd.toNat := set_bd bC ⟨by have := pow_pos' wd; omega, by rw [Int.one_mul]; omega⟩
        generalize (nc).set (draw cell 6 3).toNat (1 * 2 ^ wd.toNat - 1) = nf at gF lF bF
        simp only [tTup, tLits, tMk, tSl, tNoPart, tPart, rSlL, tAndV, e_tMt, e_mtR, e_isiC, e_isiT, tRet, tCB, tCons, tNil, tSeq, tIfS, tAsg, gName, tV, List.getElem?_cons_zero, List.getElem?_cons_succ, List.set_cons_zero, List.set_cons_succ, tC, tOp, e_tst, e_isB, e_tru, e_truB, e_truI, e_truN, tSp, tDrop, tNext, tNot, tOr, tAnd, tIf, e_eqI, e_eqS, e_neI, e_neS, e_eqNI, e_i0, e_i2, e_addI, e_addS, e_mulI, e_ixS, e_ixL, e_lenS, e_strI, e_intS, e_min, if_true, Bool.false_eq_true, if_false]
        refine ⟨kk, cnt, rfl, hk8, c1, c2, fun pk HK sK nK kK => ?_⟩
        refine ⟨pk, kk, cnt, wd, p9, nf, rfl, kK, hk8, c1, c2, w1, w2, sK _ _ gF, lF, bF, fun HL sL => ?_⟩
        simp only [e_truB]
        rw [if_neg (by decide)]
        obtain ⟨dk, kW⟩ := kK.mono sL
        simp only [e_mtR, tNil]
        refine ⟨_, _, _, _, kW, flds_no _ (by decide +kernel) (by decide +kernel) (by decide +kernel), Mw _, pk, _, dk, _, .str (kdOf kk cnt).word, rfl, kW, (ok _).cl, (ok _).nT, flds_told _, ?_⟩
        refine ⟨_, rfl, word_len c1 c2, ?_⟩
        rw [kind_word hk8 c1 c2]
        refine fun pj HJ sJ nJ kJ => ?_
        refine ⟨pj, kk, cnt, wd, p9, nf, rfl, kJ, hk8, c1, c2, w1, w2, ((sK.trans sL).trans sJ) _ _ gF, lF, bF, fun HM sM => ?_⟩
        simp only [e_truB]
        rw [if_neg (by decide)]
        exact ⟨sF.trans (((sK.trans sL).trans sJ).trans sM), _, _, _, _, _, _, _, _, rfl⟩
      · refine ⟨kk, cnt, rfl, hk8, c1, c2, fun pk HK sK nK kK => ?_⟩
        refine ⟨pk, kk, cnt, wd, p9, nc, rfl, kK, hk8, c1, c2, w1, w2, sK _ _ (sD' _ _ gC), lC, bC, fun HL sL => ?_⟩
        simp only [e_truB]
        rw [if_neg (by decide)]
        obtain ⟨dk, kW⟩ := kK.mono sL
        simp only [e_mtR, tNil]
        refine ⟨_, _, _, _, kW, flds_no _ (by decide +kernel) (by decide +kernel) (by decide +kernel), Mw _, pk, _, dk, _, .str (kdOf kk cnt).word, rfl, kW, (ok _).cl, (ok _).nT, flds_told _, ?_⟩
        refine ⟨_, rfl, word_len c1 c2, ?_⟩
        rw [kind_word hk8 c1 c2]
        refine fun pj HJ sJ nJ kJ => ?_
        refine ⟨pj, kk, cnt, wd, p9, nc, rfl, kJ, hk8, c1, c2, w1, w2, ((sK.trans sL).trans sJ) _ _ (sD' _ _ gC), lC, bC, fun HM sM => ?_⟩
        simp only [e_truB]
        rw [if_neg (by decide)]
        exact ⟨(sC.trans sD').trans (((sK.trans sL).trans sJ).trans sM), _, _, _, _, _, _, _, _, rfl⟩
    · refine ⟨cell, 4, 5, rfl, by decide, by decide, fun HD sD' => ?_⟩
      simp only [e_eqI, e_isB]
      refine ite2 (fun _ => ?_) (fun _ => ?_)
      · try simp only [e_i2]
        refine ⟨pow_ok w1 w2, ?_⟩
        simp only [e_i0, gSub, rSetL, tSp, tCons, tC, tNil, tV, List.getElem?_cons_zero, List.getElem?_cons_succ]
        refine ⟨cell, 3, 6, rfl, by decide, by decide, fun HE sE' => ?_⟩
        obtain ⟨f0, f0'⟩ := draw_nn (cell := cell) (k := 6) (many := 3) (by decide)
        refine ⟨p9, _, _, (draw cell 6 3).toNat, rfl, rfl, sE' _ _ (sD' _ _ gA), ix_ok (by rw [List.length_map]; omega) f0 f0', ?_⟩
        rw [set_ints]
        have sF : Same H (upd HE p9 (HO.lst (((nl).set (draw cell 6 3).toNat (1 * 2 ^ wd.toNat - 1)).map V.int))) := fun b o e => by rw [upd_ne (ne_of_none e hp)]; exact ((sNA.trans sD').trans sE') _ _ e
        have gF : upd HE p9 (HO.lst (((nl).set (draw cell 6 3).toNat (1 * 2 ^ wd.toNat - 1)).map V.int)) p9 = some (HO.lst (((nl).set (draw cell 6 3).toNat (1 * 2 ^ wd.toNat - 1)).map V.int)) := upd_same
        generalize upd HE p9 (HO.lst (((nl).set (draw cell 6 3).toNat (1 * 2 ^ wd.toNat - 1)).map V.int)) = HF at sF gF
        have lF : ((nl).set (draw cell 6 3).toNat (1 * 2 ^ wd.toNat - 1)).length = 3 := by rw [List.length_set]; exact lN
        have bF : ∀ x ∈ (nl).set (draw cell 6 3).toNat (1 * 2 ^ wd.toNat - 1), 0 ≤ x ∧ x < 2 ^ wd.toNat := set_bd bN ⟨by have := pow_pos' wd; omega, by rw [Int.one_mul]; omega⟩
        generalize (nl).set (draw cell 6 3).toNat (1 * 2 ^ wd.toNat - 1) = nf at gF lF bF
        simp only [tTup, tLits, tMk, tSl, tNoPart, tPart, rSlL, tAndV, e_tMt, e_mtR, e_isiC, e_isiT, tRet, tCB, tCons, tNil, tSeq, tIfS, tAsg, gName, tV, List.getElem?_cons_zero, List.getElem?_cons_succ, List.set_cons_zero, List.set_cons_succ, tC, tOp, e_tst, e_isB, e_tru, e_truB, e_truI, e_truN, tSp, tDrop, tNext, tNot, tOr, tAnd, tIf, e_eqI, e_eqS, e_neI, e_neS, e_eqNI, e_i0, e_i2, e_addI, e_addS, e_mulI, e_ixS, e_ixL, e_lenS, e_strI, e_intS, e_min, if_true, Bool.false_eq_true, if_false]
        refine ⟨kk, cnt, rfl, hk8, c1, c2, fun pk HK sK nK kK => ?_⟩
        refine ⟨pk, kk, cnt, wd, p9, nf, rfl, kK, hk8, c1, c2, w1, w2, sK _ _ gF, lF, bF, fun HL sL => ?_⟩
        simp only [e_truB]
        rw [if_neg (by decide)]
        obtain ⟨dk, kW⟩ := kK.mono sL
        simp only [e_mtR, tNil]
        refine ⟨_, _, _, _, kW, flds_no _ (by decide +kernel) (by decide +kernel) (by decide +kernel), Mw _, pk, _, dk, _, .str (kdOf kk cnt).word, rfl, kW, (ok _).cl, (ok _).nT, flds_told _, ?_⟩
        refine ⟨_, rfl, word_len c1 c2, ?_⟩
        rw [kind_word hk8 c1 c2]
        refine fun pj HJ sJ nJ kJ => ?_
        refine ⟨pj, kk, cnt, wd, p9, nf, rfl, kJ, hk8, c1, c2, w1, w2, ((sK.trans sL).trans sJ) _ _ gF, lF, bF, fun HM sM => ?_⟩
        simp only [e_truB]
        rw [if_neg (by decide)]
        exact ⟨sF.trans (((sK.trans sL).trans sJ).trans sM), _, _, _, _, _, _, _, _, rfl⟩
      · refine ⟨kk, cnt, rfl, hk8, c1, c2, fun pk HK sK nK kK => ?_⟩
        refine ⟨pk, kk, cnt, wd, p9, nl, rfl, kK, hk8, c1, c2, w1, w2, sK _ _ (sD' _ _ gA), lN, bN, fun HL sL => ?_⟩
        simp only [e_truB]
        rw [if_neg (by decide)]
        obtain ⟨dk, kW⟩ := kK.mono sL
        simp only [e_mtR, tNil]
        refine ⟨_, _, _, _, kW, flds_no _ (by decide +kernel) (by decide +kernel) (by decide +kernel), Mw _, pk, _, dk, _, .str (kdOf kk cnt).word, rfl, kW, (ok _).cl, (ok _).nT, flds_told _, ?_⟩
        refine ⟨_, rfl, word_len c1 c2, ?_⟩
        rw [kind_word hk8 c1 c2]
        refine fun pj HJ sJ nJ kJ => ?_
        refine ⟨pj, kk, cnt, wd, p9, nl, rfl, kJ, hk8, c1, c2, w1, w2, ((sK.trans sL).trans sJ) _ _ (sD' _ _ gA), lN, bN, fun HM sM => ?_⟩
        simp only [e_truB]
        rw [if_neg (by decide)]
        exact ⟨(sNA.trans sD').trans (((sK.trans sL).trans sJ).trans sM), _, _, _, _, _, _, _, _, rfl⟩
end
end K1

end
section
set_option maxRecDepth 100000
set_option maxHeartbeats 4000000
set_option linter.all false
namespace K1
open PySem L2
theorem M_made.imp {P : Program} {w : World} {K : PySem.W.Frag} {mg : Str → Option Value} {base : Heap} {C : Addr} {sp sp' : Sp} (M : M_made P w K mg base C sp) (h : ∀ vs H Q E, sp' vs H Q E → sp vs H Q E) : M_made P w K mg base C sp' := by
  obtain ⟨⟨f, fd, ps, a, F, b⟩, cl⟩ := M
  exact ⟨⟨f, fd, ps, a, F.imp h, b⟩, cl⟩
theorem all_mk {l : PySem.W.OpenLaw} {w : World} {K : PySem.W.Frag} {h : Heap} {mg : Str → Option Value} {fa CKind CSource CSink CBoth CEither COdd CPlus CPick CUp CDown f_made_of f_number_by f_plain_kind f_shifting_kind f_kind_by f_law_draw f_law_made f_law_kind f_law_asked f_law f_Kind_init f_Kind_lines f_Kind_word f_Source_init f_Sink_init f_Both_init f_Either_init f_Odd_init f_Plus_init f_Pick_init f_Up_init f_Down_init f_Sink_made f_Both_made f_Either_made f_Odd_made f_Plus_made f_Pick_made f_Up_made f_Down_made : Addr} {tF tM : Tok} (X : K.In h) (G : h.Ns mainGlobals mg) (hfa : mg "law" = some (.ref fa))
    {od0 an0 : Option Addr} {sl0 : Array (Option Value)} {oc0 kV0 dc0 pm0 cd0 ct0 : Value}
    {od1 an1 : Option Addr} {sl1 : Array (Option Value)} {oc1 kV1 dc1 pm1 cd1 ct1 : Value}
    {od2 an2 : Option Addr} {sl2 : Array (Option Value)} {oc2 kV2 dc2 pm2 cd2 ct2 : Value}
    {od3 an3 : Option Addr} {sl3 : Array (Option Value)} {oc3 kV3 dc3 pm3 cd3 ct3 : Value}
    {od4 an4 : Option Addr} {sl4 : Array (Option Value)} {oc4 kV4 dc4 pm4 cd4 ct4 : Value}
    {od5 an5 : Option Addr} {sl5 : Array (Option Value)} {oc5 kV5 dc5 pm5 cd5 ct5 : Value}
    {od6 an6 : Option Addr} {sl6 : Array (Option Value)} {oc6 kV6 dc6 pm6 cd6 ct6 : Value}
    {od7 an7 : Option Addr} {sl7 : Array (Option Value)} {oc7 kV7 dc7 pm7 cd7 ct7 : Value}
    {od8 an8 : Option Addr} {sl8 : Array (Option Value)} {oc8 kV8 dc8 pm8 cd8 ct8 : Value}
    {od9 an9 : Option Addr} {sl9 : Array (Option Value)} {oc9 kV9 dc9 pm9 cd9 ct9 : Value}
    {od10 an10 : Option Addr} {sl10 : Array (Option Value)} {oc10 kV10 dc10 pm10 cd10 ct10 : Value}
    {od11 an11 : Option Addr} {sl11 : Array (Option Value)} {oc11 kV11 dc11 pm11 cd11 ct11 : Value}
    {od12 an12 : Option Addr} {sl12 : Array (Option Value)} {oc12 kV12 dc12 pm12 cd12 ct12 : Value}
    {od13 an13 : Option Addr} {sl13 : Array (Option Value)} {oc13 kV13 dc13 pm13 cd13 ct13 : Value}
    {od14 an14 : Option Addr} {sl14 : Array (Option Value)} {oc14 kV14 dc14 pm14 cd14 ct14 : Value}
    {od15 an15 : Option Addr} {sl15 : Array (Option Value)} {oc15 kV15 dc15 pm15 cd15 ct15 : Value}
    {od16 an16 : Option Addr} {sl16 : Array (Option Value)} {oc16 kV16 dc16 pm16 cd16 ct16 : Value}
    {od17 an17 : Option Addr} {sl17 : Array (Option Value)} {oc17 kV17 dc17 pm17 cd17 ct17 : Value}
    {od18 an18 : Option Addr} {sl18 : Array (Option Value)} {oc18 kV18 dc18 pm18 cd18 ct18 : Value}
    {od19 an19 : Option Addr} {sl19 : Array (Option Value)} {oc19 kV19 dc19 pm19 cd19 ct19 : Value}
    {od20 an20 : Option Addr} {sl20 : Array (Option Value)} {oc20 kV20 dc20 pm20 cd20 ct20 : Value}
    {od21 an21 : Option Addr} {sl21 : Array (Option Value)} {oc21 kV21 dc21 pm21 cd21 ct21 : Value}
    {od22 an22 : Option Addr} {sl22 : Array (Option Value)} {oc22 kV22 dc22 pm22 cd22 ct22 : Value}
    {od23 an23 : Option Addr} {sl23 : Array (Option Value)} {oc23 kV23 dc23 pm23 cd23 ct23 : Value}
    {od24 an24 : Option Addr} {sl24 : Array (Option Value)} {oc24 kV24 dc24 pm24 cd24 ct24 : Value}
    {od25 an25 : Option Addr} {sl25 : Array (Option Value)} {oc25 kV25 dc25 pm25 cd25 ct25 : Value}
    {od26 an26 : Option Addr} {sl26 : Array (Option Value)} {oc26 kV26 dc26 pm26 cd26 ct26 : Value}
    {od27 an27 : Option Addr} {sl27 : Array (Option Value)} {oc27 kV27 dc27 pm27 cd27 ct27 : Value}
    {od28 an28 : Option Addr} {sl28 : Array (Option Value)} {oc28 kV28 dc28 pm28 cd28 ct28 : Value}
    {od29 an29 : Option Addr} {sl29 : Array (Option Value)} {oc29 kV29 dc29 pm29 cd29 ct29 : Value}
    (aKind : PySem.W.nsIn K mainGlobals "Kind" = some (some (.ref CKind)))
    (aSource : PySem.W.nsIn K mainGlobals "Source" = some (some (.ref CSource)))
    (aSink : PySem.W.nsIn K mainGlobals "Sink" = some (some (.ref CSink)))
    (aBoth : PySem.W.nsIn K mainGlobals "Both" = some (some (.ref CBoth)))
    (aEither : PySem.W.nsIn K mainGlobals "Either" = some (some (.ref CEither)))
    (aOdd : PySem.W.nsIn K mainGlobals "Odd" = some (some (.ref COdd)))
    (aPlus : PySem.W.nsIn K mainGlobals "Plus" = some (some (.ref CPlus)))
    (aPick : PySem.W.nsIn K mainGlobals "Pick" = some (some (.ref CPick)))
    (aUp : PySem.W.nsIn K mainGlobals "Up" = some (some (.ref CUp)))
    (aDown : PySem.W.nsIn K mainGlobals "Down" = some (some (.ref CDown)))
    (a_made_of : PySem.W.nsIn K mainGlobals "made_of" = some (some (.ref f_made_of)))
    (l0 : K.lookup f_made_of = some ⟨oc0, od0, .func (PySem.W.fnOf "made_of" "made_of" (defArgs s_made_of) (defBody s_made_of) (defScope s_made_of) .none kV0 dc0 pm0 an0 cd0 ct0), sl0⟩)
    (c0 : PySem.W.codeIn K cd0 "made_of" = true)
    (k0 : PySem.W.keepIn K (.ref f_made_of) = true)
    (a_number_by : PySem.W.nsIn K mainGlobals "number_by" = some (some (.ref f_number_by)))
    (l1 : K.lookup f_number_by = some ⟨oc1, od1, .func (PySem.W.fnOf "number_by" "number_by" (defArgs s_number_by) (defBody s_number_by) (defScope s_number_by) .none kV1 dc1 pm1 an1 cd1 ct1), sl1⟩)
    (c1 : PySem.W.codeIn K cd1 "number_by" = true)
    (k1 : PySem.W.keepIn K (.ref f_number_by) = true)
    (a_plain_kind : PySem.W.nsIn K mainGlobals "plain_kind" = some (some (.ref f_plain_kind)))
    (l2 : K.lookup f_plain_kind = some ⟨oc2, od2, .func (PySem.W.fnOf "plain_kind" "plain_kind" (defArgs s_plain_kind) (defBody s_plain_kind) (defScope s_plain_kind) .none kV2 dc2 pm2 an2 cd2 ct2), sl2⟩)
    (c2 : PySem.W.codeIn K cd2 "plain_kind" = true)
    (k2 : PySem.W.keepIn K (.ref f_plain_kind) = true)
    (a_shifting_kind : PySem.W.nsIn K mainGlobals "shifting_kind" = some (some (.ref f_shifting_kind)))
    (l3 : K.lookup f_shifting_kind = some ⟨oc3, od3, .func (PySem.W.fnOf "shifting_kind" "shifting_kind" (defArgs s_shifting_kind) (defBody s_shifting_kind) (defScope s_shifting_kind) .none kV3 dc3 pm3 an3 cd3 ct3), sl3⟩)
    (c3 : PySem.W.codeIn K cd3 "shifting_kind" = true)
    (k3 : PySem.W.keepIn K (.ref f_shifting_kind) = true)
    (a_kind_by : PySem.W.nsIn K mainGlobals "kind_by" = some (some (.ref f_kind_by)))
    (l4 : K.lookup f_kind_by = some ⟨oc4, od4, .func (PySem.W.fnOf "kind_by" "kind_by" (defArgs s_kind_by) (defBody s_kind_by) (defScope s_kind_by) .none kV4 dc4 pm4 an4 cd4 ct4), sl4⟩)
    (c4 : PySem.W.codeIn K cd4 "kind_by" = true)
    (k4 : PySem.W.keepIn K (.ref f_kind_by) = true)
    (a_law_draw : PySem.W.nsIn K mainGlobals "_law_draw" = some (some (.ref f_law_draw)))
    (l5 : K.lookup f_law_draw = some ⟨oc5, od5, .func (PySem.W.fnOf "_law_draw" "_law_draw" (defArgs s_law_draw) (defBody s_law_draw) (defScope s_law_draw) .none kV5 dc5 pm5 an5 cd5 ct5), sl5⟩)
    (c5 : PySem.W.codeIn K cd5 "_law_draw" = true)
    (k5 : PySem.W.keepIn K (.ref f_law_draw) = true)
    (a_law_made : PySem.W.nsIn K mainGlobals "_law_made" = some (some (.ref f_law_made)))
    (l6 : K.lookup f_law_made = some ⟨oc6, od6, .func (PySem.W.fnOf "_law_made" "_law_made" (defArgs s_law_made) (defBody s_law_made) (defScope s_law_made) .none kV6 dc6 pm6 an6 cd6 ct6), sl6⟩)
    (c6 : PySem.W.codeIn K cd6 "_law_made" = true)
    (k6 : PySem.W.keepIn K (.ref f_law_made) = true)
    (a_law_kind : PySem.W.nsIn K mainGlobals "_law_kind" = some (some (.ref f_law_kind)))
    (l7 : K.lookup f_law_kind = some ⟨oc7, od7, .func (PySem.W.fnOf "_law_kind" "_law_kind" (defArgs s_law_kind) (defBody s_law_kind) (defScope s_law_kind) .none kV7 dc7 pm7 an7 cd7 ct7), sl7⟩)
    (c7 : PySem.W.codeIn K cd7 "_law_kind" = true)
    (k7 : PySem.W.keepIn K (.ref f_law_kind) = true)
    (a_law_asked : PySem.W.nsIn K mainGlobals "_law_asked" = some (some (.ref f_law_asked)))
    (l8 : K.lookup f_law_asked = some ⟨oc8, od8, .func (PySem.W.fnOf "_law_asked" "_law_asked" (defArgs s_law_asked) (defBody s_law_asked) (defScope s_law_asked) .none kV8 dc8 pm8 an8 cd8 ct8), sl8⟩)
    (c8 : PySem.W.codeIn K cd8 "_law_asked" = true)
    (k8 : PySem.W.keepIn K (.ref f_law_asked) = true)
    (a_law : PySem.W.nsIn K mainGlobals "law" = some (some (.ref f_law)))
    (l9 : K.lookup f_law = some ⟨oc9, od9, .func (PySem.W.fnOf "law" "law" (defArgs s_law) (defBody s_law) (defScope s_law) .none kV9 dc9 pm9 an9 cd9 ct9), sl9⟩)
    (c9 : PySem.W.codeIn K cd9 "law" = true)
    (k9 : PySem.W.keepIn K (.ref f_law) = true)
    (a_Kind_init : PySem.W.findIn K (.ref CKind) "__init__" = some (some (.ref f_Kind_init)))
    (i_Kind_init : PySem.W.isFn K (.ref f_Kind_init) = true)
    (l10 : K.lookup f_Kind_init = some ⟨oc10, od10, .func (PySem.W.fnOf "__init__" "Kind.__init__" (defArgs s_Kind_init) (defBody s_Kind_init) (defScope s_Kind_init) .none kV10 dc10 pm10 an10 cd10 ct10), sl10⟩)
    (c10 : PySem.W.codeIn K cd10 "Kind.__init__" = true)
    (k10 : PySem.W.keepIn K (.ref f_Kind_init) = true)
    (a_Kind_lines : PySem.W.findIn K (.ref CKind) "lines" = some (some (.ref f_Kind_lines)))
    (i_Kind_lines : PySem.W.isFn K (.ref f_Kind_lines) = true)
    (l11 : K.lookup f_Kind_lines = some ⟨oc11, od11, .func (PySem.W.fnOf "lines" "Kind.lines" (defArgs s_Kind_lines) (defBody s_Kind_lines) (defScope s_Kind_lines) .none kV11 dc11 pm11 an11 cd11 ct11), sl11⟩)
    (c11 : PySem.W.codeIn K cd11 "Kind.lines" = true)
    (k11 : PySem.W.keepIn K (.ref f_Kind_lines) = true)
    (a_Kind_word : PySem.W.findIn K (.ref CKind) "word" = some (some (.ref f_Kind_word)))
    (i_Kind_word : PySem.W.isFn K (.ref f_Kind_word) = true)
    (l12 : K.lookup f_Kind_word = some ⟨oc12, od12, .func (PySem.W.fnOf "word" "Kind.word" (defArgs s_Kind_word) (defBody s_Kind_word) (defScope s_Kind_word) .none kV12 dc12 pm12 an12 cd12 ct12), sl12⟩)
    (c12 : PySem.W.codeIn K cd12 "Kind.word" = true)
    (k12 : PySem.W.keepIn K (.ref f_Kind_word) = true)
    (a_Source_init : PySem.W.findIn K (.ref CSource) "__init__" = some (some (.ref f_Source_init)))
    (i_Source_init : PySem.W.isFn K (.ref f_Source_init) = true)
    (l13 : K.lookup f_Source_init = some ⟨oc13, od13, .func (PySem.W.fnOf "__init__" "Source.__init__" (defArgs s_Source_init) (defBody s_Source_init) (defScope s_Source_init) .none kV13 dc13 pm13 an13 cd13 ct13), sl13⟩)
    (c13 : PySem.W.codeIn K cd13 "Source.__init__" = true)
    (k13 : PySem.W.keepIn K (.ref f_Source_init) = true)
    (a_Sink_init : PySem.W.findIn K (.ref CSink) "__init__" = some (some (.ref f_Sink_init)))
    (i_Sink_init : PySem.W.isFn K (.ref f_Sink_init) = true)
    (l14 : K.lookup f_Sink_init = some ⟨oc14, od14, .func (PySem.W.fnOf "__init__" "Sink.__init__" (defArgs s_Sink_init) (defBody s_Sink_init) (defScope s_Sink_init) .none kV14 dc14 pm14 an14 cd14 ct14), sl14⟩)
    (c14 : PySem.W.codeIn K cd14 "Sink.__init__" = true)
    (k14 : PySem.W.keepIn K (.ref f_Sink_init) = true)
    (a_Both_init : PySem.W.findIn K (.ref CBoth) "__init__" = some (some (.ref f_Both_init)))
    (i_Both_init : PySem.W.isFn K (.ref f_Both_init) = true)
    (l15 : K.lookup f_Both_init = some ⟨oc15, od15, .func (PySem.W.fnOf "__init__" "Both.__init__" (defArgs s_Both_init) (defBody s_Both_init) (defScope s_Both_init) .none kV15 dc15 pm15 an15 cd15 ct15), sl15⟩)
    (c15 : PySem.W.codeIn K cd15 "Both.__init__" = true)
    (k15 : PySem.W.keepIn K (.ref f_Both_init) = true)
    (a_Either_init : PySem.W.findIn K (.ref CEither) "__init__" = some (some (.ref f_Either_init)))
    (i_Either_init : PySem.W.isFn K (.ref f_Either_init) = true)
    (l16 : K.lookup f_Either_init = some ⟨oc16, od16, .func (PySem.W.fnOf "__init__" "Either.__init__" (defArgs s_Either_init) (defBody s_Either_init) (defScope s_Either_init) .none kV16 dc16 pm16 an16 cd16 ct16), sl16⟩)
    (c16 : PySem.W.codeIn K cd16 "Either.__init__" = true)
    (k16 : PySem.W.keepIn K (.ref f_Either_init) = true)
    (a_Odd_init : PySem.W.findIn K (.ref COdd) "__init__" = some (some (.ref f_Odd_init)))
    (i_Odd_init : PySem.W.isFn K (.ref f_Odd_init) = true)
    (l17 : K.lookup f_Odd_init = some ⟨oc17, od17, .func (PySem.W.fnOf "__init__" "Odd.__init__" (defArgs s_Odd_init) (defBody s_Odd_init) (defScope s_Odd_init) .none kV17 dc17 pm17 an17 cd17 ct17), sl17⟩)
    (c17 : PySem.W.codeIn K cd17 "Odd.__init__" = true)
    (k17 : PySem.W.keepIn K (.ref f_Odd_init) = true)
    (a_Plus_init : PySem.W.findIn K (.ref CPlus) "__init__" = some (some (.ref f_Plus_init)))
    (i_Plus_init : PySem.W.isFn K (.ref f_Plus_init) = true)
    (l18 : K.lookup f_Plus_init = some ⟨oc18, od18, .func (PySem.W.fnOf "__init__" "Plus.__init__" (defArgs s_Plus_init) (defBody s_Plus_init) (defScope s_Plus_init) .none kV18 dc18 pm18 an18 cd18 ct18), sl18⟩)
    (c18 : PySem.W.codeIn K cd18 "Plus.__init__" = true)
    (k18 : PySem.W.keepIn K (.ref f_Plus_init) = true)
    (a_Pick_init : PySem.W.findIn K (.ref CPick) "__init__" = some (some (.ref f_Pick_init)))
    (i_Pick_init : PySem.W.isFn K (.ref f_Pick_init) = true)
    (l19 : K.lookup f_Pick_init = some ⟨oc19, od19, .func (PySem.W.fnOf "__init__" "Pick.__init__" (defArgs s_Pick_init) (defBody s_Pick_init) (defScope s_Pick_init) .none kV19 dc19 pm19 an19 cd19 ct19), sl19⟩)
    (c19 : PySem.W.codeIn K cd19 "Pick.__init__" = true)
    (k19 : PySem.W.keepIn K (.ref f_Pick_init) = true)
    (a_Up_init : PySem.W.findIn K (.ref CUp) "__init__" = some (some (.ref f_Up_init)))
    (i_Up_init : PySem.W.isFn K (.ref f_Up_init) = true)
    (l20 : K.lookup f_Up_init = some ⟨oc20, od20, .func (PySem.W.fnOf "__init__" "Up.__init__" (defArgs s_Up_init) (defBody s_Up_init) (defScope s_Up_init) .none kV20 dc20 pm20 an20 cd20 ct20), sl20⟩)
    (c20 : PySem.W.codeIn K cd20 "Up.__init__" = true)
    (k20 : PySem.W.keepIn K (.ref f_Up_init) = true)
    (a_Down_init : PySem.W.findIn K (.ref CDown) "__init__" = some (some (.ref f_Down_init)))
    (i_Down_init : PySem.W.isFn K (.ref f_Down_init) = true)
    (l21 : K.lookup f_Down_init = some ⟨oc21, od21, .func (PySem.W.fnOf "__init__" "Down.__init__" (defArgs s_Down_init) (defBody s_Down_init) (defScope s_Down_init) .none kV21 dc21 pm21 an21 cd21 ct21), sl21⟩)
    (c21 : PySem.W.codeIn K cd21 "Down.__init__" = true)
    (k21 : PySem.W.keepIn K (.ref f_Down_init) = true)
    (a_Sink_made : PySem.W.findIn K (.ref CSink) "made" = some (some (.ref f_Sink_made)))
    (i_Sink_made : PySem.W.isFn K (.ref f_Sink_made) = true)
    (l22 : K.lookup f_Sink_made = some ⟨oc22, od22, .func (PySem.W.fnOf "made" "Sink.made" (defArgs s_Sink_made) (defBody s_Sink_made) (defScope s_Sink_made) .none kV22 dc22 pm22 an22 cd22 ct22), sl22⟩)
    (c22 : PySem.W.codeIn K cd22 "Sink.made" = true)
    (k22 : PySem.W.keepIn K (.ref f_Sink_made) = true)
    (a_Both_made : PySem.W.findIn K (.ref CBoth) "made" = some (some (.ref f_Both_made)))
    (i_Both_made : PySem.W.isFn K (.ref f_Both_made) = true)
    (l23 : K.lookup f_Both_made = some ⟨oc23, od23, .func (PySem.W.fnOf "made" "Both.made" (defArgs s_Both_made) (defBody s_Both_made) (defScope s_Both_made) .none kV23 dc23 pm23 an23 cd23 ct23), sl23⟩)
    (c23 : PySem.W.codeIn K cd23 "Both.made" = true)
    (k23 : PySem.W.keepIn K (.ref f_Both_made) = true)
    (a_Either_made : PySem.W.findIn K (.ref CEither) "made" = some (some (.ref f_Either_made)))
    (i_Either_made : PySem.W.isFn K (.ref f_Either_made) = true)
    (l24 : K.lookup f_Either_made = some ⟨oc24, od24, .func (PySem.W.fnOf "made" "Either.made" (defArgs s_Either_made) (defBody s_Either_made) (defScope s_Either_made) .none kV24 dc24 pm24 an24 cd24 ct24), sl24⟩)
    (c24 : PySem.W.codeIn K cd24 "Either.made" = true)
    (k24 : PySem.W.keepIn K (.ref f_Either_made) = true)
    (a_Odd_made : PySem.W.findIn K (.ref COdd) "made" = some (some (.ref f_Odd_made)))
    (i_Odd_made : PySem.W.isFn K (.ref f_Odd_made) = true)
    (l25 : K.lookup f_Odd_made = some ⟨oc25, od25, .func (PySem.W.fnOf "made" "Odd.made" (defArgs s_Odd_made) (defBody s_Odd_made) (defScope s_Odd_made) .none kV25 dc25 pm25 an25 cd25 ct25), sl25⟩)
    (c25 : PySem.W.codeIn K cd25 "Odd.made" = true)
    (k25 : PySem.W.keepIn K (.ref f_Odd_made) = true)
    (a_Plus_made : PySem.W.findIn K (.ref CPlus) "made" = some (some (.ref f_Plus_made)))
    (i_Plus_made : PySem.W.isFn K (.ref f_Plus_made) = true)
    (l26 : K.lookup f_Plus_made = some ⟨oc26, od26, .func (PySem.W.fnOf "made" "Plus.made" (defArgs s_Plus_made) (defBody s_Plus_made) (defScope s_Plus_made) .none kV26 dc26 pm26 an26 cd26 ct26), sl26⟩)
    (c26 : PySem.W.codeIn K cd26 "Plus.made" = true)
    (k26 : PySem.W.keepIn K (.ref f_Plus_made) = true)
    (a_Pick_made : PySem.W.findIn K (.ref CPick) "made" = some (some (.ref f_Pick_made)))
    (i_Pick_made : PySem.W.isFn K (.ref f_Pick_made) = true)
    (l27 : K.lookup f_Pick_made = some ⟨oc27, od27, .func (PySem.W.fnOf "made" "Pick.made" (defArgs s_Pick_made) (defBody s_Pick_made) (defScope s_Pick_made) .none kV27 dc27 pm27 an27 cd27 ct27), sl27⟩)
    (c27 : PySem.W.codeIn K cd27 "Pick.made" = true)
    (k27 : PySem.W.keepIn K (.ref f_Pick_made) = true)
    (a_Up_made : PySem.W.findIn K (.ref CUp) "made" = some (some (.ref f_Up_made)))
    (i_Up_made : PySem.W.isFn K (.ref f_Up_made) = true)
    (l28 : K.lookup f_Up_made = some ⟨oc28, od28, .func (PySem.W.fnOf "made" "Up.made" (defArgs s_Up_made) (defBody s_Up_made) (defScope s_Up_made) .none kV28 dc28 pm28 an28 cd28 ct28), sl28⟩)
    (c28 : PySem.W.codeIn K cd28 "Up.made" = true)
    (k28 : PySem.W.keepIn K (.ref f_Up_made) = true)
    (a_Down_made : PySem.W.findIn K (.ref CDown) "made" = some (some (.ref f_Down_made)))
    (i_Down_made : PySem.W.isFn K (.ref f_Down_made) = true)
    (l29 : K.lookup f_Down_made = some ⟨oc29, od29, .func (PySem.W.fnOf "made" "Down.made" (defArgs s_Down_made) (defBody s_Down_made) (defScope s_Down_made) .none kV29 dc29 pm29 an29 cd29 ct29), sl29⟩)
    (c29 : PySem.W.codeIn K cd29 "Down.made" = true)
    (k29 : PySem.W.keepIn K (.ref f_Down_made) = true)
    (w_Source : PySem.W.findIn K (.ref CSource) "word" = some (some (.ref f_Kind_word)))
    (n_Source : PySem.W.findIn K (.ref CSource) "lines" = some (some (.ref f_Kind_lines)))
    (pgSource : PySem.W.plainGet K CSource Str.empty = true)
    (hdSource : PySem.W.hasDictIn K CSource = true)
    (poSource : PySem.W.plainOver K CSource = true)
    (saSource : PySem.W.findIn K (.ref CSource) "__setattr__" = some (some (.builtin "object.__setattr__")))
    (mkSource : PySem.W.makesIn K CSource = true)
    (kcSource : PySem.W.keepIn K (.ref CSource) = true)
    (nTSource : PySem.W.findIn K (.ref CSource) "told" = some none)
    (nASource : PySem.W.findIn K (.ref CSource) "asked" = some none)
    (nCSource : PySem.W.findIn K (.ref CSource) "count" = some none)
    (tySource : PySem.W.findIn K (.ref CSource) "__class__" = some (some (.builtin "object.__class__")))
    (mrSource : PySem.W.mroIn K CSource (.type "object") = some true)
    (ktSource : PySem.W.kitOne K (.ref CSource) (.ref CKind) = some true)
    (w_Sink : PySem.W.findIn K (.ref CSink) "word" = some (some (.ref f_Kind_word)))
    (n_Sink : PySem.W.findIn K (.ref CSink) "lines" = some (some (.ref f_Kind_lines)))
    (pgSink : PySem.W.plainGet K CSink Str.empty = true)
    (hdSink : PySem.W.hasDictIn K CSink = true)
    (poSink : PySem.W.plainOver K CSink = true)
    (saSink : PySem.W.findIn K (.ref CSink) "__setattr__" = some (some (.builtin "object.__setattr__")))
    (mkSink : PySem.W.makesIn K CSink = true)
    (kcSink : PySem.W.keepIn K (.ref CSink) = true)
    (nTSink : PySem.W.findIn K (.ref CSink) "told" = some none)
    (nASink : PySem.W.findIn K (.ref CSink) "asked" = some none)
    (nCSink : PySem.W.findIn K (.ref CSink) "count" = some none)
    (tySink : PySem.W.findIn K (.ref CSink) "__class__" = some (some (.builtin "object.__class__")))
    (mrSink : PySem.W.mroIn K CSink (.type "object") = some true)
    (ktSink : PySem.W.kitOne K (.ref CSink) (.ref CKind) = some true)
    (w_Both : PySem.W.findIn K (.ref CBoth) "word" = some (some (.ref f_Kind_word)))
    (n_Both : PySem.W.findIn K (.ref CBoth) "lines" = some (some (.ref f_Kind_lines)))
    (pgBoth : PySem.W.plainGet K CBoth Str.empty = true)
    (hdBoth : PySem.W.hasDictIn K CBoth = true)
    (poBoth : PySem.W.plainOver K CBoth = true)
    (saBoth : PySem.W.findIn K (.ref CBoth) "__setattr__" = some (some (.builtin "object.__setattr__")))
    (mkBoth : PySem.W.makesIn K CBoth = true)
    (kcBoth : PySem.W.keepIn K (.ref CBoth) = true)
    (nTBoth : PySem.W.findIn K (.ref CBoth) "told" = some none)
    (nABoth : PySem.W.findIn K (.ref CBoth) "asked" = some none)
    (nCBoth : PySem.W.findIn K (.ref CBoth) "count" = some none)
    (tyBoth : PySem.W.findIn K (.ref CBoth) "__class__" = some (some (.builtin "object.__class__")))
    (mrBoth : PySem.W.mroIn K CBoth (.type "object") = some true)
    (ktBoth : PySem.W.kitOne K (.ref CBoth) (.ref CKind) = some true)
    (w_Either : PySem.W.findIn K (.ref CEither) "word" = some (some (.ref f_Kind_word)))
    (n_Either : PySem.W.findIn K (.ref CEither) "lines" = some (some (.ref f_Kind_lines)))
    (pgEither : PySem.W.plainGet K CEither Str.empty = true)
    (hdEither : PySem.W.hasDictIn K CEither = true)
    (poEither : PySem.W.plainOver K CEither = true)
    (saEither : PySem.W.findIn K (.ref CEither) "__setattr__" = some (some (.builtin "object.__setattr__")))
    (mkEither : PySem.W.makesIn K CEither = true)
    (kcEither : PySem.W.keepIn K (.ref CEither) = true)
    (nTEither : PySem.W.findIn K (.ref CEither) "told" = some none)
    (nAEither : PySem.W.findIn K (.ref CEither) "asked" = some none)
    (nCEither : PySem.W.findIn K (.ref CEither) "count" = some none)
    (tyEither : PySem.W.findIn K (.ref CEither) "__class__" = some (some (.builtin "object.__class__")))
    (mrEither : PySem.W.mroIn K CEither (.type "object") = some true)
    (ktEither : PySem.W.kitOne K (.ref CEither) (.ref CKind) = some true)
    (w_Odd : PySem.W.findIn K (.ref COdd) "word" = some (some (.ref f_Kind_word)))
    (n_Odd : PySem.W.findIn K (.ref COdd) "lines" = some (some (.ref f_Kind_lines)))
    (pgOdd : PySem.W.plainGet K COdd Str.empty = true)
    (hdOdd : PySem.W.hasDictIn K COdd = true)
    (poOdd : PySem.W.plainOver K COdd = true)
    (saOdd : PySem.W.findIn K (.ref COdd) "__setattr__" = some (some (.builtin "object.__setattr__")))
    (mkOdd : PySem.W.makesIn K COdd = true)
    (kcOdd : PySem.W.keepIn K (.ref COdd) = true)
    (nTOdd : PySem.W.findIn K (.ref COdd) "told" = some none)
    (nAOdd : PySem.W.findIn K (.ref COdd) "asked" = some none)
    (nCOdd : PySem.W.findIn K (.ref COdd) "count" = some none)
    (tyOdd : PySem.W.findIn K (.ref COdd) "__class__" = some (some (.builtin "object.__class__")))
    (mrOdd : PySem.W.mroIn K COdd (.type "object") = some true)
    (ktOdd : PySem.W.kitOne K (.ref COdd) (.ref CKind) = some true)
    (w_Plus : PySem.W.findIn K (.ref CPlus) "word" = some (some (.ref f_Kind_word)))
    (n_Plus : PySem.W.findIn K (.ref CPlus) "lines" = some (some (.ref f_Kind_lines)))
    (pgPlus : PySem.W.plainGet K CPlus Str.empty = true)
    (hdPlus : PySem.W.hasDictIn K CPlus = true)
    (poPlus : PySem.W.plainOver K CPlus = true)
    (saPlus : PySem.W.findIn K (.ref CPlus) "__setattr__" = some (some (.builtin "object.__setattr__")))
    (mkPlus : PySem.W.makesIn K CPlus = true)
    (kcPlus : PySem.W.keepIn K (.ref CPlus) = true)
    (nTPlus : PySem.W.findIn K (.ref CPlus) "told" = some none)
    (nAPlus : PySem.W.findIn K (.ref CPlus) "asked" = some none)
    (nCPlus : PySem.W.findIn K (.ref CPlus) "count" = some none)
    (tyPlus : PySem.W.findIn K (.ref CPlus) "__class__" = some (some (.builtin "object.__class__")))
    (mrPlus : PySem.W.mroIn K CPlus (.type "object") = some true)
    (ktPlus : PySem.W.kitOne K (.ref CPlus) (.ref CKind) = some true)
    (w_Pick : PySem.W.findIn K (.ref CPick) "word" = some (some (.ref f_Kind_word)))
    (n_Pick : PySem.W.findIn K (.ref CPick) "lines" = some (some (.ref f_Kind_lines)))
    (pgPick : PySem.W.plainGet K CPick Str.empty = true)
    (hdPick : PySem.W.hasDictIn K CPick = true)
    (poPick : PySem.W.plainOver K CPick = true)
    (saPick : PySem.W.findIn K (.ref CPick) "__setattr__" = some (some (.builtin "object.__setattr__")))
    (mkPick : PySem.W.makesIn K CPick = true)
    (kcPick : PySem.W.keepIn K (.ref CPick) = true)
    (nTPick : PySem.W.findIn K (.ref CPick) "told" = some none)
    (nAPick : PySem.W.findIn K (.ref CPick) "asked" = some none)
    (nCPick : PySem.W.findIn K (.ref CPick) "count" = some none)
    (tyPick : PySem.W.findIn K (.ref CPick) "__class__" = some (some (.builtin "object.__class__")))
    (mrPick : PySem.W.mroIn K CPick (.type "object") = some true)
    (ktPick : PySem.W.kitOne K (.ref CPick) (.ref CKind) = some true)
    (w_Up : PySem.W.findIn K (.ref CUp) "word" = some (some (.ref f_Kind_word)))
    (n_Up : PySem.W.findIn K (.ref CUp) "lines" = some (some (.ref f_Kind_lines)))
    (pgUp : PySem.W.plainGet K CUp Str.empty = true)
    (hdUp : PySem.W.hasDictIn K CUp = true)
    (poUp : PySem.W.plainOver K CUp = true)
    (saUp : PySem.W.findIn K (.ref CUp) "__setattr__" = some (some (.builtin "object.__setattr__")))
    (mkUp : PySem.W.makesIn K CUp = true)
    (kcUp : PySem.W.keepIn K (.ref CUp) = true)
    (nTUp : PySem.W.findIn K (.ref CUp) "told" = some none)
    (nAUp : PySem.W.findIn K (.ref CUp) "asked" = some none)
    (nCUp : PySem.W.findIn K (.ref CUp) "count" = some none)
    (tyUp : PySem.W.findIn K (.ref CUp) "__class__" = some (some (.builtin "object.__class__")))
    (mrUp : PySem.W.mroIn K CUp (.type "object") = some true)
    (ktUp : PySem.W.kitOne K (.ref CUp) (.ref CKind) = some true)
    (w_Down : PySem.W.findIn K (.ref CDown) "word" = some (some (.ref f_Kind_word)))
    (n_Down : PySem.W.findIn K (.ref CDown) "lines" = some (some (.ref f_Kind_lines)))
    (pgDown : PySem.W.plainGet K CDown Str.empty = true)
    (hdDown : PySem.W.hasDictIn K CDown = true)
    (poDown : PySem.W.plainOver K CDown = true)
    (saDown : PySem.W.findIn K (.ref CDown) "__setattr__" = some (some (.builtin "object.__setattr__")))
    (mkDown : PySem.W.makesIn K CDown = true)
    (kcDown : PySem.W.keepIn K (.ref CDown) = true)
    (nTDown : PySem.W.findIn K (.ref CDown) "told" = some none)
    (nADown : PySem.W.findIn K (.ref CDown) "asked" = some none)
    (nCDown : PySem.W.findIn K (.ref CDown) "count" = some none)
    (tyDown : PySem.W.findIn K (.ref CDown) "__class__" = some (some (.builtin "object.__class__")))
    (mrDown : PySem.W.mroIn K CDown (.type "object") = some true)
    (ktDown : PySem.W.kitOne K (.ref CDown) (.ref CKind) = some true)
    (g1 : PySem.W.specialIn K (.builtin "object.__class__") "__get__" = some (some (.builtin "getset_descriptor.__get__")))
    (g2 : PySem.W.takesIn K (.builtin "object.__class__") = some true)
    (kI : PySem.W.kitOne K (.type "int") (.type "int") = some true)
    (kB : PySem.W.kitOne K (.type "int") (.type "bool") = some false)
    (b1 : PySem.W.specialIn K (.ref CKind) "__getattribute__" = some (some (.builtin "type.__getattribute__")))
    (b2 : PySem.W.readsIn K CKind (.type "type") = true)
    (b3 : PySem.W.findCls K (.ref CKind) (.type "type") "__init__" = some (.val (.ref f_Kind_init)))
    (vF : PySem.W.nsIn K mainGlobals "FIGURES" = some (some (.str figs tF)))
    (vM : PySem.W.nsIn K mainGlobals "MOST_PLACES" = some (some (.int 63 tM)))
    (z_all : PySem.W.nsIn K mainGlobals "all" = some none)
    (z_len : PySem.W.nsIn K mainGlobals "len" = some none)
    (z_str : PySem.W.nsIn K mainGlobals "str" = some none)
    (z_int : PySem.W.nsIn K mainGlobals "int" = some none)
    (z_range : PySem.W.nsIn K mainGlobals "range" = some none)
    (z_min : PySem.W.nsIn K mainGlobals "min" = some none)
    (z_isinstance : PySem.W.nsIn K mainGlobals "isinstance" = some none)
    (z_bool : PySem.W.nsIn K mainGlobals "bool" = some none) :
    ∃ fd : FuncData, (∀ (s : Shared) (v : Value), BindsTo s fd ⟨[v], []⟩ [("_law_script", v)]) ∧ ∀ base : Heap, K.In base → base.Ns mainGlobals mg → FnOk l.prog w K mg base CX0 6 fa fd ["_law_script"] (spLaw K) := by
  have e := hfa.symm.trans (PySem.W.mg_of X G a_law)
  cases e
  let c : Cs := ⟨CSource, CSink, CBoth, CEither, COdd, CPlus, CPick, CUp, CDown⟩
  have F0 := fun_mk (st := s_made_of) l0 c0 k0
  have b0' := F0.binds (ps := ["word", "signs"]) fun _ _ _ _ _ _ us hl => match us, hl with | [_, _], _ => rfl
  have F1 := fun_mk (st := s_number_by) l1 c1 k1
  have b1' := F1.binds (ps := ["word", "most"]) fun _ _ _ _ _ _ us hl => match us, hl with | [_, _], _ => rfl
  have F2 := fun_mk (st := s_plain_kind) l2 c2 k2
  have b2' := F2.binds (ps := ["word"]) fun _ _ _ _ _ _ us hl => match us, hl with | [_], _ => rfl
  have F3 := fun_mk (st := s_shifting_kind) l3 c3 k3
  have b3' := F3.binds (ps := ["word", "count"]) fun _ _ _ _ _ _ us hl => match us, hl with | [_, _], _ => rfl
  have F4 := fun_mk (st := s_kind_by) l4 c4 k4
  have b4' := F4.binds (ps := ["word"]) fun _ _ _ _ _ _ us hl => match us, hl with | [_], _ => rfl
  have F5 := fun_mk (st := s_law_draw) l5 c5 k5
  have b5' := F5.binds (ps := ["_law_cell", "_law_k", "_law_many"]) fun _ _ _ _ _ _ us hl => match us, hl with | [_, _, _], _ => rfl
  have F6 := fun_mk (st := s_law_made) l6 c6 k6
  have b6' := F6.binds (ps := ["_law_which", "_law_count", "_law_width", "_law_numbers"]) fun _ _ _ _ _ _ us hl => match us, hl with | [_, _, _, _], _ => rfl
  have F7 := fun_mk (st := s_law_kind) l7 c7 k7
  have b7' := F7.binds (ps := ["_law_which", "_law_count"]) fun _ _ _ _ _ _ us hl => match us, hl with | [_, _], _ => rfl
  have F8 := fun_mk (st := s_law_asked) l8 c8 k8
  have b8' := F8.binds (ps := ["_law_kind_here", "_law_which", "_law_count", "_law_width", "_law_numbers"]) fun _ _ _ _ _ _ us hl => match us, hl with | [_, _, _, _, _], _ => rfl
  have F9 := fun_mk (st := s_law) l9 c9 k9
  have b9' := F9.binds (ps := ["_law_script"]) fun _ _ _ _ _ _ us hl => match us, hl with | [_], _ => rfl
  have F10 := fun_mk (st := s_Kind_init) l10 c10 k10
  have b10' := F10.binds (ps := ["self", "told", "asked"]) fun _ _ _ _ _ _ us hl => match us, hl with | [_, _, _], _ => rfl
  have F11 := fun_mk (st := s_Kind_lines) l11 c11 k11
  have b11' := F11.binds (ps := ["self"]) fun _ _ _ _ _ _ us hl => match us, hl with | [_], _ => rfl
  have F12 := fun_mk (st := s_Kind_word) l12 c12 k12
  have b12' := F12.binds (ps := ["self"]) fun _ _ _ _ _ _ us hl => match us, hl with | [_], _ => rfl
  have F13 := fun_mk (st := s_Source_init) l13 c13 k13
  have b13' := F13.binds (ps := ["self"]) fun _ _ _ _ _ _ us hl => match us, hl with | [_], _ => rfl
  have F14 := fun_mk (st := s_Sink_init) l14 c14 k14
  have b14' := F14.binds (ps := ["self"]) fun _ _ _ _ _ _ us hl => match us, hl with | [_], _ => rfl
  have F15 := fun_mk (st := s_Both_init) l15 c15 k15
  have b15' := F15.binds (ps := ["self"]) fun _ _ _ _ _ _ us hl => match us, hl with | [_], _ => rfl
  have F16 := fun_mk (st := s_Either_init) l16 c16 k16
  have b16' := F16.binds (ps := ["self"]) fun _ _ _ _ _ _ us hl => match us, hl with | [_], _ => rfl
  have F17 := fun_mk (st := s_Odd_init) l17 c17 k17
  have b17' := F17.binds (ps := ["self"]) fun _ _ _ _ _ _ us hl => match us, hl with | [_], _ => rfl
  have F18 := fun_mk (st := s_Plus_init) l18 c18 k18
  have b18' := F18.binds (ps := ["self"]) fun _ _ _ _ _ _ us hl => match us, hl with | [_], _ => rfl
  have F19 := fun_mk (st := s_Pick_init) l19 c19 k19
  have b19' := F19.binds (ps := ["self"]) fun _ _ _ _ _ _ us hl => match us, hl with | [_], _ => rfl
  have F20 := fun_mk (st := s_Up_init) l20 c20 k20
  have b20' := F20.binds (ps := ["self", "count"]) fun _ _ _ _ _ _ us hl => match us, hl with | [_, _], _ => rfl
  have F21 := fun_mk (st := s_Down_init) l21 c21 k21
  have b21' := F21.binds (ps := ["self", "count"]) fun _ _ _ _ _ _ us hl => match us, hl with | [_, _], _ => rfl
  have F22 := fun_mk (st := s_Sink_made) l22 c22 k22
  have b22' := F22.binds (ps := ["self", "numbers", "width"]) fun _ _ _ _ _ _ us hl => match us, hl with | [_, _, _], _ => rfl
  have F23 := fun_mk (st := s_Both_made) l23 c23 k23
  have b23' := F23.binds (ps := ["self", "numbers", "width"]) fun _ _ _ _ _ _ us hl => match us, hl with | [_, _, _], _ => rfl
  have F24 := fun_mk (st := s_Either_made) l24 c24 k24
  have b24' := F24.binds (ps := ["self", "numbers", "width"]) fun _ _ _ _ _ _ us hl => match us, hl with | [_, _, _], _ => rfl
  have F25 := fun_mk (st := s_Odd_made) l25 c25 k25
  have b25' := F25.binds (ps := ["self", "numbers", "width"]) fun _ _ _ _ _ _ us hl => match us, hl with | [_, _, _], _ => rfl
  have F26 := fun_mk (st := s_Plus_made) l26 c26 k26
  have b26' := F26.binds (ps := ["self", "numbers", "width"]) fun _ _ _ _ _ _ us hl => match us, hl with | [_, _, _], _ => rfl
  have F27 := fun_mk (st := s_Pick_made) l27 c27 k27
  have b27' := F27.binds (ps := ["self", "numbers", "width"]) fun _ _ _ _ _ _ us hl => match us, hl with | [_, _, _], _ => rfl
  have F28 := fun_mk (st := s_Up_made) l28 c28 k28
  have b28' := F28.binds (ps := ["self", "numbers", "width"]) fun _ _ _ _ _ _ us hl => match us, hl with | [_, _, _], _ => rfl
  have F29 := fun_mk (st := s_Down_made) l29 c29 k29
  have b29' := F29.binds (ps := ["self", "numbers", "width"]) fun _ _ _ _ _ _ us hl => match us, hl with | [_, _, _], _ => rfl
  have ckSource : ClsOk K CSource := ⟨⟨pgSource, hdSource, poSource, saSource⟩, nTSource, nASource, nCSource⟩
  have ckSink : ClsOk K CSink := ⟨⟨pgSink, hdSink, poSink, saSink⟩, nTSink, nASink, nCSink⟩
  have ckBoth : ClsOk K CBoth := ⟨⟨pgBoth, hdBoth, poBoth, saBoth⟩, nTBoth, nABoth, nCBoth⟩
  have ckEither : ClsOk K CEither := ⟨⟨pgEither, hdEither, poEither, saEither⟩, nTEither, nAEither, nCEither⟩
  have ckOdd : ClsOk K COdd := ⟨⟨pgOdd, hdOdd, poOdd, saOdd⟩, nTOdd, nAOdd, nCOdd⟩
  have ckPlus : ClsOk K CPlus := ⟨⟨pgPlus, hdPlus, poPlus, saPlus⟩, nTPlus, nAPlus, nCPlus⟩
  have ckPick : ClsOk K CPick := ⟨⟨pgPick, hdPick, poPick, saPick⟩, nTPick, nAPick, nCPick⟩
  have ckUp : ClsOk K CUp := ⟨⟨pgUp, hdUp, poUp, saUp⟩, nTUp, nAUp, nCUp⟩
  have ckDown : ClsOk K CDown := ⟨⟨pgDown, hdDown, poDown, saDown⟩, nTDown, nADown, nCDown⟩
  have ok : ∀ kd, ClsOk K (c.of kd) := fun kd => by cases kd <;> assumption
  have nall := PySem.W.mg_none_of X G z_all
  have nlen := PySem.W.mg_none_of X G z_len
  have nstr := PySem.W.mg_none_of X G z_str
  have nint := PySem.W.mg_none_of X G z_int
  have nrange := PySem.W.mg_none_of X G z_range
  have nmin := PySem.W.mg_none_of X G z_min
  have nisi := PySem.W.mg_none_of X G z_isinstance
  have nbool := PySem.W.mg_none_of X G z_bool
  refine ⟨PySem.W.fnOf "law" "law" (defArgs s_law) (defBody s_law) (defScope s_law) .none kV9 dc9 pm9 an9 cd9 ct9, fun s v => .of_eq rfl, fun base _ _ => ?_⟩
  have C1 : Cal l.prog w K mg base 1 "made_of" ["word", "signs"] spMadeOf := ⟨⟨_, _, ok_made_of F0 nall, PySem.W.mg_of X G a_made_of, k0, b0'⟩⟩
  have vF' : mg "FIGURES" = some (.str figs tF) ∧ RelV (.str figs) (.str figs tF) := ⟨PySem.W.mg_of X G vF, _, rfl⟩
  have vM' : mg "MOST_PLACES" = some (.int 63 tM) ∧ RelV (.int 63) (.int 63 tM) := ⟨PySem.W.mg_of X G vM, _, rfl⟩
  have C2 : Cal l.prog w K mg base 2 "number_by" ["word", "most"] spNumberBy := ⟨⟨_, _, ok_number_by F1 C1 vF' nlen nstr nint, PySem.W.mg_of X G a_number_by, k1, b1'⟩⟩
  have BK : ClsFn l.prog w K mg base 1 "Kind" "__init__" ["self", "told", "asked"] (spKindInit K) := ⟨CKind, _, _, PySem.W.mg_of X G aKind, b1, b2, b3, rfl, k10, ok_Kind_init F10, b10'⟩
  have MSource : Mkr l.prog w K mg base 2 "Source" c.src ["self"] (spSub K .src) := ⟨⟨_, _, ⟨mkSource, a_Source_init, i_Source_init, kcSource⟩, ok_Source_init F13 BK, b13'⟩, PySem.W.mg_of X G aSource⟩
  have MSink : Mkr l.prog w K mg base 2 "Sink" c.snk ["self"] (spSub K .snk) := ⟨⟨_, _, ⟨mkSink, a_Sink_init, i_Sink_init, kcSink⟩, ok_Sink_init F14 BK, b14'⟩, PySem.W.mg_of X G aSink⟩
  have MBoth : Mkr l.prog w K mg base 2 "Both" c.both ["self"] (spSub K .both) := ⟨⟨_, _, ⟨mkBoth, a_Both_init, i_Both_init, kcBoth⟩, ok_Both_init F15 BK, b15'⟩, PySem.W.mg_of X G aBoth⟩
  have MEither : Mkr l.prog w K mg base 2 "Either" c.either ["self"] (spSub K .either) := ⟨⟨_, _, ⟨mkEither, a_Either_init, i_Either_init, kcEither⟩, ok_Either_init F16 BK, b16'⟩, PySem.W.mg_of X G aEither⟩
  have MOdd : Mkr l.prog w K mg base 2 "Odd" c.odd ["self"] (spSub K .odd) := ⟨⟨_, _, ⟨mkOdd, a_Odd_init, i_Odd_init, kcOdd⟩, ok_Odd_init F17 BK, b17'⟩, PySem.W.mg_of X G aOdd⟩
  have MPlus : Mkr l.prog w K mg base 2 "Plus" c.plus ["self"] (spSub K .plus) := ⟨⟨_, _, ⟨mkPlus, a_Plus_init, i_Plus_init, kcPlus⟩, ok_Plus_init F18 BK, b18'⟩, PySem.W.mg_of X G aPlus⟩
  have MPick : Mkr l.prog w K mg base 2 "Pick" c.pick ["self"] (spSub K .pick) := ⟨⟨_, _, ⟨mkPick, a_Pick_init, i_Pick_init, kcPick⟩, ok_Pick_init F19 BK, b19'⟩, PySem.W.mg_of X G aPick⟩
  have MUp : Mkr l.prog w K mg base 2 "Up" c.up ["self", "count"] (spUp K) := ⟨⟨_, _, ⟨mkUp, a_Up_init, i_Up_init, kcUp⟩, ok_Up_init F20 BK nstr, b20'⟩, PySem.W.mg_of X G aUp⟩
  have MDown : Mkr l.prog w K mg base 2 "Down" c.down ["self", "count"] (spDown K) := ⟨⟨_, _, ⟨mkDown, a_Down_init, i_Down_init, kcDown⟩, ok_Down_init F21 BK nstr, b21'⟩, PySem.W.mg_of X G aDown⟩
  have C3 : Cal l.prog w K mg base 4 "plain_kind" ["word"] (spPlain c) := ⟨⟨_, _, ok_plain_kind F2 ok MSource MSink MBoth MEither MOdd MPlus MPick, PySem.W.mg_of X G a_plain_kind, k2, b2'⟩⟩
  have C4 : Cal l.prog w K mg base 4 "shifting_kind" ["word", "count"] (spShift c) := ⟨⟨_, _, ok_shifting_kind F3 ok MUp MDown, PySem.W.mg_of X G a_shifting_kind, k3, b3'⟩⟩
  have C5 : Cal l.prog w K mg base 5 "kind_by" ["word"] (spKindBy c) := ⟨⟨_, _, ok_kind_by F4 C3 C4 C2 vM', PySem.W.mg_of X G a_kind_by, k4, b4'⟩⟩
  have C6 : Cal l.prog w K mg base 1 "_law_draw" ["_law_cell", "_law_k", "_law_many"] spDraw := ⟨⟨_, _, ok_law_draw F5 , PySem.W.mg_of X G a_law_draw, k5, b5'⟩⟩
  have C7 : Cal l.prog w K mg base 1 "_law_made" ["_law_which", "_law_count", "_law_width", "_law_numbers"] (spLawMade K) := ⟨⟨_, _, ok_law_made F6 nrange, PySem.W.mg_of X G a_law_made, k6, b6'⟩⟩
  have C8 : Cal l.prog w K mg base 4 "_law_kind" ["_law_which", "_law_count"] (spLawKind c) := ⟨⟨_, _, ok_law_kind F7 ok MSource MSink MBoth MEither MOdd MPlus MPick MUp MDown, PySem.W.mg_of X G a_law_kind, k7, b7'⟩⟩
  have WSource : M_word l.prog w K mg base CSource (spGet K "told") := ⟨⟨_, _, _, ⟨w_Source, i_Kind_word, k12⟩, ok_Kind_word F12, b12'⟩, ckSource.cl⟩
  have LSource : M_lines l.prog w K mg base CSource (spGet K "asked") := ⟨⟨_, _, _, ⟨n_Source, i_Kind_lines, k11⟩, ok_Kind_lines F11, b11'⟩, ckSource.cl⟩
  have WSink : M_word l.prog w K mg base CSink (spGet K "told") := ⟨⟨_, _, _, ⟨w_Sink, i_Kind_word, k12⟩, ok_Kind_word F12, b12'⟩, ckSink.cl⟩
  have LSink : M_lines l.prog w K mg base CSink (spGet K "asked") := ⟨⟨_, _, _, ⟨n_Sink, i_Kind_lines, k11⟩, ok_Kind_lines F11, b11'⟩, ckSink.cl⟩
  have WBoth : M_word l.prog w K mg base CBoth (spGet K "told") := ⟨⟨_, _, _, ⟨w_Both, i_Kind_word, k12⟩, ok_Kind_word F12, b12'⟩, ckBoth.cl⟩
  have LBoth : M_lines l.prog w K mg base CBoth (spGet K "asked") := ⟨⟨_, _, _, ⟨n_Both, i_Kind_lines, k11⟩, ok_Kind_lines F11, b11'⟩, ckBoth.cl⟩
  have WEither : M_word l.prog w K mg base CEither (spGet K "told") := ⟨⟨_, _, _, ⟨w_Either, i_Kind_word, k12⟩, ok_Kind_word F12, b12'⟩, ckEither.cl⟩
  have LEither : M_lines l.prog w K mg base CEither (spGet K "asked") := ⟨⟨_, _, _, ⟨n_Either, i_Kind_lines, k11⟩, ok_Kind_lines F11, b11'⟩, ckEither.cl⟩
  have WOdd : M_word l.prog w K mg base COdd (spGet K "told") := ⟨⟨_, _, _, ⟨w_Odd, i_Kind_word, k12⟩, ok_Kind_word F12, b12'⟩, ckOdd.cl⟩
  have LOdd : M_lines l.prog w K mg base COdd (spGet K "asked") := ⟨⟨_, _, _, ⟨n_Odd, i_Kind_lines, k11⟩, ok_Kind_lines F11, b11'⟩, ckOdd.cl⟩
  have WPlus : M_word l.prog w K mg base CPlus (spGet K "told") := ⟨⟨_, _, _, ⟨w_Plus, i_Kind_word, k12⟩, ok_Kind_word F12, b12'⟩, ckPlus.cl⟩
  have LPlus : M_lines l.prog w K mg base CPlus (spGet K "asked") := ⟨⟨_, _, _, ⟨n_Plus, i_Kind_lines, k11⟩, ok_Kind_lines F11, b11'⟩, ckPlus.cl⟩
  have WPick : M_word l.prog w K mg base CPick (spGet K "told") := ⟨⟨_, _, _, ⟨w_Pick, i_Kind_word, k12⟩, ok_Kind_word F12, b12'⟩, ckPick.cl⟩
  have LPick : M_lines l.prog w K mg base CPick (spGet K "asked") := ⟨⟨_, _, _, ⟨n_Pick, i_Kind_lines, k11⟩, ok_Kind_lines F11, b11'⟩, ckPick.cl⟩
  have WUp : M_word l.prog w K mg base CUp (spGet K "told") := ⟨⟨_, _, _, ⟨w_Up, i_Kind_word, k12⟩, ok_Kind_word F12, b12'⟩, ckUp.cl⟩
  have LUp : M_lines l.prog w K mg base CUp (spGet K "asked") := ⟨⟨_, _, _, ⟨n_Up, i_Kind_lines, k11⟩, ok_Kind_lines F11, b11'⟩, ckUp.cl⟩
  have WDown : M_word l.prog w K mg base CDown (spGet K "told") := ⟨⟨_, _, _, ⟨w_Down, i_Kind_word, k12⟩, ok_Kind_word F12, b12'⟩, ckDown.cl⟩
  have LDown : M_lines l.prog w K mg base CDown (spGet K "asked") := ⟨⟨_, _, _, ⟨n_Down, i_Kind_lines, k11⟩, ok_Kind_lines F11, b11'⟩, ckDown.cl⟩
  have Mw : ∀ kd, M_word l.prog w K mg base (c.of kd) (spGet K "told") := fun kd => by cases kd <;> assumption
  have Ml : ∀ kd, M_lines l.prog w K mg base (c.of kd) (spGet K "asked") := fun kd => by cases kd <;> assumption
  have GSink : M_made l.prog w K mg base CSink (spMade K .snk) := ⟨⟨_, _, _, ⟨a_Sink_made, i_Sink_made, k22⟩, ok_Sink_made F22, b22'⟩, ckSink.cl⟩
  have GBoth : M_made l.prog w K mg base CBoth (spMade K .both) := ⟨⟨_, _, _, ⟨a_Both_made, i_Both_made, k23⟩, ok_Both_made F23, b23'⟩, ckBoth.cl⟩
  have GEither : M_made l.prog w K mg base CEither (spMade K .either) := ⟨⟨_, _, _, ⟨a_Either_made, i_Either_made, k24⟩, ok_Either_made F24, b24'⟩, ckEither.cl⟩
  have GOdd : M_made l.prog w K mg base COdd (spMade K .odd) := ⟨⟨_, _, _, ⟨a_Odd_made, i_Odd_made, k25⟩, ok_Odd_made F25, b25'⟩, ckOdd.cl⟩
  have GPlus : M_made l.prog w K mg base CPlus (spMade K .plus) := ⟨⟨_, _, _, ⟨a_Plus_made, i_Plus_made, k26⟩, ok_Plus_made F26, b26'⟩, ckPlus.cl⟩
  have GPick : M_made l.prog w K mg base CPick (spMade K .pick) := ⟨⟨_, _, _, ⟨a_Pick_made, i_Pick_made, k27⟩, ok_Pick_made F27, b27'⟩, ckPick.cl⟩
  have GUp : M_made l.prog w K mg base CUp (spUpMade K) := ⟨⟨_, _, _, ⟨a_Up_made, i_Up_made, k28⟩, ok_Up_made F28, b28'⟩, ckUp.cl⟩
  have GDown : M_made l.prog w K mg base CDown (spDownMade K) := ⟨⟨_, _, _, ⟨a_Down_made, i_Down_made, k29⟩, ok_Down_made F29, b29'⟩, ckDown.cl⟩
  have Mm : ∀ kd, Kd.fit kd → kd ≠ .src → M_made l.prog w K mg base (c.of kd) (spMade K kd) := fun kd hf hn => by
    cases kd with
    | src => exact absurd rfl hn
    | up n => exact M_made.imp GUp fun vs H Q E h => ⟨n, hf.1, hf.2, h⟩
    | down n => exact M_made.imp GDown fun vs H Q E h => ⟨n, hf.1, hf.2, h⟩
    | snk => exact GSink
    | both => exact GBoth
    | either => exact GEither
    | odd => exact GOdd
    | plus => exact GPlus
    | pick => exact GPick
  have isT : ∀ (kd : Kd) (H : Hp) (p dx : Addr) (fs : List (Str × V)), H p = some (.ins (c.of kd) dx fs) → TyOf K H (.ref p) (.ref (c.of kd)) := fun kd H p dx fs hp => .ins hp (ok kd).cl (by cases kd <;> assumption) g1 g2 (by cases kd <;> assumption)
  have kit : ∀ kd : Kd, PySem.W.kitOne K (.ref (c.of kd)) (.ref CKind) = some true := fun kd => by cases kd <;> assumption
  have vK : mg "Kind" = some (.ref CKind) ∧ RelV (.ref CKind) (.ref CKind) := ⟨PySem.W.mg_of X G aKind, rfl⟩
  have vS : mg "Source" = some (.ref CSource) ∧ RelV (.ref CSource) (.ref CSource) := ⟨PySem.W.mg_of X G aSource, rfl⟩
  have C9 : Cal l.prog w K mg base 2 "_law_asked" ["_law_kind_here", "_law_which", "_law_count", "_law_width", "_law_numbers"] (spAsked c) := ⟨⟨_, _, ok_law_asked F8 ok Mw Ml Mm isT kit kI kB vK nisi nint nbool nstr C7, PySem.W.mg_of X G a_law_asked, k8, b8'⟩⟩
  exact ok_law F9 ok Mw Ml Mm isT kit kI kB vK nisi nint nbool nstr vS MSource C5 C6 C8 C9 nrange nmin nlen
theorem walk {l : PySem.W.OpenLaw} {q : Program} {loose : List Str} {XP : (Str → Option Value) → Heap → Prop} {YP : World → Heap → Prop} {d : DefRec} {K : Params → PySem.W.Frag} (hn : l.most = some 63) (hdf : d.params.defaults = [])
    (hY : ∀ (w : World) (h : Heap), YP w h → (K w.params).In h)
    (F : ∀ (w : World) (mg : Str → Option Value) (fa : Addr) (h : Heap), (K w.params).In h → h.Ns mainGlobals mg → mg d.name = some (.ref fa) →
      ∃ fd : FuncData, (∀ (s : Shared) (u : Value), BindsTo s fd ⟨[u], []⟩ [("_law_script", u)]) ∧ ∀ base : Heap, (K w.params).In base → base.Ns mainGlobals mg → FnOk l.prog w (K w.params) mg base CX0 6 fa fd ["_law_script"] (spLaw (K w.params))) :
    PySem.W.WalkO q loose XP YP l.row.toRowW d [] (fun f vs => PySem.call f vs) :=
  L2.walk_of (n := 63) (k := 6) (x := "_law_script") (CX := fun _ => CX0) (sp := fun w => spLaw (K w.params)) hn (by decide) hdf ⟨rfl, by decide, by decide⟩ hY F (fun _ _ a ns hl _ hS => ⟨a, ns, rfl, hS, hl, fun _ => rfl⟩) fun _ _ _ _ _ z => z
end K1

end
open PySem PySem.W PyProof.Rows
set_option maxRecDepth 100000 in
set_option maxHeartbeats 0 in
theorem PySem.Challenge.cw_storeway_k01_what_parts_make_holds : PySem.Challenge.rw_storeway_k01_what_parts_make.Holds := by
  w_on; o_law; k_head; (case hw => w_witness2)
  k_fill
  refine K1.walk (l := PySem.Challenge.rw_storeway_k01_what_parts_make) rfl rfl (fun w h Y => PySem.W.kIn_of Y) ?F
  case F =>
    intro w mg fa h KX G hmg
    refine' K1.all_mk KX G hmg ?aKind ?aSource ?aSink ?aBoth ?aEither ?aOdd ?aPlus ?aPick ?aUp ?aDown ?a_made_of ?l0 ?c0 ?k0 ?a_number_by ?l1 ?c1 ?k1 ?a_plain_kind ?l2 ?c2 ?k2 ?a_shifting_kind ?l3 ?c3 ?k3 ?a_kind_by ?l4 ?c4 ?k4 ?a_law_draw ?l5 ?c5 ?k5 ?a_law_made ?l6 ?c6 ?k6 ?a_law_kind ?l7 ?c7 ?k7 ?a_law_asked ?l8 ?c8 ?k8 ?a_law ?l9 ?c9 ?k9 ?a_Kind_init ?i_Kind_init ?l10 ?c10 ?k10 ?a_Kind_lines ?i_Kind_lines ?l11 ?c11 ?k11 ?a_Kind_word ?i_Kind_word ?l12 ?c12 ?k12 ?a_Source_init ?i_Source_init ?l13 ?c13 ?k13 ?a_Sink_init ?i_Sink_init ?l14 ?c14 ?k14 ?a_Both_init ?i_Both_init ?l15 ?c15 ?k15 ?a_Either_init ?i_Either_init ?l16 ?c16 ?k16 ?a_Odd_init ?i_Odd_init ?l17 ?c17 ?k17 ?a_Plus_init ?i_Plus_init ?l18 ?c18 ?k18 ?a_Pick_init ?i_Pick_init ?l19 ?c19 ?k19 ?a_Up_init ?i_Up_init ?l20 ?c20 ?k20 ?a_Down_init ?i_Down_init ?l21 ?c21 ?k21 ?a_Sink_made ?i_Sink_made ?l22 ?c22 ?k22 ?a_Both_made ?i_Both_made ?l23 ?c23 ?k23 ?a_Either_made ?i_Either_made ?l24 ?c24 ?k24 ?a_Odd_made ?i_Odd_made ?l25 ?c25 ?k25 ?a_Plus_made ?i_Plus_made ?l26 ?c26 ?k26 ?a_Pick_made ?i_Pick_made ?l27 ?c27 ?k27 ?a_Up_made ?i_Up_made ?l28 ?c28 ?k28 ?a_Down_made ?i_Down_made ?l29 ?c29 ?k29 ?w_Source ?n_Source ?pgSource ?hdSource ?poSource ?saSource ?mkSource ?kcSource ?nTSource ?nASource ?nCSource ?tySource ?mrSource ?ktSource ?w_Sink ?n_Sink ?pgSink ?hdSink ?poSink ?saSink ?mkSink ?kcSink ?nTSink ?nASink ?nCSink ?tySink ?mrSink ?ktSink ?w_Both ?n_Both ?pgBoth ?hdBoth ?poBoth ?saBoth ?mkBoth ?kcBoth ?nTBoth ?nABoth ?nCBoth ?tyBoth ?mrBoth ?ktBoth ?w_Either ?n_Either ?pgEither ?hdEither ?poEither ?saEither ?mkEither ?kcEither ?nTEither ?nAEither ?nCEither ?tyEither ?mrEither ?ktEither ?w_Odd ?n_Odd ?pgOdd ?hdOdd ?poOdd ?saOdd ?mkOdd ?kcOdd ?nTOdd ?nAOdd ?nCOdd ?tyOdd ?mrOdd ?ktOdd ?w_Plus ?n_Plus ?pgPlus ?hdPlus ?poPlus ?saPlus ?mkPlus ?kcPlus ?nTPlus ?nAPlus ?nCPlus ?tyPlus ?mrPlus ?ktPlus ?w_Pick ?n_Pick ?pgPick ?hdPick ?poPick ?saPick ?mkPick ?kcPick ?nTPick ?nAPick ?nCPick ?tyPick ?mrPick ?ktPick ?w_Up ?n_Up ?pgUp ?hdUp ?poUp ?saUp ?mkUp ?kcUp ?nTUp ?nAUp ?nCUp ?tyUp ?mrUp ?ktUp ?w_Down ?n_Down ?pgDown ?hdDown ?poDown ?saDown ?mkDown ?kcDown ?nTDown ?nADown ?nCDown ?tyDown ?mrDown ?ktDown ?g1 ?g2 ?kI ?kB ?b1 ?b2 ?b3 ?vF ?vM ?z_all ?z_len ?z_str ?z_int ?z_range ?z_min ?z_isinstance ?z_bool
    (case aKind => k_is)
    (case aSource => k_is)
    (case aSink => k_is)
    (case aBoth => k_is)
    (case aEither => k_is)
    (case aOdd => k_is)
    (case aPlus => k_is)
    (case aPick => k_is)
    (case aUp => k_is)
    (case aDown => k_is)
    (case a_made_of => k_is)
    (case l0 => k_is)
    (case c0 => k_is)
    (case k0 => k_is)
    (case a_number_by => k_is)
    (case l1 => k_is)
    (case c1 => k_is)
    (case k1 => k_is)
    (case a_plain_kind => k_is)
    (case l2 => k_is)
    (case c2 => k_is)
    (case k2 => k_is)
    (case a_shifting_kind => k_is)
    (case l3 => k_is)
    (case c3 => k_is)
    (case k3 => k_is)
    (case a_kind_by => k_is)
    (case l4 => k_is)
    (case c4 => k_is)
    (case k4 => k_is)
    (case a_law_draw => k_is)
    (case l5 => k_is)
    (case c5 => k_is)
    (case k5 => k_is)
    (case a_law_made => k_is)
    (case l6 => k_is)
    (case c6 => k_is)
    (case k6 => k_is)
    (case a_law_kind => k_is)
    (case l7 => k_is)
    (case c7 => k_is)
    (case k7 => k_is)
    (case a_law_asked => k_is)
    (case l8 => k_is)
    (case c8 => k_is)
    (case k8 => k_is)
    (case a_law => k_is)
    (case l9 => k_is)
    (case c9 => k_is)
    (case k9 => k_is)
    (case a_Kind_init => k_is)
    (case i_Kind_init => k_is)
    (case l10 => k_is)
    (case c10 => k_is)
    (case k10 => k_is)
    (case a_Kind_lines => k_is)
    (case i_Kind_lines => k_is)
    (case l11 => k_is)
    (case c11 => k_is)
    (case k11 => k_is)
    (case a_Kind_word => k_is)
    (case i_Kind_word => k_is)
    (case l12 => k_is)
    (case c12 => k_is)
    (case k12 => k_is)
    (case a_Source_init => k_is)
    (case i_Source_init => k_is)
    (case l13 => k_is)
    (case c13 => k_is)
    (case k13 => k_is)
    (case a_Sink_init => k_is)
    (case i_Sink_init => k_is)
    (case l14 => k_is)
    (case c14 => k_is)
    (case k14 => k_is)
    (case a_Both_init => k_is)
    (case i_Both_init => k_is)
    (case l15 => k_is)
    (case c15 => k_is)
    (case k15 => k_is)
    (case a_Either_init => k_is)
    (case i_Either_init => k_is)
    (case l16 => k_is)
    (case c16 => k_is)
    (case k16 => k_is)
    (case a_Odd_init => k_is)
    (case i_Odd_init => k_is)
    (case l17 => k_is)
    (case c17 => k_is)
    (case k17 => k_is)
    (case a_Plus_init => k_is)
    (case i_Plus_init => k_is)
    (case l18 => k_is)
    (case c18 => k_is)
    (case k18 => k_is)
    (case a_Pick_init => k_is)
    (case i_Pick_init => k_is)
    (case l19 => k_is)
    (case c19 => k_is)
    (case k19 => k_is)
    (case a_Up_init => k_is)
    (case i_Up_init => k_is)
    (case l20 => k_is)
    (case c20 => k_is)
    (case k20 => k_is)
    (case a_Down_init => k_is)
    (case i_Down_init => k_is)
    (case l21 => k_is)
    (case c21 => k_is)
    (case k21 => k_is)
    (case a_Sink_made => k_is)
    (case i_Sink_made => k_is)
    (case l22 => k_is)
    (case c22 => k_is)
    (case k22 => k_is)
    (case a_Both_made => k_is)
    (case i_Both_made => k_is)
    (case l23 => k_is)
    (case c23 => k_is)
    (case k23 => k_is)
    (case a_Either_made => k_is)
    (case i_Either_made => k_is)
    (case l24 => k_is)
    (case c24 => k_is)
    (case k24 => k_is)
    (case a_Odd_made => k_is)
    (case i_Odd_made => k_is)
    (case l25 => k_is)
    (case c25 => k_is)
    (case k25 => k_is)
    (case a_Plus_made => k_is)
    (case i_Plus_made => k_is)
    (case l26 => k_is)
    (case c26 => k_is)
    (case k26 => k_is)
    (case a_Pick_made => k_is)
    (case i_Pick_made => k_is)
    (case l27 => k_is)
    (case c27 => k_is)
    (case k27 => k_is)
    (case a_Up_made => k_is)
    (case i_Up_made => k_is)
    (case l28 => k_is)
    (case c28 => k_is)
    (case k28 => k_is)
    (case a_Down_made => k_is)
    (case i_Down_made => k_is)
    (case l29 => k_is)
    (case c29 => k_is)
    (case k29 => k_is)
    (case w_Source => k_is)
    (case n_Source => k_is)
    (case pgSource => k_is)
    (case hdSource => k_is)
    (case poSource => k_is)
    (case saSource => k_is)
    (case mkSource => k_is)
    (case kcSource => k_is)
    (case nTSource => k_is)
    (case nASource => k_is)
    (case nCSource => k_is)
    (case tySource => k_is)
    (case mrSource => k_is)
    (case ktSource => kit_is)
    (case w_Sink => k_is)
    (case n_Sink => k_is)
    (case pgSink => k_is)
    (case hdSink => k_is)
    (case poSink => k_is)
    (case saSink => k_is)
    (case mkSink => k_is)
    (case kcSink => k_is)
    (case nTSink => k_is)
    (case nASink => k_is)
    (case nCSink => k_is)
    (case tySink => k_is)
    (case mrSink => k_is)
    (case ktSink => kit_is)
    (case w_Both => k_is)
    (case n_Both => k_is)
    (case pgBoth => k_is)
    (case hdBoth => k_is)
    (case poBoth => k_is)
    (case saBoth => k_is)
    (case mkBoth => k_is)
    (case kcBoth => k_is)
    (case nTBoth => k_is)
    (case nABoth => k_is)
    (case nCBoth => k_is)
    (case tyBoth => k_is)
    (case mrBoth => k_is)
    (case ktBoth => kit_is)
    (case w_Either => k_is)
    (case n_Either => k_is)
    (case pgEither => k_is)
    (case hdEither => k_is)
    (case poEither => k_is)
    (case saEither => k_is)
    (case mkEither => k_is)
    (case kcEither => k_is)
    (case nTEither => k_is)
    (case nAEither => k_is)
    (case nCEither => k_is)
    (case tyEither => k_is)
    (case mrEither => k_is)
    (case ktEither => kit_is)
    (case w_Odd => k_is)
    (case n_Odd => k_is)
    (case pgOdd => k_is)
    (case hdOdd => k_is)
    (case poOdd => k_is)
    (case saOdd => k_is)
    (case mkOdd => k_is)
    (case kcOdd => k_is)
    (case nTOdd => k_is)
    (case nAOdd => k_is)
    (case nCOdd => k_is)
    (case tyOdd => k_is)
    (case mrOdd => k_is)
    (case ktOdd => kit_is)
    (case w_Plus => k_is)
    (case n_Plus => k_is)
    (case pgPlus => k_is)
    (case hdPlus => k_is)
    (case poPlus => k_is)
    (case saPlus => k_is)
    (case mkPlus => k_is)
    (case kcPlus => k_is)
    (case nTPlus => k_is)
    (case nAPlus => k_is)
    (case nCPlus => k_is)
    (case tyPlus => k_is)
    (case mrPlus => k_is)
    (case ktPlus => kit_is)
    (case w_Pick => k_is)
    (case n_Pick => k_is)
    (case pgPick => k_is)
    (case hdPick => k_is)
    (case poPick => k_is)
    (case saPick => k_is)
    (case mkPick => k_is)
    (case kcPick => k_is)
    (case nTPick => k_is)
    (case nAPick => k_is)
    (case nCPick => k_is)
    (case tyPick => k_is)
    (case mrPick => k_is)
    (case ktPick => kit_is)
    (case w_Up => k_is)
    (case n_Up => k_is)
    (case pgUp => k_is)
    (case hdUp => k_is)
    (case poUp => k_is)
    (case saUp => k_is)
    (case mkUp => k_is)
    (case kcUp => k_is)
    (case nTUp => k_is)
    (case nAUp => k_is)
    (case nCUp => k_is)
    (case tyUp => k_is)
    (case mrUp => k_is)
    (case ktUp => kit_is)
    (case w_Down => k_is)
    (case n_Down => k_is)
    (case pgDown => k_is)
    (case hdDown => k_is)
    (case poDown => k_is)
    (case saDown => k_is)
    (case mkDown => k_is)
    (case kcDown => k_is)
    (case nTDown => k_is)
    (case nADown => k_is)
    (case nCDown => k_is)
    (case tyDown => k_is)
    (case mrDown => k_is)
    (case ktDown => kit_is)
    (case g1 => k_is)
    (case g2 => k_is)
    (case kI => kit_is)
    (case kB => kit_is)
    (case b1 => k_is)
    (case b2 => k_is)
    (case b3 => k_is)
    (case vF => k_is)
    (case vM => k_is)
    (case z_all => k_is)
    (case z_len => k_is)
    (case z_str => k_is)
    (case z_int => k_is)
    (case z_range => k_is)
    (case z_min => k_is)
    (case z_isinstance => k_is)
    (case z_bool => k_is)
