import PyProof.Rows.All
import Wide.All
import OpenK.AllK
import Wide.FinOn
import Lean
import PyProof.EqAt
import PyProof.EqKinds
import PyProof.TupleCall
import PySem.Challenge.RW_storeway_k02_read_and_shown
set_option Elab.async false
set_option linter.all false
set_option maxRecDepth 100000
namespace L2
open PySem PySem.Spec PyProof.Rows
abbrev Key := Sum Int Str
def keyIs : Key → Value → Bool
  | .inl k, v => Value.isInt k v
  | .inr x, v => Value.isStrOf x v
def keyH (w : World) : Key → Int
  | .inl k => hashInt k
  | .inr x => hashStr w x
theorem keyIs_shape : ∀ {k : Key} {v : Value}, keyIs k v = true → (∃ i t, k = Sum.inl i ∧ v = Value.int i t) ∨ (∃ x t, k = Sum.inr x ∧ v = Value.str x t)
  | .inl i, v, h => by
    obtain ⟨t, e⟩ := Value.isInt_shape (k := i) (v := v) h
    exact .inl ⟨i, t, rfl, e⟩
  | .inr x, v, h => by
    obtain ⟨t, e⟩ := Value.isStrOf_shape (x := x) (v := v) h
    exact .inr ⟨x, t, rfl, e⟩
theorem keyIs_int (i : Int) (t : Tok) : keyIs (.inl i) (.int i t) = true := by simp [keyIs, Value.isInt]
theorem keyIs_str (x : Str) (t : Tok) : keyIs (.inr x) (.str x t) = true := by simp [keyIs, Value.isStrOf]
theorem key_ll (a b : Int) : decide ((Sum.inl a : Key) = Sum.inl b) = (a == b) := by
  by_cases e : a = b
  · subst e; simp
  · have h : ¬ (Sum.inl a : Key) = Sum.inl b := fun q => e (Sum.inl.inj q)
    rw [decide_eq_false h]
    exact (beq_eq_false_iff_ne.mpr e).symm
theorem key_rr (a b : Str) : decide ((Sum.inr a : Key) = Sum.inr b) = decide (a = b) := by
  by_cases e : a = b
  · subst e; simp
  · have h : ¬ (Sum.inr a : Key) = Sum.inr b := fun q => e (Sum.inr.inj q)
    rw [decide_eq_false h, decide_eq_false e]
theorem key_lr (a : Int) (b : Str) : decide ((Sum.inl a : Key) = Sum.inr b) = false := decide_eq_false (fun q => nomatch q)
theorem key_rl (a : Str) (b : Int) : decide ((Sum.inr a : Key) = Sum.inl b) = false := decide_eq_false (fun q => nomatch q)
def mixKind (prog : Program) (w : World) : PySem.KeyKind prog w Key where
  is := keyIs
  hash := keyH w
  inj := fun v a b ha hb => by
    rcases keyIs_shape ha with ⟨i, t, rfl, rfl⟩ | ⟨x, t, rfl, rfl⟩
    · rcases keyIs_shape hb with ⟨j, u, rfl, e⟩ | ⟨y, u, rfl, e⟩
      · injection e with e1 _; rw [e1]
      · exact nomatch e
    · rcases keyIs_shape hb with ⟨j, u, rfl, e⟩ | ⟨y, u, rfl, e⟩
      · exact nomatch e
      · injection e with e1 _; rw [e1]
  byValue := fun k v h => by
    rcases keyIs_shape h with ⟨i, t, rfl, rfl⟩ | ⟨x, t, rfl, rfl⟩ <;> rfl
  pyHash := fun hv h => by
    rcases keyIs_shape hv with ⟨i, t, rfl, rfl⟩ | ⟨x, t, rfl, rfl⟩
    · exact wpAny_pyHash_int h
    · exact wpAny_pyHash_str h
  eqBool := fun hu hv h => by
    rcases keyIs_shape hu with ⟨i, t, rfl, rfl⟩ | ⟨x, t, rfl, rfl⟩
    · rcases keyIs_shape hv with ⟨j, u, rfl, rfl⟩ | ⟨y, u, rfl, rfl⟩
      · rw [key_ll] at h; exact wpAny_eqBool_int h
      · rw [key_lr] at h; exact SeqAt.EqAt.int_str i t y u _ _ _ _ h
    · rcases keyIs_shape hv with ⟨j, u, rfl, rfl⟩ | ⟨y, u, rfl, rfl⟩
      · rw [key_rl] at h; exact SeqAt.EqAt.str_int x t j u _ _ _ _ h
      · rw [key_rr] at h; exact wpAny_eqBool_str h
  «strs» := fun k x t v h => by
    rcases keyIs_shape h with ⟨i, u, rfl, e⟩ | ⟨y, u, rfl, e⟩
    · exact nomatch e
    · injection e with e1 _
      subst e1
      cases v <;> rfl
theorem mixKind_int (prog : Program) (w : World) (i : Int) (t : Tok) : (mixKind prog w).is (.inl i) (.int i t) = true := keyIs_int i t
theorem mixKind_str (prog : Program) (w : World) (x : Str) (t : Tok) : (mixKind prog w).is (.inr x) (.str x t) = true := keyIs_str x t
end L2
namespace L2
open PySem PySem.Spec PyProof.Rows
inductive V where
  | non | bl (b : Bool) | int (i : Int) | str (x : Str) | byt (b : Array UInt8) | flt (b : UInt64) | ref (a : Addr) | ty (n : String)
  deriving DecidableEq
def RelV : V → Value → Prop
  | .non, u => u = Value.none
  | .bl b, u => u = Value.bool b
  | .int i, u => ∃ t, u = Value.int i t
  | .str x, u => ∃ t, u = Value.str x t
  | .byt b, u => ∃ t, u = Value.bytes b t
  | .flt b, u => ∃ t, u = Value.float b t
  | .ref a, u => u = Value.ref a
  | .ty n, u => u = Value.type n
abbrev Vals : List V → List Value → Prop := Paired RelV
theorem Vals.length {xs : List V} {us : List Value} (r : Vals xs us) : xs.length = us.length := Paired.length r
theorem Vals.get : ∀ {xs : List V} {us : List Value} {i : Nat} {x : V}, Vals xs us → xs[i]? = some x → ∃ u, us[i]? = some u ∧ RelV x u
  | _, _, _, _, .nil, e => by simp at e
  | _, _, 0, _, .cons r _, e => by simp at e; subst e; exact ⟨_, rfl, r⟩
  | _, _, i + 1, x, .cons _ t, e => by
    obtain ⟨u, h1, h2⟩ := Vals.get (i := i) (x := x) t (by simpa using e)
    exact ⟨u, by simpa using h1, h2⟩
theorem Vals.set {x : V} {u : Value} (r : RelV x u) : ∀ {xs : List V} {us : List Value} (i : Nat), Vals xs us → Vals (xs.set i x) (us.set i u)
  | _, _, _, .nil => .nil
  | _, _, 0, .cons _ t => .cons r t
  | _, _, i + 1, .cons q t => .cons q (Vals.set r i t)
theorem Vals.append : ∀ {xs ys : List V} {us ws : List Value}, Vals xs us → Vals ys ws → Vals (xs ++ ys) (us ++ ws)
  | _, _, _, _, .nil, s => s
  | _, _, _, _, .cons r t, s => .cons r (Vals.append t s)
theorem Vals.take : ∀ {xs : List V} {us : List Value} (n : Nat), Vals xs us → Vals (xs.take n) (us.take n)
  | _, _, 0, _ => .nil
  | _, _, _ + 1, .nil => .nil
  | _, _, n + 1, .cons r t => .cons r (Vals.take n t)
theorem Vals.drop : ∀ {xs : List V} {us : List Value} (n : Nat), Vals xs us → Vals (xs.drop n) (us.drop n)
  | _, _, 0, r => r
  | _, _, _ + 1, .nil => .nil
  | _, _, n + 1, .cons _ t => Vals.drop n t
theorem Vals.none_of : ∀ {xs : List V} {us : List Value} {i : Nat}, Vals xs us → xs[i]? = none → us[i]? = none := fun {xs us i} r e => by
  have h1 := r.length
  have h2 : xs.length ≤ i := List.getElem?_eq_none_iff.mp e
  exact List.getElem?_eq_none_iff.mpr (by omega)
def RelO : Option V → Option Value → Prop
  | some v, some u => RelV v u
  | none, none => True
  | _, _ => False
def KV {κ : Type} : List (κ × V) → List (κ × Value) → Prop := Paired fun (p : κ × V) (q : κ × Value) => p.1 = q.1 ∧ RelV p.2 q.2
def kV : Key → V
  | .inl i => .int i
  | .inr x => .str x
inductive HO where
    | lst (xs : List V)
    | tup (xs : List V)
    | dK (kvs : List (Key × V)) | dT (kvs : List (List Key × V))
    | set (S : Int → Bool) (n : Nat)
    | ins (C dx : Addr) (fs : List (Str × V))
    | own (x : Addr)
    | xd (fs : List (Str × V))
    | met (f x : Addr)
    | rng (lo hi : Int)
    | frz (o : Obj) (u : HO)
    | tbl (ps : Array Value)
    | ext (φ : Heap → Prop)
abbrev Hp := Addr → Option HO
def upd (H : Hp) (a : Addr) (o : HO) : Hp := fun b => if b = a then some o else H b
theorem upd_same {H : Hp} {a : Addr} {o : HO} : upd H a o a = some o := by unfold upd; rw [if_pos rfl]
theorem upd_ne {H : Hp} {a b : Addr} {o : HO} (h : b ≠ a) : upd H a o b = H b := by unfold upd; rw [if_neg h]
theorem upd_upd {H : Hp} {a : Addr} {o u : HO} : upd (upd H a o) a u = upd H a u := by
  funext b; unfold upd; split <;> rfl
theorem ne_of {H : Hp} {a b : Addr} {o u : HO} (h : H a = some o) (h' : H b = some u) (d : o ≠ u) : a ≠ b := by
  intro e; subst e; rw [h] at h'; exact d (Option.some.inj h')
theorem ne_of_none {H : Hp} {a b : Addr} {o : HO} (h : H a = some o) (h' : H b = none) : a ≠ b := by
  intro e; subst e; rw [h] at h'; cases h'
section
variable (P : Program) (w : World)
def ObjOk (H : Hp) (h : Heap) (a : Addr) : HO → Prop
  | .lst xs => xs.length ≤ sizeLine ∧ ∃ (its : List Value) (n : Nat), Vals xs its ∧ h.get? a = some { cls := .type "list", data := .seq its.toArray n }
  | .tup xs => xs.length ≤ sizeLine ∧ ∃ its : List Value, Vals xs its ∧ IsTup h a its.toArray
  | .dK kvs => kvs.length ≤ sizeLine ∧ (a == sysModules) = false ∧ ∃ vs, KV kvs vs ∧ h.DictOf (mixKind P w) a vs
  | .dT kvs => kvs.length ≤ sizeLine ∧ (a == sysModules) = false ∧ ∃ xs : List (List Key × Addr × Value),
      Paired (fun (p : List Key × V) (q : List Key × Addr × Value) => p.1 = q.1 ∧ H q.2.1 = some (.tup (p.1.map kV)) ∧ RelV p.2 q.2.2) kvs xs ∧
      ∃ o es ep, h.get? a = some o ∧ o.ExactDict ∧ o.data = .dict es ep ∧ es.toList = xs.map (entryOfKey (tupleKind (mixKind P w))) ∧ (xs.map (·.1)).Nodup
  | .set S n => h.SetOf (intKind P w) a S n
  | .ins C dx fs => H dx = some (.own a) ∧ fs.length ≤ 1000 ∧ dx ≠ a ∧ h.get? a = some (PySem.W.instObj C dx) ∧
      ∃ mA, h.Ns1 dx mA ∧ (∀ f, RelO (fs.lookup f) (mA f)) ∧ PySem.Within mA (fs.map (·.1))
  | .own _ => ∃ o, h.get? a = some o
  | .xd fs => ∃ mA, h.Ns1 a mA ∧ ∀ f, RelO (fs.lookup f) (mA f)
  | .rng lo hi => ∃ t u v, h.get? a = some { cls := .type "range", data := .fields #[.int lo t, .int hi u, .int 1 v] }
  | .frz o u => h.get? a = some o ∧ ObjOk H h a u
  | .tbl ps => h.get? a = some { cls := .none, data := .fields ps }
  | .met f x => h.get? a = some (PySem.W.methodObj (.ref f) (.ref x))
  | .ext φ => φ h ∧ (∃ o, h.get? a = some o) ∧ ∀ h1 h2 : Heap, φ h1 → (∀ o, h1.get? a = some o → h2.get? a = some o) → φ h2
def HOk (H : Hp) (h : Heap) : Prop := ∀ a o, H a = some o → ObjOk P w H h a o
end
section
variable {P : Program} {w : World} {H H' : Hp} {h h' : Heap} {a : Addr} {o : HO}
theorem ObjOk.lt (x : ObjOk P w H h a o) : a < h.objs.size := by
  cases o with
  | lst xs => obtain ⟨_, _, _, _, e⟩ := x; exact Heap.lt_size e
  | tup xs => obtain ⟨_, _, _, p⟩ := x; exact p.lt
  | dK kvs => obtain ⟨_, _, _, _, o, _, _, e, _⟩ := x; exact Heap.lt_size e
  | dT kvs => obtain ⟨_, _, _, _, o, _, _, e, _⟩ := x; exact Heap.lt_size e
  | set S n => obtain ⟨o, _, _, _, e, _⟩ := x; exact Heap.lt_size e
  | ins C dx fs => obtain ⟨_, _, _, e, _⟩ := x; exact Heap.lt_size e
  | own y => obtain ⟨_, e⟩ := x; exact Heap.lt_size e
  | xd fs => obtain ⟨_, ⟨_, _, _, e, _⟩, _⟩ := x; exact Heap.lt_size e
  | rng lo hi => obtain ⟨_, _, _, e⟩ := x; exact Heap.lt_size e
  | frz ob u => obtain ⟨e, _⟩ := x; exact Heap.lt_size e
  | tbl ps => exact Heap.lt_size (show h.get? a = some _ from x)
  | met f y => exact Heap.lt_size (show h.get? a = some _ from x)
  | ext φ => obtain ⟨_, ⟨_, e⟩, _⟩ := x; exact Heap.lt_size e
theorem Paired.mapP {α β : Type} {F G : α → β → Prop} : ∀ {l₁ : List α} {l₂ : List β}, Paired F l₁ l₂ → (∀ a b, F a b → G a b) → Paired G l₁ l₂
  | _, _, .nil, _ => .nil
  | _, _, .cons r t, f => .cons (f _ _ r) (Paired.mapP t f)
theorem ObjOk.stay (x : ObjOk P w H h a o) (k : ∀ b u, (b = a ∨ H b = some (.own a)) → h.get? b = some u → h'.get? b = some u)
    (ho : ∀ b, H b = some (.own a) → H' b = some (.own a)) (ht : ∀ b xs, H b = some (.tup xs) → H' b = some (.tup xs)) : ObjOk P w H' h' a o := by
  induction o with
  | lst xs => obtain ⟨z, its, n, r, e⟩ := x; exact ⟨z, its, n, r, k _ _ (.inl rfl) e⟩
  | tup xs => obtain ⟨z, its, r, ob, e, c⟩ := x; exact ⟨z, its, r, ob, k _ _ (.inl rfl) e, c⟩
  | dK kvs => obtain ⟨z, y, vs, r, ob, es, ep, e, c⟩ := x; exact ⟨z, y, vs, r, ob, es, ep, k _ _ (.inl rfl) e, c⟩
  | dT kvs =>
    obtain ⟨z, y, xs, r, ob, es, ep, e, c⟩ := x
    exact ⟨z, y, xs, Paired.mapP r fun p q z => ⟨z.1, ht _ _ z.2.1, z.2.2⟩, ob, es, ep, k _ _ (.inl rfl) e, c⟩
  | set S n => obtain ⟨ob, es, ep, t, e, c⟩ := x; exact ⟨ob, es, ep, t, k _ _ (.inl rfl) e, c⟩
  | ins C dx fs =>
    obtain ⟨d, z, ne, e, mA, ⟨od, es, ep, e2, c⟩, r⟩ := x
    exact ⟨ho _ d, z, ne, k _ _ (.inl rfl) e, mA, ⟨od, es, ep, k _ _ (.inr d) e2, c⟩, r⟩
  | own y => obtain ⟨ob, e⟩ := x; exact ⟨ob, k _ _ (.inl rfl) e⟩
  | xd fs => obtain ⟨mA, ⟨od, es, ep, e, c⟩, r⟩ := x; exact ⟨mA, ⟨od, es, ep, k _ _ (.inl rfl) e, c⟩, r⟩
  | rng lo hi => obtain ⟨t, u, v, e⟩ := x; exact ⟨t, u, v, k _ _ (.inl rfl) e⟩
  | frz ob u ih => obtain ⟨e, q⟩ := x; exact ⟨k _ _ (.inl rfl) e, ih q⟩
  | tbl ps =>
    have e : h.get? a = some { cls := .none, data := .fields ps } := x
    show h'.get? a = some { cls := .none, data := .fields ps }
    exact k a _ (.inl rfl) e
  | met f y =>
    have e : h.get? a = some (PySem.W.methodObj (.ref f) (.ref y)) := x
    show h'.get? a = some (PySem.W.methodObj (.ref f) (.ref y))
    exact k a _ (.inl rfl) e
  | ext φ => obtain ⟨p, ⟨o, e⟩, st⟩ := x; exact ⟨st _ _ p fun o q => k _ _ (.inl rfl) q, ⟨o, k _ _ (.inl rfl) e⟩, st⟩
theorem HOk.lt (x : HOk P w H h) (e : H a = some o) : a < h.objs.size := (x a o e).lt
theorem HOk.fresh (x : HOk P w H h) (e : h.objs.size ≤ a) : H a = none := by
  cases q : H a with
  | none => rfl
  | some u => exact absurd (Nat.lt_of_lt_of_le (x.lt q) e) (Nat.lt_irrefl _)
theorem HOk.kept (x : HOk P w H h) (k : ∀ b u, h.get? b = some u → h'.get? b = some u) : HOk P w H h' := fun a o e =>
  (x a o e).stay (fun b u _ q => k b u q) (fun _ q => q) fun _ _ q => q
theorem HOk.laid (x : HOk P w H h) (k : ∀ b u, h.get? b = some u → h'.get? b = some u) (hp : h.objs.size ≤ a) (new : ObjOk P w (upd H a o) h' a o) : HOk P w (upd H a o) h' := fun b u e => by
  have hn := x.fresh hp
  by_cases hb : b = a
  · subst hb; rw [upd_same] at e; cases e; exact new
  · rw [upd_ne hb] at e
    exact (x b u e).stay (fun c v _ q => k c v q) (fun c q => by rw [upd_ne (ne_of_none q hn)]; exact q) fun c xs q => by rw [upd_ne (ne_of_none q hn)]; exact q
end
def Rd (H : Hp) (a : Addr) (u : HO) : Prop := H a = some u ∨ ∃ o, H a = some (.frz o u)
theorem Rd.of {H : Hp} {a : Addr} {u : HO} (h : H a = some u) : Rd H a u := .inl h
theorem Rd.ok {P : Program} {w : World} {H : Hp} {h : Heap} {a : Addr} {u : HO} (r : Rd H a u) (x : HOk P w H h) : ObjOk P w H h a u := by
  rcases r with r | ⟨o, r⟩
  · exact x a u r
  · obtain ⟨_, q⟩ := x a _ r
    exact q
def Mut : Option HO → Prop
  | some (.lst _) => True
  | some (.dK _) => True
  | some (.dT _) => True
  | some (.set _ _) => True
  | some (.ins _ _ _) => True
  | some (.ext _) => True
  | _ => False
section
variable {P : Program} {w : World} {H : Hp} {h h' : Heap} {x e : Addr} {o' : HO}
theorem HOk.write (ok : HOk P w H h) (mu : Mut (H x)) (he : e = x ∨ H e = some (.own x)) (k : ∀ b u, b ≠ e → h.get? b = some u → h'.get? b = some u) (heo : ∃ u, h'.get? e = some u)
    (new : ObjOk P w (upd H x o') h' x o') : HOk P w (upd H x o') h' := fun b u q => by
  have nown : ∀ c y, H c = some (.own y) → c ≠ x := fun c y r z => by subst z; rw [r] at mu; exact mu
  have ntup : ∀ c xs, H c = some (.tup xs) → c ≠ x := fun c xs r z => by subst z; rw [r] at mu; exact mu
  by_cases hb : b = x
  · subst hb; rw [upd_same] at q; cases q; exact new
  · rw [upd_ne hb] at q
    by_cases hbe : b = e
    · have q' : H b = some (.own x) := by
        rcases he with z | z
        · exact absurd (hbe.trans z) hb
        · rw [hbe]; exact z
      rw [q] at q'; cases q'
      obtain ⟨v, hv⟩ := heo
      exact ⟨v, by rw [hbe]; exact hv⟩
    · refine (ok b u q).stay (fun c v hc r => k c v ?_ r) (fun c r => by rw [upd_ne (nown c b r)]; exact r) fun c xs r => by rw [upd_ne (ntup c xs r)]; exact r
      rcases hc with rfl | hc
      · exact hbe
      · rintro rfl
        rcases he with z | z
        · exact nown c b hc z
        · rw [hc] at z; cases z; exact hb rfl
end
structure Un (fs ex : List Addr) (H H' : Hp) (h h' : Heap) : Prop where
  keep : ∀ b o, h.get? b = some o → H b = none → b ∉ fs → b ∉ ex → h'.get? b = some o
  slot : ∀ b o, h.get? b = some o → H b = none → b ∈ fs → b ∉ ex → ∃ sl, h'.get? b = some { o with slots := sl }
  free : ∀ b o, h.get? b = some o → H b = none → b ∉ ex → H' b = none
  there : ∀ b o, h.get? b = some o → b ∉ ex → ∃ o', h'.get? b = some o'
  tups : ∀ b xs, H b = some (.tup xs) → H' b = some (.tup xs)
  frzs : ∀ b o u, H b = some (.frz o u) → H' b = some (.frz o u)
  tbls : ∀ b ps, H b = some (.tbl ps) → ∃ more, H' b = some (.tbl (ps ++ more))
section
variable {fs fs' ex ex' : List Addr} {H H1 H2 : Hp} {h h1 h2 h' : Heap} {a x e : Addr} {o : HO}
theorem Un.any (u : Un fs ex H H1 h h1) {b : Addr} {ob : Obj} (q : h.get? b = some ob) (n : H b = none) (hx : b ∉ ex) : ∃ sl, h1.get? b = some { ob with slots := sl } := by
  by_cases hb : b ∈ fs
  · exact u.slot b ob q n hb hx
  · exact ⟨ob.slots, u.keep b ob q n hb hx⟩
theorem Un.trans (a : Un fs ex H H1 h h1) (b : Un fs ex H1 H2 h1 h2) : Un fs ex H H2 h h2 where
  keep := fun c ob q n hc hx => b.keep c ob (a.keep c ob q n hc hx) (a.free c ob q n hx) hc hx
  slot := fun c ob q n hc hx => by
    obtain ⟨sl, e1⟩ := a.slot c ob q n hc hx
    obtain ⟨sl', e2⟩ := b.slot c _ e1 (a.free c ob q n hx) hc hx
    exact ⟨sl', e2⟩
  free := fun c ob q n hx => by
    obtain ⟨o', e1⟩ := a.there c ob q hx
    exact b.free c o' e1 (a.free c ob q n hx) hx
  there := fun c ob q hx => by
    obtain ⟨o', e1⟩ := a.there c ob q hx
    exact b.there c o' e1 hx
  tups := fun c xs q => b.tups c xs (a.tups c xs q)
  frzs := fun c ob xs q => b.frzs c ob xs (a.frzs c ob xs q)
  tbls := fun c ps q => by
    obtain ⟨m1, e1⟩ := a.tbls c ps q
    obtain ⟨m2, e2⟩ := b.tbls c _ e1
    exact ⟨m1 ++ m2, by rw [e2, Array.append_assoc]⟩
theorem Un.kept (k : ∀ b u, h.get? b = some u → h'.get? b = some u) : Un fs ex H H h h' :=
  ⟨fun b ob q _ _ _ => k b ob q, fun b ob q _ _ _ => ⟨ob.slots, k b ob q⟩, fun _ _ _ n _ => n, fun b ob q _ => ⟨ob, k b ob q⟩, fun _ _ q => q, fun _ _ _ q => q, fun _ ps q => ⟨#[], by rw [q]; simp⟩⟩
theorem Un.refl : Un fs ex H H h h := Un.kept fun _ _ q => q
theorem Un.laid (k : ∀ b u, h.get? b = some u → h'.get? b = some u) (hp : h.objs.size ≤ a) (hn : H a = none) : Un fs ex H (upd H a o) h h' where
  keep := fun b u q _ _ _ => k b u q
  slot := fun b u q _ _ _ => ⟨u.slots, k b u q⟩
  free := fun b u q n _ => by rw [upd_ne (Nat.ne_of_lt (Nat.lt_of_lt_of_le (Heap.lt_size q) hp))]; exact n
  there := fun b u q _ => ⟨u, k b u q⟩
  tups := fun b xs q => by rw [upd_ne (ne_of_none q hn)]; exact q
  frzs := fun b u xs q => by rw [upd_ne (ne_of_none q hn)]; exact q
  tbls := fun b ps q => ⟨#[], by rw [upd_ne (ne_of_none q hn), q]; simp⟩
theorem Un.write (mu : Mut (H x)) (he : e = x ∨ H e = some (.own x)) (k : ∀ b u, b ≠ e → h.get? b = some u → h'.get? b = some u) (heo : ∃ u, h'.get? e = some u) : Un fs ex H (upd H x o) h h' := by
  have hx : ∀ b, H b = none → b ≠ x := fun b n z => by subst z; rw [n] at mu; exact mu
  have hb : ∀ b, H b = none → b ≠ e := fun b n z => by
    subst z
    rcases he with r | r
    · exact hx b n r
    · rw [n] at r; cases r
  have hm : ∀ b u, H b = some u → ¬ Mut (some u) → b ≠ x := fun b u q nm z => by subst z; rw [q] at mu; exact nm mu
  refine ⟨fun b u q n _ _ => k b u (hb b n) q, fun b u q n _ _ => ⟨u.slots, k b u (hb b n) q⟩, fun b u q n _ => by rw [upd_ne (hx b n)]; exact n, fun b u q _ => ?_,
    fun b xs q => by rw [upd_ne (hm b _ q fun z => z)]; exact q, fun b u xs q => by rw [upd_ne (hm b _ q fun z => z)]; exact q, fun b ps q => ⟨#[], by rw [upd_ne (hm b _ q fun z => z), q]; simp⟩⟩
  by_cases hbe : b = e
  · subst hbe; exact heo
  · exact ⟨u, k b u hbe q⟩
theorem Un.mono (u : Un fs ex H H1 h h1) (hs : ∀ b ∈ fs, b ∈ fs') (hx : ∀ b ∈ ex, b ∈ ex') : Un fs' ex' H H1 h h1 :=
  ⟨fun b ob q n hb he => u.keep b ob q n (fun z => hb (hs b z)) fun z => he (hx b z), fun _ _ q n _ he => u.any q n fun z => he (hx _ z), fun b ob q n he => u.free b ob q n fun z => he (hx b z), fun b ob q he => u.there b ob q fun z => he (hx b z), u.tups, u.frzs, u.tbls⟩
end
def trk (h : Heap) (H : Hp) : List Addr := (List.range h.objs.size).filter fun a => (H a).isSome
def hidT (h : Heap) (H : Hp) : Heap := PySem.W.hideAll h (trk h H)
theorem hidT_size (h : Heap) (H : Hp) : (hidT h H).objs.size = h.objs.size := PySem.W.hideAll_size _ _
theorem hidT_get {h : Heap} {H : Hp} {b : Addr} {o : Obj} (e : h.get? b = some o) (n : H b = none) : (hidT h H).get? b = some o :=
  PySem.W.hideAll_get _ e fun hm => by
    have q : (H b).isSome = true := (List.mem_filter.mp hm).2
    rw [n] at q; simp at q
theorem of_hidT {h : Heap} {H : Hp} {b : Addr} {o : Obj} (e : (hidT h H).get? b = some o) : h.get? b = some o ∧ H b = none := by
  have e' : h.get? b = some o := PySem.W.of_hideAll (trk h H) e
  refine ⟨e', ?_⟩
  cases q : H b with
  | none => rfl
  | some x =>
    have hm : b ∈ trk h H := List.mem_filter.mpr ⟨List.mem_range.mpr (Heap.lt_size e'), by simp [q]⟩
    have z : (hidT h H).get? b = none := PySem.W.hideAll_none (trk h H) hm
    rw [z] at e; cases e
def allNews (g h : Heap) (L : Addr) : List (Addr × Obj) := (List.range h.objs.size).filterMap fun a => if a = L ∨ (g.get? a).isSome = true then none else (h.get? a).map fun o => (a, o)
def rest (g h : Heap) (L d : Addr) : List (Addr × Obj) := (allNews g h L).filter fun p => decide (p.1 ≠ d)
end L2
namespace L2
open PySem PySem.Spec PyProof.Rows
structure Mod (K : PySem.W.Frag) (mg : Str → Option Value) (base : Heap) : Prop where
  kin : K.In base
  glob : base.Ns mainGlobals mg
  blt : ∃ mb, base.Ns builtinsNs mb ∧ ∀ x : Str, x ≠ "__name__" → mb x = bootBuiltins x
  nolimit : base.NoLimit
structure Cx where
  prog : Program
  w : World
  K : PySem.W.Frag
  mg : Str → Option Value
  base : Heap
  A : Around
  N : List Str
  s₀ : Shared
  H₀ : Hp
  env : Env
  outer : List Env
  stack : List Env
  ex : List Addr
  fn : Str → Bool
  calm : Bool
  pn : List (Addr × Obj)
  xe : Value → Shared → Prop
def frs (l : List Env) : List Addr := l.filterMap (·.frame)
abbrev Cx.fs (X : Cx) : List Addr := frs X.outer
def Vis (sc : Scope) (x : Str) : Prop := sc.names.lookup x = some .local ∨ sc.names.lookup x = some .cell ∨ sc.names.lookup x = some .free
def Loc (sc : Scope) (x : Str) : Prop := sc.names.lookup x = some .local ∨ sc.names.lookup x = some .cell
def Look (env : Env) (h : Heap) (m : Str → Option Value) (x : Str) (u : Value) : Prop :=
  (env.kindOf x = some .local ∧ m x = some u) ∨ ((env.kindOf x = some .cell ∨ env.kindOf x = some .free) ∧ ∃ c, env.cells.lookup x = some c ∧ h.IsCell c (some u))
structure Cx.Ok (X : Cx) : Prop where
  mod : Mod X.K X.mg X.base
  kind : X.env.scope.kind = .function
  glob : X.env.globals = mainGlobals
  blt : X.env.builtins = builtinsNs
  above : X.s₀.heap.objs.size ≤ X.env.locals
  inj : ∀ x y c, X.env.cells.lookup x = some c → X.env.cells.lookup y = some c → x = y
  has : ∀ x, (X.env.kindOf x = some .cell ∨ X.env.kindOf x = some .free) → ∃ c, X.env.cells.lookup x = some c
  cab : ∀ x c, X.fn x = true → X.env.cells.lookup x = some c → X.s₀.heap.objs.size ≤ c
  hd : X.calm = true → X.A.handled = none
  frames : X.A.frames = some X.stack
  stk : X.stack = X.outer ∨ (X.stack = X.env :: X.outer ∧ X.env.frame = some X.env.locals)
  exf : ∀ b ∈ X.ex, b ≠ X.env.locals ∧ ∀ x c, X.env.cells.lookup x = some c → c ≠ b
  bs : ∀ b o, X.base.get? b = some o → X.s₀.heap.get? b = some o ∧ X.H₀ b = none
  bsz : X.base.objs.size ≤ X.s₀.heap.objs.size
  noex : ∀ b o, X.base.get? b = some o → b ∉ X.ex
  exfs : ∀ b ∈ X.ex, b ∉ X.fs
  funs : X.s₀.heap.FunFrames X.base X.outer
  frf : ∀ b ∈ X.fs, X.H₀ b = none
structure Inv (X : Cx) (pins : List (Addr × Obj)) (σ : List (Option V)) (H : Hp) (s : Shared) : Prop where
  ok : X.Ok
  os : s.os = X.s₀.os
  bare : AllBare s.gens
  base : Un X.fs X.ex X.H₀ H X.s₀.heap s.heap
  loc : ∃ m, s.heap.Ns X.env.locals m ∧ ∀ (i : Nat) (x : Str) (v : V), X.N[i]? = some x → σ[i]? = some (some v) → Vis X.env.scope x → ∃ u, RelV v u ∧ Look X.env s.heap m x u
  cell : ∀ x c, X.env.cells.lookup x = some c → ∃ v, s.heap.IsCell c v
  free : H X.env.locals = none
  freeC : ∀ x c, X.env.cells.lookup x = some c → H c = none
  pin : ∀ p ∈ X.pn ++ pins, s.heap.get? p.1 = some p.2 ∧ H p.1 = none ∧ p.1 ≠ X.env.locals ∧ p.1 ∉ X.fs ∧ ∀ v, p.2.data ≠ .cell v
  hok : HOk X.prog X.w H s.heap
  len : σ.length = X.N.length
section
variable {X : Cx} {pins : List (Addr × Obj)} {σ : List (Option V)} {H H' : Hp} {s : Shared} {h' : Heap}
theorem Cx.Ok.nofr (ok : X.Ok) {b : Addr} {o : Obj} (e : X.base.get? b = some o) : b ∉ X.fs := fun hb => by
  have := (ok.funs.mem hb).1
  rw [e] at this; cases this
theorem Inv.bs (I : Inv X pins σ H s) : ∀ b o, X.base.get? b = some o → s.heap.get? b = some o ∧ H b = none := fun b o e =>
  ⟨I.base.keep b o (I.ok.bs b o e).1 (I.ok.bs b o e).2 (I.ok.nofr e) (I.ok.noex b o e), I.base.free b o (I.ok.bs b o e).1 (I.ok.bs b o e).2 (I.ok.noex b o e)⟩
theorem Inv.bk (I : Inv X pins σ H s) : ∀ b o, X.base.get? b = some o → s.heap.get? b = some o := fun b o e => (I.bs b o e).1
theorem Inv.mod (I : Inv X pins σ H s) : Mod X.K X.mg X.base := I.ok.mod
theorem Inv.kIn (I : Inv X pins σ H s) : X.K.In s.heap := I.ok.mod.kin.keeps I.bk
theorem Inv.nolimit (I : Inv X pins σ H s) : s.heap.NoLimit := I.ok.mod.nolimit.keeps I.bk
theorem Inv.fr (I : Inv X pins σ H s) : ∃ m, Fr X.base X.env.locals s.heap m :=
  let ⟨m, hn, _⟩ := I.loc
  ⟨m, hn, I.bk, Nat.le_trans I.ok.bsz I.ok.above⟩
theorem Inv.lt (I : Inv X pins σ H s) : X.env.locals < s.heap.objs.size := let ⟨_, hn, _⟩ := I.loc; hn.lt
theorem Inv.sz (I : Inv X pins σ H s) : X.s₀.heap.objs.size ≤ s.heap.objs.size := Nat.le_trans I.ok.above (Nat.le_of_lt I.lt)
theorem Inv.nofs (I : Inv X pins σ H s) {a : Addr} (h : s.heap.objs.size ≤ a) : a ∉ X.fs := fun hb => by
  obtain ⟨_, o, ho, _⟩ := I.ok.funs.mem hb
  exact absurd (Nat.lt_of_lt_of_le (Heap.lt_size ho) (Nat.le_trans I.sz h)) (Nat.lt_irrefl _)
theorem Inv.cne (I : Inv X pins σ H s) : ∀ x c, X.env.cells.lookup x = some c → c ≠ X.env.locals := fun x c e z => by
  obtain ⟨v, o, ho, hd⟩ := I.cell x c e
  obtain ⟨m, ⟨o', es, ep, ho', hd', _⟩, _⟩ := I.loc
  rw [z, ho'] at ho; cases ho; rw [hd'] at hd; cases hd
theorem Inv.funs (I : Inv X pins σ H s) : s.heap.FunFrames X.base X.outer := by
  have all : ∀ (l : List Env), (∀ b ∈ frs l, b ∈ X.fs) → X.s₀.heap.FunFrames X.base l → s.heap.FunFrames X.base l := by
    intro l
    induction l with
    | nil => intro _ _; trivial
    | cons env r ih =>
      intro hs hl
      obtain ⟨hk, ⟨L, o, hf, hn, ho, hd⟩, hr⟩ := hl
      have hL : L ∈ X.fs := hs L (by unfold frs; rw [List.filterMap_cons, hf]; exact List.mem_cons_self)
      obtain ⟨sl, e⟩ := I.base.slot L o ho (I.ok.frf L hL) hL fun z => I.ok.exfs L z hL
      exact ⟨hk, ⟨L, _, hf, hn, e, hd⟩, ih (fun b hb => hs b (by unfold frs; rw [List.filterMap_cons, hf]; exact List.mem_cons_of_mem _ hb)) hr⟩
  exact all X.outer (fun _ hb => hb) I.ok.funs
theorem Inv.stack (I : Inv X pins σ H s) : s.heap.FunFrames X.base X.stack := by
  rcases I.ok.stk with e | ⟨e, hf⟩
  · rw [e]; exact I.funs
  · rw [e]
    obtain ⟨m, hn, _⟩ := I.loc
    refine .cons (by rw [I.ok.kind]; decide) hf hn ?_ I.funs
    exact Heap.get?_none_of_le (Nat.le_trans I.ok.bsz I.ok.above)
theorem Inv.stkSub (I : Inv X pins σ H s) : ∀ b ∈ frs X.stack, b ∈ X.env.locals :: X.fs := fun b hb => by
  rcases I.ok.stk with e | ⟨e, hf⟩
  · rw [e] at hb; exact List.mem_cons_of_mem _ hb
  · rw [e] at hb
    unfold frs at hb
    rw [List.filterMap_cons, hf] at hb
    exact hb
theorem Inv.stkFree (I : Inv X pins σ H s) : ∀ b ∈ frs X.stack, H b = none := fun b hb => by
  rcases List.mem_cons.mp (I.stkSub b hb) with e | hb
  · rw [e]; exact I.free
  · obtain ⟨_, o, ho, _⟩ := I.ok.funs.mem hb
    exact I.base.free b o ho (I.ok.frf b hb) fun z => I.ok.exfs b z hb
theorem Inv.step {g' : Array GenState} {t' : Nat} {d' : Drawn} {ch : List Addr} (I : Inv X pins σ H s)
    (hch : ∀ b ∈ ch, (b ∈ X.ex ∨ X.s₀.heap.objs.size ≤ b) ∧ b ≠ X.env.locals ∧ (∀ x c, X.env.cells.lookup x = some c → c ≠ b) ∧ ∀ p ∈ X.pn ++ pins, p.1 ≠ b)
    (keep : ∀ b o, b ≠ X.env.locals → b ∉ X.fs → b ∉ ch → s.heap.get? b = some o → H b = none → h'.get? b = some o)
    (slot : ∀ b o, b ≠ X.env.locals → b ∈ X.fs → b ∉ ch → s.heap.get? b = some o → H b = none → ∃ sl, h'.get? b = some { o with slots := sl }) (free : ∀ b o, b ∉ ch → s.heap.get? b = some o → H b = none → H' b = none)
    (there : ∀ b o, b ∉ ch → s.heap.get? b = some o → ∃ o', h'.get? b = some o')
    (tups : ∀ b xs, H b = some (.tup xs) → H' b = some (.tup xs)) (frzs : ∀ b o u, H b = some (.frz o u) → H' b = some (.frz o u)) (tbls : ∀ b ps, H b = some (.tbl ps) → ∃ more, H' b = some (.tbl (ps ++ more)))
    (ns : ∀ m, s.heap.Ns X.env.locals m → h'.Ns X.env.locals m) (hok : HOk X.prog X.w H' h') (hg : AllBare g') :
    Inv X pins σ H' { s with heap := h', gens := g', drawn := d', toks := t' } := by
  have neL : ∀ b o, X.s₀.heap.get? b = some o → b ≠ X.env.locals := fun b o e => Nat.ne_of_lt (Nat.lt_of_lt_of_le (Heap.lt_size e) I.ok.above)
  have neC : ∀ b o, X.s₀.heap.get? b = some o → b ∉ X.ex → b ∉ ch := fun b o e hx hb => by
    rcases (hch b hb).1 with z | z
    · exact hx z
    · exact absurd (Nat.lt_of_lt_of_le (Heap.lt_size e) z) (Nat.lt_irrefl _)
  have cellK : ∀ x c, X.env.cells.lookup x = some c → ∀ v, s.heap.IsCell c v → h'.IsCell c v := fun x c e v ⟨o, ho, hd⟩ => by
    have nch : c ∉ ch := fun z => (hch c z).2.2.1 x c e rfl
    by_cases hc : c ∈ X.fs
    · obtain ⟨sl, q⟩ := slot c o (I.cne x c e) hc nch ho (I.freeC x c e)
      exact ⟨_, q, hd⟩
    · exact ⟨o, keep c o (I.cne x c e) hc nch ho (I.freeC x c e), hd⟩
  refine ⟨I.ok, I.os, hg, ⟨fun b o e n hb hx => ?_, fun b o e n hb hx => ?_, fun b o e n hx => ?_, fun b o e hx => ?_, fun b xs e => tups b xs (I.base.tups b xs e), fun b o xs e => frzs b o xs (I.base.frzs b o xs e), fun b ps e => ?_⟩, ?_, fun x c e => ?_, ?_, fun x c e => ?_, fun p hp => ?_, hok, I.len⟩
  · exact keep b o (neL b o e) hb (neC b o e hx) (I.base.keep b o e n hb hx) (I.base.free b o e n hx)
  · obtain ⟨sl, e1⟩ := I.base.slot b o e n hb hx
    obtain ⟨sl', e2⟩ := slot b _ (neL b o e) hb (neC b o e hx) e1 (I.base.free b o e n hx)
    exact ⟨sl', e2⟩
  · obtain ⟨o', e1⟩ := I.base.there b o e hx
    exact free b o' (neC b o e hx) e1 (I.base.free b o e n hx)
  · obtain ⟨o', e1⟩ := I.base.there b o e hx
    exact there b o' (neC b o e hx) e1
  · obtain ⟨m1, e1⟩ := I.base.tbls b ps e
    obtain ⟨m2, e2⟩ := tbls b _ e1
    exact ⟨m1 ++ m2, by rw [e2, Array.append_assoc]⟩
  · obtain ⟨m, hn, hl⟩ := I.loc
    refine ⟨m, ns m hn, fun i x v e1 e2 e3 => ?_⟩
    obtain ⟨u, r, l⟩ := hl i x v e1 e2 e3
    refine ⟨u, r, ?_⟩
    rcases l with l | ⟨k, c, e, z⟩
    · exact .inl l
    · exact .inr ⟨k, c, e, cellK x c e _ z⟩
  · obtain ⟨v, z⟩ := I.cell x c e
    exact ⟨v, cellK x c e v z⟩
  · obtain ⟨m, ⟨o, _, _, ho, _⟩, _⟩ := I.loc
    exact free _ o (fun z => (hch _ z).2.1 rfl) ho I.free
  · obtain ⟨v, o, ho, hd⟩ := I.cell x c e
    exact free c o (fun z => (hch c z).2.2.1 x c e rfl) ho (I.freeC x c e)
  · obtain ⟨e, n, ne, nf, d⟩ := I.pin p hp
    have nch : p.1 ∉ ch := fun z => (hch p.1 z).2.2.2 p hp rfl
    exact ⟨keep p.1 p.2 ne nf nch e n, free p.1 p.2 nch e n, ne, nf, d⟩
theorem Inv.un {t' : Nat} (I : Inv X pins σ H s) (u : Un X.fs [] H H' s.heap h') (hok : HOk X.prog X.w H' h') : Inv X pins σ H' { s with heap := h', toks := t' } := by
  obtain ⟨m, ⟨o, es, ep, ho, r⟩, _⟩ := id I.loc
  obtain ⟨sl, hL⟩ := u.any ho I.free (by simp)
  exact I.step (g' := s.gens) (d' := s.drawn) (ch := []) (fun _ z => nomatch z) (fun b o _ hb _ e n => u.keep b o e n hb (by simp)) (fun b o _ hb _ e n => u.slot b o e n hb (by simp)) (fun b o _ e n => u.free b o e n (by simp)) (fun b o _ e => u.there b o e (by simp)) u.tups u.frzs u.tbls (fun m' hm => by
    obtain ⟨o', es', ep', ho', r'⟩ := hm
    rw [ho] at ho'; cases ho'
    exact ⟨_, es', ep', hL, r'⟩) hok I.bare
theorem Inv.call {g' : Array GenState} {t' : Nat} {d' : Drawn} {ch : List Addr} (I : Inv X pins σ H s) (u : Un (frs X.stack) ch H H' s.heap h') (hok : HOk X.prog X.w H' h') (hg : AllBare g')
    (hch : ∀ b ∈ ch, (b ∈ X.ex ∨ X.s₀.heap.objs.size ≤ b) ∧ b ≠ X.env.locals ∧ (∀ x c, X.env.cells.lookup x = some c → c ≠ b) ∧ ∀ p ∈ X.pn ++ pins, p.1 ≠ b) :
    Inv X pins σ H' { s with heap := h', gens := g', drawn := d', toks := t' } := by
  obtain ⟨m, ⟨o, es, ep, ho, r⟩, _⟩ := id I.loc
  obtain ⟨sl, hL⟩ := u.any ho I.free fun z => (hch _ z).2.1 rfl
  exact I.step (ch := ch) hch (fun b o hL hb hc e n => u.keep b o e n (fun z => (List.mem_cons.mp (I.stkSub b z)).elim hL hb) hc) (fun b o _ _ hc e n => u.any e n hc) (fun b o hc e n => u.free b o e n hc) (fun b o hc e => u.there b o e hc) u.tups u.frzs u.tbls (fun m' hm => by
    obtain ⟨o', es', ep', ho', r'⟩ := hm
    rw [ho] at ho'; cases ho'
    exact ⟨_, es', ep', hL, r'⟩) hok hg
theorem Inv.turned {t' : Nat} {it : Addr} (I : Inv X pins σ H s) (k : ∀ b o, b ≠ it → s.heap.get? b = some o → h'.get? b = some o) (hn : H it = none) (hL : it ≠ X.env.locals)
    (h1 : it ∈ X.ex ∨ X.s₀.heap.objs.size ≤ it) (h2 : ∀ x c, X.env.cells.lookup x = some c → c ≠ it) (h3 : ∀ p ∈ X.pn ++ pins, p.1 ≠ it) : Inv X pins σ H { s with heap := h', toks := t' } := by
  have nit : ∀ b u, H b = some u → b ≠ it := fun b u e z => by rw [z, hn] at e; cases e
  refine I.step (g' := s.gens) (d' := s.drawn) (ch := [it]) (fun b hb => ?_) (fun b o _ _ hc e _ => k b o (fun z => hc (by simp [z])) e) (fun b o _ _ hc e _ => ⟨o.slots, k b o (fun z => hc (by simp [z])) e⟩) (fun _ _ _ _ n => n)
    (fun b o hc e => ⟨o, k b o (fun z => hc (by simp [z])) e⟩) (fun _ _ e => e) (fun _ _ _ e => e) (fun b ps e => ⟨#[], by rw [e]; simp⟩) (fun m hm => ?_) (fun b u e => ?_) I.bare
  · have e : b = it := by simpa using hb
    subst e
    exact ⟨h1, hL, h2, h3⟩
  · obtain ⟨o, es, ep, ho, r⟩ := hm
    exact ⟨o, es, ep, k _ o (Ne.symm hL) ho, r⟩
  · refine (I.hok b u e).stay (fun c v hc q => k c v ?_ q) (fun _ q => q) fun _ _ q => q
    rcases hc with z | z
    · rw [z]; exact nit b u e
    · exact nit c _ z
theorem Inv.tok (I : Inv X pins σ H s) (t : Nat) : Inv X pins σ H { s with toks := t } := I.un (h' := s.heap) (t' := t) Un.refl I.hok
theorem Inv.kept {t' : Nat} (I : Inv X pins σ H s) (k : ∀ b u, s.heap.get? b = some u → h'.get? b = some u) : Inv X pins σ H { s with heap := h', toks := t' } := I.un (Un.kept k) (I.hok.kept k)
theorem Inv.laid {a : Addr} {o : HO} {t' : Nat} (I : Inv X pins σ H s) (k : ∀ b u, s.heap.get? b = some u → h'.get? b = some u) (hp : s.heap.objs.size ≤ a) (new : ObjOk X.prog X.w (upd H a o) h' a o) :
    Inv X pins σ (upd H a o) { s with heap := h', toks := t' } := I.un (Un.laid k hp (I.hok.fresh hp)) (I.hok.laid k hp new)
theorem Inv.write {x e : Addr} {o : HO} {t' : Nat} (I : Inv X pins σ H s) (mu : Mut (H x)) (he : e = x ∨ H e = some (.own x)) (k : ∀ b u, b ≠ e → s.heap.get? b = some u → h'.get? b = some u) (heo : ∃ u, h'.get? e = some u)
    (new : ObjOk X.prog X.w (upd H x o) h' x o) : Inv X pins σ (upd H x o) { s with heap := h', toks := t' } := I.un (Un.write mu he k heo) (I.hok.write mu he k heo new)
theorem Inv.weak {σ' : List (Option V)} (I : Inv X pins σ H s) (hl : σ'.length = σ.length) (w : ∀ (i : Nat) v, σ'[i]? = some (some v) → σ[i]? = some (some v)) : Inv X pins σ' H s :=
  ⟨I.ok, I.os, I.bare, I.base, let ⟨m, hn, hl'⟩ := I.loc; ⟨m, hn, fun i x v e1 e2 e3 => hl' i x v e1 (w i v e2) e3⟩, I.cell, I.free, I.freeC, I.pin, I.hok, hl.trans I.len⟩
theorem Inv.pins_of {pins' : List (Addr × Obj)} (I : Inv X pins σ H s) (h : ∀ p ∈ pins', s.heap.get? p.1 = some p.2 ∧ H p.1 = none ∧ p.1 ≠ X.env.locals ∧ p.1 ∉ X.fs ∧ ∀ v, p.2.data ≠ .cell v) : Inv X pins' σ H s :=
  ⟨I.ok, I.os, I.bare, I.base, I.loc, I.cell, I.free, I.freeC, fun p hp => (List.mem_append.mp hp).elim (fun z => I.pin p (List.mem_append_left _ z)) (h p), I.hok, I.len⟩
theorem nodup_ix {N : List Str} (hN : N.Nodup) {i j : Nat} {x : Str} (a : N[i]? = some x) (b : N[j]? = some x) : i = j := by
  obtain ⟨h1, e1⟩ := List.getElem?_eq_some_iff.mp a
  obtain ⟨h2, e2⟩ := List.getElem?_eq_some_iff.mp b
  exact (List.getElem_inj hN).mp (e1.trans e2.symm)
theorem store_ok2 {M : Model} {A : Around} {E : Value → Shared → Prop} {i : Nat} {x : Str} {v : V} {u : Value} {Q : Unit → Shared → Prop} (I : Inv X pins σ H s) (hN : X.N.Nodup) (hi : X.N[i]? = some x) (hx : Loc X.env.scope x) (r : RelV v u)
    (h : ∀ s', Inv X pins (σ.set i (some v)) H s' → (∃ a, Heap.SameBut a s.heap s'.heap ∧ (a = X.env.locals ∨ X.env.cells.lookup x = some a)) → Q () s') (hf : X.fn x = true ∨ X.env.scope.names.lookup x = some .local := by first | exact .inl rfl | exact .inr rfl | assumption) : wpAny M A (storeName X.env x u) Q E s := by
  obtain ⟨m, hn, hl⟩ := id I.loc
  have hcls : (X.env.scope.kind == .class || (X.env.scope.kind == .module && X.env.locals != X.env.globals)) = false := by rw [I.ok.kind]; rfl
  have hiσ : i < σ.length := by rw [I.len]; exact (List.getElem?_eq_some_iff.mp hi).1
  have cne := I.cne
  have tracked : ∀ {a : Addr} {h' : Heap}, (∃ o, s.heap.get? a = some o ∧ H a = none) → Heap.SameBut a s.heap h' → HOk X.prog X.w H h' := fun {a h'} ha hs b ob e => by
    obtain ⟨_, _, hfree⟩ := ha
    refine (I.hok b ob e).stay (fun c w' hc q => (hs.2 c ?_).trans q) (fun _ q => q) fun _ _ q => q
    rintro rfl
    rcases hc with rfl | hc
    · rw [hfree] at e; cases e
    · rw [hfree] at hc; cases hc
  rcases hx with hk | hk
  · refine wpAny_storeName_local hk hn (fun h' hn' hs => ?_) hcls
    obtain ⟨oL, _, _, hoL, _⟩ := id hn
    refine h _ ⟨I.ok, I.os, I.bare, ⟨fun b o e n hb hx => ?_, fun b o e n hb hx => ?_, I.base.free, fun b o e hx => ?_, I.base.tups, I.base.frzs, I.base.tbls⟩, ⟨_, hn', fun j y v' e1 e2 e3 => ?_⟩, fun y c e => ?_, I.free, I.freeC, fun p hp => ?_, tracked ⟨oL, hoL, I.free⟩ hs, by simpa using I.len⟩ ⟨_, hs, .inl rfl⟩
    · exact (hs.2 b (Nat.ne_of_lt (Nat.lt_of_lt_of_le (Heap.lt_size e) I.ok.above))).trans (I.base.keep b o e n hb hx)
    · obtain ⟨sl, e1⟩ := I.base.slot b o e n hb hx
      exact ⟨sl, (hs.2 b (Nat.ne_of_lt (Nat.lt_of_lt_of_le (Heap.lt_size e) I.ok.above))).trans e1⟩
    · obtain ⟨o', e1⟩ := I.base.there b o e hx
      exact ⟨o', (hs.2 b (Nat.ne_of_lt (Nat.lt_of_lt_of_le (Heap.lt_size e) I.ok.above))).trans e1⟩
    · by_cases hj : j = i
      · subst hj
        rw [hi] at e1; cases e1
        rw [List.getElem?_set_self hiσ] at e2
        cases e2
        exact ⟨u, r, .inl ⟨hk, by simp⟩⟩
      · rw [List.getElem?_set_ne (Ne.symm hj)] at e2
        obtain ⟨u', r', q⟩ := hl j y v' e1 e2 e3
        refine ⟨u', r', ?_⟩
        rcases q with ⟨k, e⟩ | ⟨k, c, e, z⟩
        · refine .inl ⟨k, ?_⟩
          have : y ≠ x := fun e => hj (nodup_ix hN e1 (e ▸ hi))
          simp [this, e]
        · exact .inr ⟨k, c, e, z.sameBut hs (cne y c e)⟩
    · obtain ⟨w', z⟩ := I.cell y c e
      exact ⟨w', z.sameBut hs (cne y c e)⟩
    · obtain ⟨e, n, ne, nf, d⟩ := I.pin p hp
      exact ⟨(hs.2 p.1 ne).trans e, n, ne, nf, d⟩
  · have hfn : X.fn x = true := by
      rcases hf with z | z
      · exact z
      · rw [z] at hk; cases hk
    obtain ⟨c, hc⟩ := I.ok.has x (.inl hk)
    obtain ⟨w', z⟩ := I.cell x c hc
    refine wpAny_storeName_cell I.ok.kind hk hc z (fun h' hc' hs => ?_)
    obtain ⟨oc, hoc, hocd⟩ := id z
    refine h { s with heap := h' } ⟨I.ok, I.os, I.bare, ⟨fun b o e n hb hx => ?_, fun b o e n hb hx => ?_, I.base.free, fun b o e hx => ?_, I.base.tups, I.base.frzs, I.base.tbls⟩, ⟨m, hn.sameBut hs (Ne.symm (cne x c hc)), fun j y v' e1 e2 e3 => ?_⟩, fun y c' e => ?_, I.free, I.freeC, fun p hp => ?_, tracked ⟨oc, hoc, I.freeC x c hc⟩ hs, by simpa using I.len⟩ ⟨c, hs, .inr hc⟩
    · exact (hs.2 b (Nat.ne_of_lt (Nat.lt_of_lt_of_le (Heap.lt_size e) (I.ok.cab x c hfn hc)))).trans (I.base.keep b o e n hb hx)
    · obtain ⟨sl, e1⟩ := I.base.slot b o e n hb hx
      exact ⟨sl, (hs.2 b (Nat.ne_of_lt (Nat.lt_of_lt_of_le (Heap.lt_size e) (I.ok.cab x c hfn hc)))).trans e1⟩
    · obtain ⟨o', e1⟩ := I.base.there b o e hx
      exact ⟨o', (hs.2 b (Nat.ne_of_lt (Nat.lt_of_lt_of_le (Heap.lt_size e) (I.ok.cab x c hfn hc)))).trans e1⟩
    · by_cases hj : j = i
      · subst hj
        rw [hi] at e1; cases e1
        rw [List.getElem?_set_self hiσ] at e2
        cases e2
        exact ⟨u, r, .inr ⟨.inl hk, c, hc, hc'⟩⟩
      · rw [List.getElem?_set_ne (Ne.symm hj)] at e2
        obtain ⟨u', r', q⟩ := hl j y v' e1 e2 e3
        refine ⟨u', r', ?_⟩
        rcases q with q | ⟨k, c', e, z'⟩
        · exact .inl q
        · refine .inr ⟨k, c', e, z'.sameBut hs ?_⟩
          rintro rfl
          exact hj (nodup_ix hN e1 (I.ok.inj _ _ _ e hc ▸ hi))
    · by_cases hcc : c' = c
      · subst hcc; exact ⟨_, hc'⟩
      · obtain ⟨w2, z2⟩ := I.cell y c' e
        exact ⟨w2, z2.sameBut hs hcc⟩
    · obtain ⟨e, n, ne, nf, d⟩ := I.pin p hp
      refine ⟨(hs.2 p.1 ?_).trans e, n, ne, nf, d⟩
      intro q
      rw [q, hoc] at e
      have q' : oc = p.2 := Option.some.inj e
      exact d w' (by rw [← q']; exact hocd)
theorem store_ok {M : Model} {A : Around} {E : Value → Shared → Prop} {i : Nat} {x : Str} {v : V} {u : Value} {Q : Unit → Shared → Prop} (I : Inv X pins σ H s) (hN : X.N.Nodup) (hi : X.N[i]? = some x) (hx : Loc X.env.scope x) (r : RelV v u)
    (h : ∀ s', Inv X pins (σ.set i (some v)) H s' → Q () s') (hf : X.fn x = true ∨ X.env.scope.names.lookup x = some .local := by first | exact .inl rfl | exact .inr rfl | assumption) : wpAny M A (storeName X.env x u) Q E s :=
  store_ok2 I hN hi hx r (fun s' I' _ => h s' I') hf
theorem Inv.call' {s' : Shared} {ch : List Addr} (I : Inv X pins σ H s) (ho : s'.os = s.os) (u : Un (frs X.stack) ch H H' s.heap s'.heap) (hok : HOk X.prog X.w H' s'.heap) (hg : AllBare s'.gens)
    (hch : ∀ b ∈ ch, (b ∈ X.ex ∨ X.s₀.heap.objs.size ≤ b) ∧ b ≠ X.env.locals ∧ (∀ x c, X.env.cells.lookup x = some c → c ≠ b) ∧ ∀ p ∈ X.pn ++ pins, p.1 ≠ b) : Inv X pins σ H' s' := by
  obtain ⟨h', g', d', t', o'⟩ := s'
  have e : o' = s.os := ho
  subst e
  exact I.call (g' := g') (t' := t') (d' := d') u hok hg hch
end
abbrev XK := Value → Option Addr → Hp → Prop
abbrev St := List (Option V)
abbrev VK := V → Hp → Prop
abbrev TE := St → Hp → VK → Prop
abbrev TT := St → Hp → (Bool → Hp → Prop) → Prop
abbrev TA := St → Hp → (List V → Hp → Prop) → Prop
structure Ends where
  nx : St → Hp → Prop
  rt : VK
  bk : St → Hp → Prop := fun _ _ => False
  ct : St → Hp → Prop := fun _ _ => False
abbrev TS := Ends → St → Hp → Prop
def EP (X : Cx) (pins : List (Addr × Obj)) (σ : St) (Q : VK) (u : Value) (s' : Shared) : Prop := ∃ v H', Inv X pins σ H' s' ∧ RelV v u ∧ Q v H'
def TP (X : Cx) (pins : List (Addr × Obj)) (σ : St) (Q : Bool → Hp → Prop) (b : Bool) (s' : Shared) : Prop := ∃ H', Inv X pins σ H' s' ∧ Q b H'
def AP (X : Cx) (pins : List (Addr × Obj)) (σ : St) (Q : List V → Hp → Prop) (us : List Value) (s' : Shared) : Prop := ∃ vs H', Inv X pins σ H' s' ∧ Vals vs us ∧ Q vs H'
def SP (X : Cx) (pins : List (Addr × Obj)) (D : Ends) (f : Flow) (s' : Shared) : Prop :=
  match f with
  | .next => ∃ σ' H', Inv X pins σ' H' s' ∧ D.nx σ' H'
  | .brk => ∃ σ' H', Inv X pins σ' H' s' ∧ D.bk σ' H'
  | .cont => ∃ σ' H', Inv X pins σ' H' s' ∧ D.ct σ' H'
  | .ret u => ∃ v σ' H', Inv X pins σ' H' s' ∧ RelV v u ∧ D.rt v H'
def PE (X : Cx) (e : Expr) (t : TE) : Prop :=
  ∀ (pins : List (Addr × Obj)) (s : Shared) (σ : St) (H : Hp) (Q : VK), Inv X pins σ H s → t σ H Q → wpAny (model X.prog X.w) X.A (eval e X.env) (EP X pins σ Q) X.xe s
def PT (X : Cx) (e : Expr) (t : TT) : Prop :=
  ∀ (pins : List (Addr × Obj)) (s : Shared) (σ : St) (H : Hp) (Q : Bool → Hp → Prop), Inv X pins σ H s → t σ H Q → wpAny (model X.prog X.w) X.A (isTrue e X.env (eval e X.env)) (TP X pins σ Q) X.xe s
def PW (X : Cx) (e : Expr) (t : TT) : Prop :=
  ∀ (whole : Sem Value) (pins : List (Addr × Obj)) (s : Shared) (σ : St) (H : Hp) (Q : Bool → Hp → Prop), Inv X pins σ H s → t σ H Q → wpAny (model X.prog X.w) X.A (isTrue e X.env whole) (TP X pins σ Q) X.xe s
theorem PW.pt {X : Cx} {e : Expr} {t : TT} (h : PW X e t) : PT X e t := h _
def PA (X : Cx) (es : List Expr) (t : TA) : Prop :=
  ∀ (pos : Pos) (pins : List (Addr × Obj)) (s : Shared) (σ : St) (H : Hp) (Q : List V → Hp → Prop), Inv X pins σ H s → t σ H Q → wpAny (model X.prog X.w) X.A (spliced (backTo pos (starEach es X.env))) (AP X pins σ Q) X.xe s
def PS (X : Cx) (st : Stmt) (t : TS) : Prop :=
  ∀ (pins : List (Addr × Obj)) (s : Shared) (σ : St) (H : Hp) (D : Ends), Inv X pins σ H s → t D σ H → wpAny (model X.prog X.w) X.A (exec st X.env) (SP X pins D) X.xe s
def PSs (X : Cx) (st : List Stmt) (t : TS) : Prop :=
  ∀ (pins : List (Addr × Obj)) (s : Shared) (σ : St) (H : Hp) (D : Ends), Inv X pins σ H s → t D σ H → wpAny (model X.prog X.w) X.A (execs st X.env) (SP X pins D) X.xe s
theorem thn {α : Type} {t : Sem α} {Q Q' : α → Shared → Prop} {M : Model} {A : Around} {E : Value → Shared → Prop} {s : Shared} (h : wpAny M A t Q E s) (hQ : ∀ a s, Q a s → Q' a s) : wpAny M A t Q' E s := wpAny_mono h hQ fun _ _ x => x
end L2
namespace L2
open PySem PySem.Spec PyProof.Rows
section
variable {X : Cx}
def tVar (i : Nat) : TE := fun σ H Q => ∃ v, σ[i]? = some (some v) ∧ Q v H
def tC (v : V) : TE := fun _ H Q => Q v H
theorem pe_var {i : Nat} {x : Str} {pos : Pos} (hN : X.N[i]? = some x) (hv : Vis X.env.scope x) (hd : (x == ("__debug__" : Str)) = false := by decide) (hcd : (x == ("__classdict__" : Str)) = false := by decide) : PE X (.Name x pos) (tVar i) := by
  intro pins s σ H Q I h
  obtain ⟨v, e, h⟩ := h
  obtain ⟨m, hn, hl⟩ := I.loc
  obtain ⟨u, r, l⟩ := hl i x v hN e hv
  have fin : EP X pins σ Q u s := ⟨v, H, I, r, h⟩
  rcases l with ⟨hk, hm⟩ | ⟨hk, c, hc, hcell⟩
  · exact wpAny_Name (wpAny_loadName_local I.ok.kind hk hn hm fin) hd
  · rcases hk with hk | hk
    · exact wpAny_Name (wpAny_loadName_cell I.ok.kind hk hc hcell fin) hd
    · exact wpAny_Name (wpAny_loadName_free I.ok.kind hk hc hcell fin hcd) hd
theorem pe_int {i j pos} : PE X (.Constant (.int i) j pos) (tC (.int i)) := fun _ _ _ H _ I h => wpAny_Constant_int ⟨.int i, H, I.tok _, ⟨_, rfl⟩, h⟩
theorem pe_bl {b j pos} : PE X (.Constant (.bool b) j pos) (tC (.bl b)) := fun _ _ _ H _ I h => Constant_bool ⟨.bl b, H, I, rfl, h⟩
theorem pe_non {j pos} : PE X (.Constant .none j pos) (tC .non) := fun _ _ _ H _ I h => Constant_none ⟨.non, H, I, rfl, h⟩
theorem pe_str {x j pos} : PE X (.Constant (.str x) j pos) (tC (.str x)) := fun _ _ _ H _ I h => Calls.Constant_str ⟨.str x, H, I.tok _, ⟨_, rfl⟩, h⟩
def Gl (X : Cx) (x : Str) : Prop := X.env.kindOf x = some .globalImplicit
theorem ld_glob {E : Value → Shared → Prop} {pins : List (Addr × Obj)} {s : Shared} {σ : St} {H : Hp} {x : Str} {u : Value} {pos : Pos} {Q : Value → Shared → Prop} (I : Inv X pins σ H s) (hg : Gl X x) (hm : X.mg x = some u) (h : Q u s)
    (hd : (x == ("__debug__" : Str)) = false := by decide) : wpAny (model X.prog X.w) X.A (eval (.Name x pos) X.env) Q E s :=
  Calls.Name_function_global I.ok.kind hg (Calls.loadGlobal_global (by rw [I.ok.glob]; exact I.mod.glob.keeps I.bk) hm h) hd
theorem ld_blt {E : Value → Shared → Prop} {pins : List (Addr × Obj)} {s : Shared} {σ : St} {H : Hp} {x : Str} {u : Value} {pos : Pos} {Q : Value → Shared → Prop} (I : Inv X pins σ H s) (hg : Gl X x) (hm : X.mg x = none) (hv : bootBuiltins x = some u) (h : Q u s)
    (hn : x ≠ "__name__" := by decide) (hd : (x == ("__debug__" : Str)) = false := by decide) : wpAny (model X.prog X.w) X.A (eval (.Name x pos) X.env) Q E s := by
  obtain ⟨mb, h1, h2⟩ := I.mod.blt
  exact Calls.Name_function_global I.ok.kind hg (Calls.loadGlobal_builtin (by rw [I.ok.glob]; exact I.mod.glob.keeps I.bk) hm (by rw [I.ok.blt]; exact h1.keeps I.bk) ((h2 x hn).trans hv) h) hd
theorem pe_glob {x : Str} {v : V} {u : Value} {pos : Pos} (hg : Gl X x) (hm : X.mg x = some u) (r : RelV v u) (hd : (x == ("__debug__" : Str)) = false := by decide) : PE X (.Name x pos) (tC v) :=
  fun _ _ _ H _ I h => ld_glob I hg hm ⟨v, H, I, r, h⟩ hd
theorem pe_bltn {x : Str} {v : V} {u : Value} {pos : Pos} (hg : Gl X x) (hm : X.mg x = none) (hv : bootBuiltins x = some u) (r : RelV v u) (hn : x ≠ "__name__" := by decide) (hd : (x == ("__debug__" : Str)) = false := by decide) : PE X (.Name x pos) (tC v) :=
  fun _ _ _ H _ I h => ld_blt I hg hm hv ⟨v, H, I, r, h⟩ hn hd
def t2I (ta tb : TE) (k : Int → Int → Hp → Prop) : St → Hp → Prop := fun σ H => ta σ H fun x H1 => tb σ H1 fun y H2 => ∃ i j, x = .int i ∧ y = .int j ∧ k i j H2
def tAdd (ta tb : TE) : TE := fun σ H Q => t2I ta tb (fun i j H2 => Q (.int (i + j)) H2) σ H
def tSub (ta tb : TE) : TE := fun σ H Q => t2I ta tb (fun i j H2 => Q (.int (i - j)) H2) σ H
def tMul (ta tb : TE) : TE := fun σ H Q => t2I ta tb (fun i j H2 => (-(2 ^ 64) < i ∧ i < 2 ^ 64) ∧ Q (.int (i * j)) H2) σ H
variable {a b : Expr} {ta tb : TE} {pos : Pos}
def PC (X : Cx) (op : CmpOp) (a b : Expr) (t : TE) : Prop :=
  ∀ (pins : List (Addr × Obj)) (s : Shared) (σ : St) (H : Hp) (Q : VK), Inv X pins σ H s → t σ H Q →
    wpAny (model X.prog X.w) X.A (eval a X.env) (fun v s₁ => wpAny (model X.prog X.w) X.A (eval b X.env) (fun u s₂ => wpAny (model X.prog X.w) X.A (compareOp op v u) (EP X pins σ Q) X.xe s₂) X.xe s₁) X.xe s
def tCmp (p : Int → Int → Bool) (ta tb : TE) : TE := fun σ H Q => t2I ta tb (fun i j H2 => Q (.bl (p i j)) H2) σ H
abbrev tLt : TE → TE → TE := tCmp fun i j => decide (i < j)
abbrev tLe : TE → TE → TE := tCmp fun i j => decide (i ≤ j)
abbrev tGt : TE → TE → TE := tCmp fun i j => decide (j < i)
abbrev tGe : TE → TE → TE := tCmp fun i j => decide (j ≤ i)
abbrev tEqI : TE → TE → TE := tCmp fun i j => decide (i = j)
abbrev tNeI : TE → TE → TE := tCmp fun i j => !decide (i = j)
def tIsN (ta : TE) : TE := fun σ H Q => ta σ H fun x H1 => Q (.bl (decide (x = .non))) H1
def tNotN (ta : TE) : TE := fun σ H Q => ta σ H fun x H1 => Q (.bl (!decide (x = .non))) H1
def tB (t : TE) : TT := fun σ H Q => t σ H fun x H1 => ∃ c, x = .bl c ∧ Q c H1
variable {tA tB' : TT} {rest : List Expr}
def tAnd (t u : TT) : TT := fun σ H Q => t σ H fun c H1 => if c = true then u σ H1 Q else Q false H1
def tOr (t u : TT) : TT := fun σ H Q => t σ H fun c H1 => if c = true then Q true H1 else u σ H1 Q
def tNot (t : TT) : TT := fun σ H Q => t σ H fun c H1 => Q (!c) H1
theorem pw_and1 (ha : PT X a tA) : PW X (.BoolOp .And [a] pos) tA := by
  intro wh pins s σ H Q I h
  refine isTrue_and (thn (ha pins s σ H Q I h) fun c s1 e => ?_)
  cases c with
  | true => exact isTrue_and_nil e
  | false => exact e
theorem pw_or1 (ha : PT X a tA) : PW X (.BoolOp .Or [a] pos) tA := by
  intro wh pins s σ H Q I h
  refine isTrue_or (thn (ha pins s σ H Q I h) fun c s1 e => ?_)
  cases c with
  | false => exact isTrue_or_nil e
  | true => exact e
theorem pw_and (ha : PT X a tA) (hb : PW X (.BoolOp .And (b :: rest) pos) tB') : PW X (.BoolOp .And (a :: b :: rest) pos) (tAnd tA tB') := by
  intro wh pins s σ H Q I h
  refine isTrue_and (thn (ha pins s σ H _ I h) fun c s1 ⟨H1, I1, q1⟩ => ?_)
  cases c with
  | true => exact hb wh pins s1 σ H1 Q I1 q1
  | false => exact ⟨H1, I1, q1⟩
theorem pw_or (ha : PT X a tA) (hb : PW X (.BoolOp .Or (b :: rest) pos) tB') : PW X (.BoolOp .Or (a :: b :: rest) pos) (tOr tA tB') := by
  intro wh pins s σ H Q I h
  refine isTrue_or (thn (ha pins s σ H _ I h) fun c s1 ⟨H1, I1, q1⟩ => ?_)
  cases c with
  | true => exact ⟨H1, I1, q1⟩
  | false => exact hb wh pins s1 σ H1 Q I1 q1
theorem pt_not (ha : PT X a tA) : PT X (.UnaryOp .Not a pos) (tNot tA) := by
  intro pins s σ H Q I h
  exact isTrue_not (ha pins s σ H (fun c H1 => Q (!c) H1) I h)
def tAndV (ta tb : TE) : TE := fun σ H Q => ta σ H fun x H1 => ∃ c, x = .bl c ∧ if c = true then tb σ H1 Q else Q (.bl false) H1
def tOrV (ta tb : TE) : TE := fun σ H Q => ta σ H fun x H1 => ∃ c, x = .bl c ∧ if c = true then Q (.bl true) H1 else tb σ H1 Q
def tNotV (ta : TE) : TE := fun σ H Q => ta σ H fun x H1 => ∃ c, x = .bl c ∧ Q (.bl (!c)) H1
theorem pe_one {op} {t : TE} (h : PE X a t) : PE X (.BoolOp op [a] pos) t := fun pins s σ H Q I hw => BoolOp_one (h pins s σ H Q I hw)
theorem pe_and (ha : PE X a ta) (hb : PE X (.BoolOp .And (b :: rest) pos) tb) : PE X (.BoolOp .And (a :: b :: rest) pos) (tAndV ta tb) := by
  intro pins s σ H Q I h
  refine BoolOp_and (thn (ha pins s σ H _ I h) fun v s1 ⟨x, H1, I1, r1, q1⟩ => ?_)
  obtain ⟨c, rfl, q1⟩ := q1
  cases r1
  refine wpAny_truthy_bool ?_
  cases c with
  | true => exact hb pins s1 σ H1 Q I1 q1
  | false => exact ⟨.bl false, H1, I1, rfl, q1⟩
def tIf (t : TT) (ta tb : TE) : TE := fun σ H Q => t σ H fun c H1 => if c = true then ta σ H1 Q else tb σ H1 Q
theorem pe_ifExp {c : Expr} (hc : PT X c tA) (ha : PE X a ta) (hb : PE X b tb) : PE X (.IfExp c a b pos) (tIf tA ta tb) := by
  intro pins s σ H Q I h
  refine wpAny_IfExp (thn (hc pins s σ H _ I h) fun d s1 ⟨H1, I1, q1⟩ => ?_)
  cases d with
  | true => exact ha pins s1 σ H1 Q I1 q1
  | false => exact hb pins s1 σ H1 Q I1 q1
end
end L2
namespace L2
open PySem PySem.Spec PyProof.Rows
def SqL (K : PySem.W.Frag) (H : Hp) (a : Addr) (xs : List V) : Prop :=
  Rd H a (.lst xs) ∨
    ∃ (o : Obj) (its : Array Value) (n : Nat), K.lookup a = some o ∧ o.cls = .type "list" ∧ o.dict = none ∧ o.data = .seq its n ∧ its.size ≤ sizeLine ∧ Vals xs its.toList
def SqT (K : PySem.W.Frag) (H : Hp) (a : Addr) (xs : List V) : Prop :=
  Rd H a (.tup xs) ∨
    ∃ (o : Obj) (its : Array Value) (n : Nat), K.lookup a = some o ∧ o.cls = .type "tuple" ∧ o.data = .seq its n ∧ its.size ≤ sizeLine ∧ Vals xs its.toList
def absV : Value → Option V
  | .none => some .non
  | .bool b => some (.bl b)
  | .int i _ => some (.int i)
  | .str x _ => some (.str x)
  | .bytes b _ => some (.byt b)
  | .float b _ => some (.flt b)
  | .ref a => some (.ref a)
  | .type n => some (.ty n)
  | _ => none
theorem RelV.abs {x : V} {u : Value} (r : RelV x u) : absV u = some x := by
  cases x with
  | non => cases r; rfl
  | bl _ => cases r; rfl
  | int _ => obtain ⟨t, rfl⟩ := r; rfl
  | str _ => obtain ⟨t, rfl⟩ := r; rfl
  | byt _ => obtain ⟨t, rfl⟩ := r; rfl
  | flt _ => obtain ⟨t, rfl⟩ := r; rfl
  | ref _ => cases r; rfl
  | ty _ => cases r; rfl
theorem RelV.inj {x y : V} {u : Value} (r : RelV x u) (q : RelV y u) : x = y := Option.some.inj (r.abs.symm.trans q.abs)
theorem Vals.inj : ∀ {xs ys : List V} {us : List Value}, Vals xs us → Vals ys us → xs = ys
  | _, _, _, .nil, .nil => rfl
  | _, _, _, .cons r t, .cons r' t' => by rw [r.inj r', Vals.inj t t']
section
variable {X : Cx} {pins : List (Addr × Obj)} {σ : St} {H : Hp} {s : Shared} {a : Addr} {xs ys : List V}
theorem SqL.of {K : PySem.W.Frag} (h : H a = some (.lst xs)) : SqL K H a xs := .inl (.inl h)
theorem SqT.of {K : PySem.W.Frag} (h : H a = some (.tup xs)) : SqT K H a xs := .inl (.inl h)
theorem Inv.list (I : Inv X pins σ H s) (h : SqL X.K H a xs) : ∃ its : List Value, Vals xs its ∧ PlainL s.heap a its.toArray ∧ xs.length ≤ sizeLine := by
  rcases h with h | ⟨o, its, n, hk, hc, hd, hs, hz, r⟩
  · obtain ⟨z, its, n, r, e⟩ := h.ok I.hok
    exact ⟨its, r, ⟨_, n, e, rfl, rfl, rfl⟩, z⟩
  · refine ⟨its.toList, r, ⟨o, n, I.kIn a o hk, hc, hd, by simpa using hs⟩, ?_⟩
    have e := r.length
    simp only [Array.length_toList] at e
    omega
theorem Inv.tuple (I : Inv X pins σ H s) (h : SqT X.K H a xs) : ∃ its : List Value, Vals xs its ∧ IsTup s.heap a its.toArray ∧ xs.length ≤ sizeLine := by
  rcases h with h | ⟨o, its, n, hk, hc, hs, hz, r⟩
  · obtain ⟨z, its, r, p⟩ := h.ok I.hok
    exact ⟨its, r, p, z⟩
  · refine ⟨its.toList, r, ⟨o, I.kIn a o hk, hc, n, by simpa using hs⟩, ?_⟩
    have e := r.length
    simp only [Array.length_toList] at e
    omega
theorem Inv.list_inj (I : Inv X pins σ H s) (h : SqL X.K H a xs) (h' : SqL X.K H a ys) : xs = ys := by
  obtain ⟨its, r, ⟨o, n, e, _, _, d⟩, _⟩ := I.list h
  obtain ⟨its', r', ⟨o', n', e', _, _, d'⟩, _⟩ := I.list h'
  rw [e] at e'; cases e'
  rw [d] at d'
  injection d' with d1 _
  have : its = its' := by simpa using congrArg Array.toList d1
  subst this
  exact r.inj r'
theorem Inv.tuple_inj (I : Inv X pins σ H s) (h : SqT X.K H a xs) (h' : SqT X.K H a ys) : xs = ys := by
  obtain ⟨its, r, ⟨o, e, _, n, d⟩, _⟩ := I.tuple h
  obtain ⟨its', r', ⟨o', e', _, n', d'⟩, _⟩ := I.tuple h'
  rw [e] at e'; cases e'
  rw [d] at d'
  injection d' with d1 _
  have : its = its' := by simpa using congrArg Array.toList d1
  subst this
  exact r.inj r'
end
abbrev Cx.wish (X : Cx) (E : Value → Shared → Prop) : Cx := { X with xe := E }
abbrev Cx.nox (X : Cx) : Cx := X.wish fun _ _ => False
theorem Cx.Ok.wish {X : Cx} (ok : X.Ok) (E : Value → Shared → Prop) : (X.wish E).Ok :=
  ⟨ok.mod, ok.kind, ok.glob, ok.blt, ok.above, ok.inj, ok.has, ok.cab, ok.hd, ok.frames, ok.stk, ok.exf, ok.bs, ok.bsz, ok.noex, ok.exfs, ok.funs, ok.frf⟩
theorem Cx.Ok.unwish {X : Cx} {E : Value → Shared → Prop} (ok : (X.wish E).Ok) : X.Ok :=
  ⟨ok.mod, ok.kind, ok.glob, ok.blt, ok.above, ok.inj, ok.has, ok.cab, ok.hd, ok.frames, ok.stk, ok.exf, ok.bs, ok.bsz, ok.noex, ok.exfs, ok.funs, ok.frf⟩
section
variable {X : Cx} {pins : List (Addr × Obj)} {σ : St} {H : Hp} {s : Shared} {E : Value → Shared → Prop}
theorem Inv.wish (I : Inv X pins σ H s) (E : Value → Shared → Prop) : Inv (X.wish E) pins σ H s := ⟨I.ok.wish E, I.os, I.bare, I.base, I.loc, I.cell, I.free, I.freeC, I.pin, I.hok, I.len⟩
theorem Inv.unwish (I : Inv (X.wish E) pins σ H s) : Inv X pins σ H s := ⟨I.ok.unwish, I.os, I.bare, I.base, I.loc, I.cell, I.free, I.freeC, I.pin, I.hok, I.len⟩
theorem SP.unwish {D : Ends} {f : Flow} {s' : Shared} (h : SP (X.wish E) pins D f s') : SP X pins D f s' := by
  cases f with
  | next => obtain ⟨σ', H', I, q⟩ := h; exact ⟨σ', H', I.unwish, q⟩
  | brk => obtain ⟨σ', H', I, q⟩ := h; exact ⟨σ', H', I.unwish, q⟩
  | cont => obtain ⟨σ', H', I, q⟩ := h; exact ⟨σ', H', I.unwish, q⟩
  | ret u => obtain ⟨v, σ', H', I, r, q⟩ := h; exact ⟨v, σ', H', I.unwish, r, q⟩
theorem PE.nox {e : Expr} {t : TE} (h : PE X.nox e t) : PE X e t := fun pins s σ H Q I hw =>
  wpAny_mono (h pins s σ H Q (I.wish _) hw) (fun _ _ ⟨v, H', I', r, q⟩ => ⟨v, H', I'.unwish, r, q⟩) fun _ _ z => False.elim z
theorem PT.nox {e : Expr} {t : TT} (h : PT X.nox e t) : PT X e t := fun pins s σ H Q I hw =>
  wpAny_mono (h pins s σ H Q (I.wish _) hw) (fun _ _ ⟨H', I', q⟩ => ⟨H', I'.unwish, q⟩) fun _ _ z => False.elim z
theorem PSs.nox {st : List Stmt} {t : TS} (h : PSs X.nox st t) : PSs X st t := fun pins s σ H D I hw =>
  wpAny_mono (h pins s σ H D (I.wish _) hw) (fun _ _ q => q.unwish) fun _ _ z => False.elim z
end
section
variable {X : Cx} {st : Stmt} {rest : List Stmt} {t u : TS} {e : Expr} {te : TE} {pos : Pos}
def tNext : TS := fun D σ H => D.nx σ H
def tSeq (t u : TS) : TS := fun D σ H => t { D with nx := u D } σ H
theorem pss_nil : PSs X [] tNext := fun _ _ σ H _ I h => wpAny_execs_nil ⟨σ, H, I, h⟩
theorem pss_cons (h1 : PS X st t) (h2 : PSs X rest u) : PSs X (st :: rest) (tSeq t u) := by
  intro pins s σ H D I h
  refine wpAny_execs_cons (thn (h1 pins s σ H { D with nx := u D } I h) fun f s1 q => ?_)
  cases f with
  | next =>
    obtain ⟨σ', H', I', q⟩ := q
    exact h2 pins s1 σ' H' D I' q
  | ret v => exact q
  | brk => exact q
  | cont => exact q
theorem pss_one (h1 : PS X st t) : PSs X [st] t := by
  intro pins s σ H D I h
  refine wpAny_execs_cons (thn (h1 pins s σ H D I h) fun f s1 q => ?_)
  cases f with
  | next => exact wpAny_execs_nil q
  | ret v => exact q
  | brk => exact q
  | cont => exact q
def tBreak : TS := fun D σ H => D.bk σ H
def tCont : TS := fun D σ H => D.ct σ H
theorem ps_continue : PS X (.Continue pos) tCont := fun _ _ σ H _ I h => wpAny_Continue ⟨σ, H, I, h⟩
theorem Inv.quiet {pins : List (Addr × Obj)} {σ : St} {H : Hp} {s : Shared} (I : Inv X pins σ H s) : interactive X.env = false := by simp [interactive, I.ok.kind]
def tDrop (te : TE) : TS := fun D σ H => te σ H fun _ H1 => D.nx σ H1
theorem ps_expr (he : PE X e te) (hs : swapsWith e none pos.line X.env = pure false := by rfl) : PS X (.Expr e pos) (tDrop te) := by
  intro pins s σ H D I h
  exact wpAny_Expr_any (thn (he pins s σ H _ I h) fun v s1 ⟨x, H1, I1, r1, q1⟩ => ⟨σ, H1, I1, q1⟩) I.quiet hs
def tRet (te : TE) : TS := fun D σ H => te σ H D.rt
theorem ps_ret (he : PE X e te) : PS X (.Return (some e) pos) (tRet te) := by
  intro pins s σ H D I h
  exact wpAny_Return_some (thn (he pins s σ H _ I h) fun v s1 ⟨x, H1, I1, r1, q1⟩ => ⟨x, σ, H1, I1, r1, q1⟩)
def tRetN : TS := fun D _ H => D.rt .non H
def tIfS (c : TT) (t u : TS) : TS := fun D σ H => c σ H fun b H1 => if b = true then t D σ H1 else u D σ H1
theorem ps_if {c : Expr} {a b : List Stmt} {tc : TT} (hc : PT X c tc) (ha : PSs X a t) (hb : PSs X b u) : PS X (.If c a b pos) (tIfS tc t u) := by
  intro pins s σ H D I h
  refine wpAny_If (thn (hc pins s σ H _ I h) fun d s1 ⟨H1, I1, q1⟩ => ?_)
  cases d with
  | true => exact ha pins s1 σ H1 D I1 q1
  | false => exact hb pins s1 σ H1 D I1 q1
def tNever : TS := fun _ _ _ => False
theorem ps_never : PS X st tNever := fun _ _ _ _ _ _ h => h.elim
end
abbrev TG := V → St → Hp → (St → Hp → Prop) → Prop
abbrev TGs := List V → St → Hp → (St → Hp → Prop) → Prop
def PG (X : Cx) (target : Expr) (t : TG) : Prop :=
  ∀ (pins : List (Addr × Obj)) (s : Shared) (σ : St) (H : Hp) (v : V) (u : Value) (Q : St → Hp → Prop), Inv X pins σ H s → RelV v u → t v σ H Q →
    wpAny (model X.prog X.w) X.A (assign target X.env u) (fun _ s' => ∃ σ' H', Inv X pins σ' H' s' ∧ Q σ' H') X.xe s
def PGs (X : Cx) (ts : List Expr) (t : TGs) : Prop :=
  ∀ (pins : List (Addr × Obj)) (s : Shared) (σ : St) (H : Hp) (vs : List V) (us : List Value) (Q : St → Hp → Prop), Inv X pins σ H s → Vals vs us → t vs σ H Q →
    wpAny (model X.prog X.w) X.A (assignInOrder ((assignEach ts X.env).map (·.2)) us) (fun _ s' => ∃ σ' H', Inv X pins σ' H' s' ∧ Q σ' H') X.xe s
abbrev TSet := V → V → V → Hp → (Hp → Prop) → Prop
def PSet (X : Cx) (t : TSet) : Prop :=
  ∀ (pins : List (Addr × Obj)) (s : Shared) (σ : St) (H : Hp) (o i v : V) (ov iv u : Value) (Q : Hp → Prop), Inv X pins σ H s → RelV o ov → RelV i iv → RelV v u → t o i v H Q →
    wpAny (model X.prog X.w) X.A (setItem ov iv u) (fun _ s' => ∃ H', Inv X pins σ H' s' ∧ Q H') X.xe s
abbrev TIp := V → V → Hp → VK → Prop
def PIp (X : Cx) (op : Operator) (t : TIp) : Prop :=
  ∀ (pins : List (Addr × Obj)) (s : Shared) (σ : St) (H : Hp) (x y : V) (v u : Value) (Q : VK), Inv X pins σ H s → RelV x v → RelV y u → t x y H Q →
    wpAny (model X.prog X.w) X.A (inplaceOp op v u) (EP X pins σ Q) X.xe s
section
variable {X : Cx} {pos : Pos}
def gName (i : Nat) : TG := fun v σ H Q => Q (σ.set i (some v)) H
theorem pg_name {i : Nat} {x : Str} (hN : X.N.Nodup) (hi : X.N[i]? = some x) (hx : Loc X.env.scope x) (hf : X.fn x = true ∨ X.env.scope.names.lookup x = some .local := by first | exact .inl rfl | exact .inr rfl | assumption) : PG X (.Name x pos) (gName i) := by
  intro pins s σ H v u Q I r h
  exact wpAny_assign_Name (store_ok I hN hi hx r (fun s' I' => ⟨_, H, I', h⟩) hf)
def gNil : TGs := fun vs σ H Q => vs = [] ∧ Q σ H
def gCons (t : TG) (u : TGs) : TGs := fun vs σ H Q => ∃ v r, vs = v :: r ∧ t v σ H fun σ' H' => u r σ' H' Q
theorem pgs_nil : PGs X [] gNil := by
  intro pins s σ H vs us Q I r h
  obtain ⟨e, h⟩ := h
  subst e
  cases r
  exact assignInOrder_nil ⟨σ, H, I, h⟩
theorem pgs_cons {e : Expr} {es : List Expr} {t : TG} {u : TGs} (h1 : PG X e t) (h2 : PGs X es u)
    (hs : (assignEach (e :: es) X.env).map (·.2) = assign e X.env :: (assignEach es X.env).map (·.2) := by rfl) : PGs X (e :: es) (gCons t u) := by
  intro pins s σ H vs us Q I r h
  obtain ⟨v, vr, e1, h⟩ := h
  subst e1
  cases r with
  | cons r rr =>
    rw [hs]
    refine assignInOrder_cons (thn (h1 pins s σ H _ _ _ I r h) fun _ s1 ⟨σ1, H1, I1, q1⟩ => ?_)
    exact h2 pins s1 σ1 H1 _ _ Q I1 rr q1
def gTup (K : PySem.W.Frag) (n : Nat) (t : TGs) : TG := fun v σ H Q => ∃ a xs, v = .ref a ∧ SqT K H a xs ∧ xs.length = n ∧ t xs σ H Q
theorem pg_tup {es : List Expr} {k : Nat} {t : TGs} {n : Nat} (hc : X.calm = true) (h : PGs X es t)
    (hn : (assignEach es X.env).length = n := by rfl) (hst : (assignEach es X.env).findIdx? (·.1) = none := by rfl) : PG X (.Tuple es k pos) (gTup X.K n t) := by
  intro pins s σ H v u Q I r hw
  obtain ⟨a, xs, e1, hq, hl, hw⟩ := hw
  subst e1
  cases r
  obtain ⟨its, rv, ht, hz⟩ := I.tuple hq
  refine assign_Tuple_tuple (I.ok.hd hc) ht (by simp [hn, ← hl, rv.length]) hst fun h' hx => ?_
  have I1 : Inv X pins σ H { s with heap := h' } := I.kept (t' := s.toks) fun b o e => hx b o (Nat.ne_of_lt (Heap.lt_size e)) e
  exact h pins _ σ H xs _ Q I1 (by simpa using rv) hw
def gSub (to ti : TE) (t : TSet) : TG := fun v σ H Q => to σ H fun o H1 => ti σ H1 fun i H2 => t o i v H2 fun H3 => Q σ H3
theorem pg_sub {o i : Expr} {to ti : TE} {t : TSet} (ho : PE X o to) (hi : PE X i ti) (hs : PSet X t)
    (ha : ∀ v, assign (.Subscript o i pos) X.env v = (do
      let ov ← holding [v] (eval o X.env)
      let iv ← holding [v, ov] (eval i X.env)
      standAt pos
      holding [v, ov, iv] (setItem ov iv v)
      release [v, ov, iv] []) := by intro _; rfl) : PG X (.Subscript o i pos) (gSub to ti t) := by
  intro pins s σ H v u Q I r h
  rw [ha]
  refine wpAny_bind (wpAny_holding (thn (ho pins s σ H _ I h) fun ov s1 ⟨x, H1, I1, r1, q1⟩ => ?_))
  refine wpAny_bind (wpAny_holding (thn (hi pins s1 σ H1 _ I1 q1) fun iv s2 ⟨y, H2, I2, r2, q2⟩ => ?_))
  refine wpAny_bind (wpAny_standAt (wpAny_bind (wpAny_holding (thn (hs pins s2 σ H2 x y v ov iv u _ I2 r1 r2 r q2) fun _ s3 ⟨H3, I3, q3⟩ => ?_))))
  exact wpAny_release ⟨σ, H3, I3, q3⟩
def tAsg (te : TE) (g : TG) : TS := fun D σ H => te σ H fun x H1 => g x σ H1 D.nx
theorem ps_asg {tg e : Expr} {te : TE} {g : TG} (he : PE X e te) (hg : PG X tg g) (hs : swapsWithSole [tg] e pos.line X.env = pure false := by rfl) (hw : swappedStores [tg] e X.env = pure none := by rfl)
    (h1 : (assignEach [tg] X.env).map (·.2) = [assign tg X.env] := by rfl) : PS X (.Assign [tg] e pos) (tAsg te g) := by
  intro pins s σ H D I h
  refine wpAny_Assign_stores (thn (he pins s σ H _ I h) fun v s1 ⟨x, H1, I1, r1, q1⟩ => ?_) hs hw
  rw [h1]
  exact thn (hg pins s1 σ H1 x v _ I1 r1 q1) fun _ s2 q => q
theorem ps_set {i : Nat} {x : Str} {e : Expr} {te : TE} {pos' : Pos} (hN : X.N.Nodup) (hi : X.N[i]? = some x) (hx : Loc X.env.scope x) (he : PE X e te) (hs : swapsWith e (some (.Name x pos')) pos.line X.env = pure false := by rfl) (hf : X.fn x = true ∨ X.env.scope.names.lookup x = some .local := by first | exact .inl rfl | exact .inr rfl | assumption) :
    PS X (.Assign [.Name x pos'] e pos) (tAsg te (gName i)) := by
  intro pins s σ H D I h
  refine wpAny_Assign_Name (thn (he pins s σ H _ I h) fun v s1 ⟨y, H1, I1, r1, q1⟩ => ?_) hs
  exact store_ok I1 hN hi hx r1 (fun s2 I2 => ⟨_, H1, I2, q1⟩) hf
def tPar (i j : Nat) (ta : TA) : TS := fun D σ H => ta σ H fun vs H1 => ∃ v w, vs = [v, w] ∧ D.nx ((σ.set i (some v)).set j (some w)) H1
def tAug (i : Nat) (te : TE) (ti : TIp) : TS := fun D σ H => ∃ x, σ[i]? = some (some x) ∧ te σ H fun y H1 => ti x y H1 fun z H2 => D.nx (σ.set i (some z)) H2
theorem ps_aug {i : Nat} {x : Str} {e : Expr} {te : TE} {op : Operator} {ti : TIp} {pos' : Pos} (hN : X.N.Nodup) (hi : X.N[i]? = some x) (hx : Loc X.env.scope x) (he : PE X e te) (ho : PIp X op ti) (hf : X.fn x = true ∨ X.env.scope.names.lookup x = some .local := by first | exact .inl rfl | exact .inr rfl | assumption) :
    PS X (.AugAssign (.Name x pos') op e pos) (tAug i te ti) := by
  intro pins s σ H D I h
  obtain ⟨v, e1, h⟩ := h
  obtain ⟨m, hn, hl⟩ := I.loc
  have vis : Vis X.env.scope x := by rcases hx with k | k; exact .inl k; exact .inr (.inl k)
  obtain ⟨u, r, l⟩ := hl i x v hi e1 vis
  refine wpAny_AugAssign_Name ?_
  have go : wpAny (model X.prog X.w) X.A (eval e X.env) (fun w s₂ => wpAny (model X.prog X.w) X.A (inplaceOp op u w) (fun r s₃ => wpAny (model X.prog X.w) X.A (storeName X.env x r) (fun _ => SP X pins D .next) X.xe s₃) X.xe s₂) X.xe s := by
    refine thn (he pins s σ H _ I h) fun w s1 ⟨y, H1, I1, r1, q1⟩ => ?_
    refine thn (ho pins s1 σ H1 v y u w _ I1 r r1 q1) fun z s2 ⟨zv, H2, I2, r2, q2⟩ => ?_
    exact store_ok I2 hN hi hx r2 (fun s3 I3 => ⟨_, H2, I3, q2⟩) hf
  rcases l with ⟨hk, hm⟩ | ⟨hk, c, hc, hcell⟩
  · exact wpAny_loadName_local I.ok.kind hk hn hm go
  · rcases hk with hk | hk
    · exact wpAny_loadName_cell I.ok.kind hk hc hcell go
    · rcases hx with k | k
      · have : X.env.scope.names.lookup x = some .free := hk
        rw [k] at this; cases this
      · have : X.env.scope.names.lookup x = some .free := hk
        rw [k] at this; cases this
def tAugS (to ti te : TE) (tget : V → V → Hp → VK → Prop) (tip : TIp) (tset : TSet) : TS := fun D σ H => to σ H fun o H1 => ti σ H1 fun i H2 => tget o i H2 fun x H3 => te σ H3 fun y H4 => tip x y H4 fun z H5 => tset o i z H5 fun H6 => D.nx σ H6
def PGet (X : Cx) (t : V → V → Hp → VK → Prop) : Prop :=
  ∀ (pins : List (Addr × Obj)) (s : Shared) (σ : St) (H : Hp) (o i : V) (ov iv : Value) (Q : VK), Inv X pins σ H s → RelV o ov → RelV i iv → t o i H Q →
    wpAny (model X.prog X.w) X.A (getItem ov iv) (EP X pins σ Q) X.xe s
theorem ps_augS {o i e : Expr} {to ti te : TE} {tget : V → V → Hp → VK → Prop} {tip : TIp} {tset : TSet} {op : Operator} {tpos : Pos} (ho : PE X o to) (hi : PE X i ti) (hg : PGet X tget) (he : PE X e te) (hp : PIp X op tip) (hs : PSet X tset)
    (ha : ∀ ov iv new, augStore i ov iv new = (do holding [new, ov, iv] (setItem ov iv new); release [new, ov, iv] []; pure .next) := by intros; rfl) : PS X (.AugAssign (.Subscript o i tpos) op e pos) (tAugS to ti te tget tip tset) := by
  intro pins s σ H D I h
  refine wpAny_AugAssign_SubscriptAny (thn (ho pins s σ H _ I h) fun ov s1 ⟨x1, H1, I1, r1, q1⟩ => ?_) ha
  refine thn (hi pins s1 σ H1 _ I1 q1) fun iv s2 ⟨x2, H2, I2, r2, q2⟩ => ?_
  refine thn (hg pins s2 σ H2 x1 x2 ov iv _ I2 r1 r2 q2) fun old s3 ⟨x3, H3, I3, r3, q3⟩ => ?_
  refine thn (he pins s3 σ H3 _ I3 q3) fun v s4 ⟨x4, H4, I4, r4, q4⟩ => ?_
  refine thn (hp pins s4 σ H4 x3 x4 old v _ I4 r3 r4 q4) fun new s5 ⟨x5, H5, I5, r5, q5⟩ => ?_
  exact thn (hs pins s5 σ H5 x1 x2 x5 ov iv new _ I5 r1 r2 r5 q5) fun _ s6 ⟨H6, I6, q6⟩ => ⟨σ, H6, I6, q6⟩
def ipI (f : Int → Int → Int) : TIp := fun x y H Q => ∃ i j, x = .int i ∧ y = .int j ∧ Q (.int (f i j)) H
theorem ip_add : PIp X .Add (ipI fun i j => i + j) := by
  intro pins s σ H x y v u Q I r1 r2 h
  obtain ⟨i, j, e1, e2, q⟩ := h
  subst e1; subst e2
  obtain ⟨t, rfl⟩ := r1
  obtain ⟨t', rfl⟩ := r2
  exact iadd_int ⟨.int _, H, I.tok _, ⟨_, rfl⟩, q⟩
theorem ip_sub : PIp X .Sub (ipI fun i j => i - j) := by
  intro pins s σ H x y v u Q I r1 r2 h
  obtain ⟨i, j, e1, e2, q⟩ := h
  subst e1; subst e2
  obtain ⟨t, rfl⟩ := r1
  obtain ⟨t', rfl⟩ := r2
  exact isub_int ⟨.int _, H, I.tok _, ⟨_, rfl⟩, q⟩
end
section
variable {X : Cx} {pos : Pos}
def tWhile (c : TT) (tb : TS) : TS := fun D σ H => ∃ W : Nat → St → Hp → Prop, (∃ m, W m σ H) ∧ ∀ m σ H, W m σ H →
  c σ H fun b H1 => if b = true then ∃ N : St → Hp → Prop, (∀ σ' H', N σ' H' → ∃ m', m' < m ∧ W m' σ' H') ∧ tb { D with nx := N, ct := N, bk := D.nx } σ H1 else D.nx σ H1
theorem ps_while {c : Expr} {body : List Stmt} {tc : TT} {tb : TS} (hp : PassesOwn (model X.prog X.w) X.A X.env X.xe) (hc : PT X c tc) (hb : PSs X body tb) : PS X (.While c body [] pos) (tWhile tc tb) := by
  intro pins s σ H D I h
  obtain ⟨W, ⟨m0, w0⟩, turn⟩ := h
  refine wpAny_While (codeAny_whileLoop (fun n s' => ∃ σ' H', Inv X pins σ' H' s' ∧ W n σ' H') ?_ m0 ⟨σ, H, I, w0⟩)
  rintro n s1 ⟨σ1, H1, I1, w1⟩
  refine wpAny_passesOwn hp (thn (hc pins s1 σ1 H1 _ I1 (turn n σ1 H1 w1)) fun b s2 ⟨H2, I2, q2⟩ => ?_)
  cases b with
  | true =>
    obtain ⟨N, hN, q2⟩ := q2
    rw [if_pos rfl]
    refine wpAny_passesOwn hp (thn (hb pins s2 σ1 H2 _ I2 q2) fun f s3 q3 => ?_)
    cases f with
    | next =>
      obtain ⟨σ3, H3, I3, n3⟩ := q3
      obtain ⟨m', hm, w3⟩ := hN σ3 H3 n3
      exact ⟨m', hm, σ3, H3, I3, w3⟩
    | cont =>
      obtain ⟨σ3, H3, I3, n3⟩ := q3
      obtain ⟨m', hm, w3⟩ := hN σ3 H3 n3
      exact ⟨m', hm, σ3, H3, I3, w3⟩
    | brk => exact q3
    | ret v => exact q3
  | false =>
    rw [if_neg Bool.false_ne_true]
    exact wpAny_execs_nil ⟨σ1, H2, I2, q2⟩
end
structure It where
  go : Nat → Hp → Prop
  yld : Nat → Hp → V → Hp → Prop
  stop : Nat → Hp → Prop
def FpOk (X : Cx) (pins : List (Addr × Obj)) (H : Hp) (b : Addr) : Prop :=
  H b = none ∧ b ≠ X.env.locals ∧ b ∉ X.fs ∧ (b ∈ X.ex ∨ X.s₀.heap.objs.size ≤ b) ∧ (∀ x c, X.env.cells.lookup x = some c → c ≠ b) ∧ ∀ p ∈ X.pn ++ pins, p.1 ≠ b
theorem Inv.fpOk {X : Cx} {pins : List (Addr × Obj)} {σ : St} {H H' : Hp} {s : Shared} {b : Addr} (I : Inv X pins σ H s) (hb : s.heap.objs.size ≤ b) (hn : H' b = none) : FpOk X pins H' b := by
  refine ⟨hn, Nat.ne_of_gt (Nat.lt_of_lt_of_le I.lt hb), I.nofs hb, .inr (Nat.le_trans I.sz hb), fun x c e z => ?_, fun p hp z => ?_⟩
  · obtain ⟨v, q⟩ := I.cell x c e
    exact absurd (Nat.lt_of_lt_of_le q.lt (by rw [z]; exact hb)) (Nat.lt_irrefl _)
  · exact absurd (Nat.lt_of_lt_of_le (Heap.lt_size (I.pin p hp).1) (by rw [z]; exact hb)) (Nat.lt_irrefl _)
structure Turn (P : Program) (w : World) (K : PySem.W.Frag) (tg : Expr) (J : It) (fp : List Addr) (it : Addr) (tn : Nat → Heap → Prop) : Prop where
  mem : it ∈ fp
  obj : ∀ i h, tn i h → ∀ b ∈ fp, ∃ o, h.get? b = some o ∧ ∀ v, o.data ≠ .cell v
  keep : ∀ i h h', tn i h → (∀ b ∈ fp, ∀ o, h.get? b = some o → h'.get? b = some o) → tn i h'
  item : ∀ (X : Cx), X.prog = P → X.w = w → X.K = K → X.calm = true → ∀ (i : Nat) (pins : List (Addr × Obj)) (s : Shared) (σ : St) (H : Hp) (E : Value → Shared → Prop), Inv X pins σ H s → (∀ b ∈ fp, FpOk X pins H b) → tn i s.heap → J.go i H →
    wpAny (model P w) X.A (pyNext (.ref it)) (fun r s1 => ∃ u, r = some u ∧
      wpAny (model P w) X.A (letOwnedTupleGo tg (.ref it) u) (fun _ s2 => ∃ x H', Inv X pins σ H' s2 ∧ RelV x u ∧ J.yld i H x H' ∧ tn (i + 1) s2.heap ∧ ∀ b ∈ fp, H' b = none) E s1) E s
  done : ∀ (X : Cx), X.prog = P → X.w = w → X.K = K → X.calm = true → ∀ (i : Nat) (pins : List (Addr × Obj)) (s : Shared) (σ : St) (H : Hp) (E : Value → Shared → Prop), Inv X pins σ H s → (∀ b ∈ fp, FpOk X pins H b) → tn i s.heap → J.stop i H →
    wpAny (model P w) X.A (pyNext (.ref it)) (fun r s1 => r = none ∧ Inv X pins σ H s1) E s
  self : ∀ (A : Around) (i : Nat) (s : Shared) (Q : Value → Shared → Prop) (E : Value → Shared → Prop), tn i s.heap → Q (.ref it) s → wpAny (model P w) A (pyIter (.ref it)) Q E s
abbrev TI := St → Hp → (It → Hp → Prop) → Prop
def PIE (X : Cx) (pins : List (Addr × Obj)) (σ : St) (tg : Expr) (R : It → Hp → Prop) (itv : Value) (s2 : Shared) : Prop :=
  ∃ (it : Addr) (fp : List Addr) (tn : Nat → Heap → Prop) (J : It) (H' : Hp), itv = .ref it ∧ Inv X pins σ H' s2 ∧ Turn X.prog X.w X.K tg J fp it tn ∧ tn 0 s2.heap ∧ (∀ b ∈ fp, FpOk X pins H' b) ∧ R J H'
def PI (X : Cx) (tg iter : Expr) (wi : TI) : Prop :=
  ∀ (pins : List (Addr × Obj)) (s : Shared) (σ : St) (H : Hp) (R : It → Hp → Prop), Inv X pins σ H s → wi σ H R →
    wpAny (model X.prog X.w) X.A (eval iter X.env) (fun v s1 => wpAny (model X.prog X.w) X.A (pyIter v) (PIE X pins σ tg R) X.xe s1) X.xe s
theorem go_of {M : Model} {A : Around} {E : Value → Shared → Prop} {s : Shared} {tg : Expr} {it : Addr} {u : Value} {o : Obj} {n : String} {vs : Array Value} {Q : Unit → Shared → Prop} (ho : s.heap.get? it = some o) (hc : o.cls = .type n) (hd : o.data = .fields vs)
    (hn : ["enumerate", "zip", "dict_itemiterator", "dict_reverseitemiterator", "odict_iterator", "itertools.zip_longest", "itertools.pairwise"].contains n = false) (hQ : Q () s) : wpAny M A (letOwnedTupleGo tg (.ref it) u) Q E s := by
  unfold letOwnedTupleGo
  cases tg <;> first
    | exact wpAny_pure hQ
    | (cases u <;> first
        | exact wpAny_pure hQ
        | (refine wpAny_bind (wpAny_load ho ?_)
           rw [hc, hd]
           show wpAny M A (if (["enumerate", "zip", "dict_itemiterator", "dict_reverseitemiterator", "odict_iterator", "itertools.zip_longest", "itertools.pairwise"].contains n && vs[0]? == some (rawInt _)) = true then _ else _) Q E s
           rw [if_neg (by intro h; rw [hn, Bool.false_and] at h; cases h)]
           exact wpAny_pure hQ))
def Itl (K : PySem.W.Frag) (a : Addr) : It :=
  ⟨fun i H => ∃ xs x, SqL K H a xs ∧ xs[i]? = some x, fun i H x H' => H' = H ∧ ∀ xs, SqL K H a xs → xs[i]? = some x, fun i H => ∃ xs, SqL K H a xs ∧ xs.length ≤ i⟩
def Itt (K : PySem.W.Frag) (a : Addr) : It :=
  ⟨fun i H => ∃ xs x, SqT K H a xs ∧ xs[i]? = some x, fun i H x H' => H' = H ∧ ∀ xs, SqT K H a xs → xs[i]? = some x, fun i H => ∃ xs, SqT K H a xs ∧ xs.length ≤ i⟩
def Itr (lo : Int) (n : Nat) : It := ⟨fun i _ => i < n, fun i H x H' => H' = H ∧ x = .int (lo + i), fun i _ => n ≤ i⟩
theorem turn_list {P : Program} {w : World} {K : PySem.W.Frag} {tg : Expr} (a it : Addr) : Turn P w K tg (Itl K a) [it] it (fun i h => h.IsListIter it a i) where
  mem := by simp
  obj := fun i h st b hb => by
    have e : b = it := by simpa using hb
    subst e
    obtain ⟨o, e, c, d⟩ := st
    exact ⟨o, e, fun v z => by rw [d] at z; cases z⟩
  keep := fun i h h' st k => st.at fun o e => k it (by simp) o e
  item := by
    intro X hP hw hK hc i pins s σ H E I hf st hg
    subst hP hw hK
    obtain ⟨xs, x, hq, hx⟩ := hg
    obtain ⟨its, rv, p, hz⟩ := I.list hq
    obtain ⟨u, hu, ru⟩ := rv.get hx
    obtain ⟨f0, f1, f2, f3, f4, f5⟩ := hf it (by simp)
    refine wpAny_pyNext_list_item st p.isList (x := u) (by simpa using hu) fun h' st' sb => ?_
    have I1 : Inv X pins σ H { s with heap := h' } := I.turned (t' := s.toks) (fun b o hb e => (sb.2 b hb).trans e) f0 f1 f3 f4 f5
    obtain ⟨o, e, c, d⟩ := id st'
    exact ⟨u, rfl, go_of (s := { s with heap := h' }) e c d (by decide) ⟨x, H, I1, ru, ⟨rfl, fun ys hy => by rw [I.list_inj hy hq]; exact hx⟩, st', fun b hb => (hf b hb).1⟩⟩
  done := by
    intro X hP hw hK hc i pins s σ H E I hf st hg
    subst hP hw hK
    obtain ⟨xs, hq, hx⟩ := hg
    obtain ⟨its, rv, p, hz⟩ := I.list hq
    obtain ⟨f0, f1, f2, f3, f4, f5⟩ := hf it (by simp)
    have hl := rv.length
    exact wpAny_pyNext_list_end (I.ok.hd hc) st p.isList (by simp; omega) fun h' eb => ⟨rfl, I.turned (t' := s.toks) (fun b o hb e => eb b o hb e) f0 f1 f3 f4 f5⟩
  self := fun _ _ _ _ _ st h => wpAny_pyIter_listiter st h
theorem turn_tuple {P : Program} {w : World} {K : PySem.W.Frag} {tg : Expr} (a it : Addr) : Turn P w K tg (Itt K a) [it] it (fun i h => h.IsTupleIter it a i) where
  mem := by simp
  obj := fun i h st b hb => by
    have e : b = it := by simpa using hb
    subst e
    obtain ⟨o, e, c, d⟩ := st
    exact ⟨o, e, fun v z => by rw [d] at z; cases z⟩
  keep := fun i h h' st k => st.at fun o e => k it (by simp) o e
  item := by
    intro X hP hw hK hc i pins s σ H E I hf st hg
    subst hP hw hK
    obtain ⟨xs, x, hq, hx⟩ := hg
    obtain ⟨its, rv, p, hz⟩ := I.tuple hq
    obtain ⟨u, hu, ru⟩ := rv.get hx
    obtain ⟨f0, f1, f2, f3, f4, f5⟩ := hf it (by simp)
    refine wpAny_pyNext_tuple_item st (show s.heap.IsTuple a its.toArray from p) (x := u) (by simpa using hu) fun h' st' sb => ?_
    have I1 : Inv X pins σ H { s with heap := h' } := I.turned (t' := s.toks) (fun b o hb e => (sb.2 b hb).trans e) f0 f1 f3 f4 f5
    obtain ⟨o, e, c, d⟩ := id st'
    exact ⟨u, rfl, go_of (s := { s with heap := h' }) e c d (by decide) ⟨x, H, I1, ru, ⟨rfl, fun ys hy => by rw [I.tuple_inj hy hq]; exact hx⟩, st', fun b hb => (hf b hb).1⟩⟩
  done := by
    intro X hP hw hK hc i pins s σ H E I hf st hg
    subst hP hw hK
    obtain ⟨xs, hq, hx⟩ := hg
    obtain ⟨its, rv, p, hz⟩ := I.tuple hq
    obtain ⟨f0, f1, f2, f3, f4, f5⟩ := hf it (by simp)
    have hl := rv.length
    exact wpAny_pyNext_tuple_end (I.ok.hd hc) st (show s.heap.IsTuple a its.toArray from p) (by simp; omega) fun h' eb => ⟨rfl, I.turned (t' := s.toks) (fun b o hb e => eb b o hb e) f0 f1 f3 f4 f5⟩
  self := fun _ _ _ _ _ st h => wpAny_pyIter_tupleiter st h
theorem turn_range {P : Program} {w : World} {K : PySem.W.Frag} {tg : Expr} (it : Addr) (lo : Int) (n : Nat) : Turn P w K tg (Itr lo n) [it] it (fun i h => IsRangeIter h it (lo + (i : Nat) * 1) ((n : Int) - (i : Nat)) 1) where
  mem := by simp
  obj := fun i h st b hb => by
    have e : b = it := by simpa using hb
    subst e
    exact ⟨_, st, fun v z => by
      have z' : Data.fields _ = Data.cell v := z
      cases z'⟩
  keep := fun i h h' st k => k it (by simp) _ st
  item := by
    intro X hP hw hK hc i pins s σ H E I hf st hg
    subst hP hw hK
    obtain ⟨f0, f1, f2, f3, f4, f5⟩ := hf it (by simp)
    have W := Walks.range (prog := X.prog) (w := X.w) (I.ok.hd hc) it lo 1 n
    refine W.item i s _ _ hg st fun v h' tk hv st' kk => ?_
    obtain ⟨t, rfl⟩ := hv
    have I1 : Inv X pins σ H { s with heap := h', toks := tk } := I.turned (fun b o hb e => kk b o (by simpa using hb) e) f0 f1 f3 f4 f5
    refine ⟨_, rfl, go_of (s := { s with heap := h', toks := tk }) (n := "range_iterator") st' rfl rfl (by decide) ⟨.int (lo + i), H, I1, ⟨t, ?_⟩, ⟨rfl, rfl⟩, st', fun b hb => (hf b hb).1⟩⟩
    rw [Int.mul_one]
  done := by
    intro X hP hw hK hc i pins s σ H E I hf st hg
    subst hP hw hK
    obtain ⟨f0, f1, f2, f3, f4, f5⟩ := hf it (by simp)
    exact wpAny_pyNext_range_end (I.ok.hd hc) st (by have : n ≤ i := hg; omega) fun h' eb => ⟨rfl, I.turned (t' := s.toks) (fun b o hb e => eb b o hb e) f0 f1 f3 f4 f5⟩
  self := fun _ _ _ _ _ st h => wpAny_pyIter_rangeiter st h
end L2
namespace L2
open PySem PySem.Spec PyProof.Rows
section
variable {X : Cx} {tg : Expr}
def iList (K : PySem.W.Frag) (tl : TE) : TI := fun σ H R => tl σ H fun x H1 => ∃ a, x = .ref a ∧ (∃ xs, SqL K H1 a xs) ∧ R (Itl K a) H1
def iTup (K : PySem.W.Frag) (tl : TE) : TI := fun σ H R => tl σ H fun x H1 => ∃ a, x = .ref a ∧ (∃ xs, SqT K H1 a xs) ∧ R (Itt K a) H1
theorem range_it {pins : List (Addr × Obj)} {σ : St} {H : Hp} {s : Shared} {R : It → Hp → Prop} {E : Value → Shared → Prop} {lo hi : Int} {t u v : Tok} {tk : Nat} (I : Inv X pins σ H s) (h1 : -(2 ^ 62) ≤ lo) (h2 : lo < 2 ^ 62) (h3 : -(2 ^ 62) ≤ hi) (h4 : hi < 2 ^ 62)
    (q : R (Itr lo (hi - lo).toNat) H) : wpAny (model X.prog X.w) X.A (pyIter (.ref s.heap.objs.size)) (PIE X pins σ tg R) E { s with heap := s.heap.push { cls := .type "range", data := .fields #[.int lo t, .int hi u, .int 1 v] }, toks := tk } := by
  refine wpAny_pyIter_range (IsRange.new ..) (small_one h1 h2 h3 h4) ?_
  have I1 : Inv X pins σ H { s with heap := s.heap.push { cls := .type "range", data := .fields #[.int lo t, .int hi u, .int 1 v] }, toks := tk } := I.kept fun b o e => Heap.get?_push_of_some _ e
  refine ⟨(s.heap.push { cls := .type "range", data := .fields #[.int lo t, .int hi u, .int 1 v] }).objs.size, [(s.heap.push { cls := .type "range", data := .fields #[.int lo t, .int hi u, .int 1 v] }).objs.size], _, _, H, rfl,
    I1.kept (t' := tk) fun b o e => Heap.get?_push_of_some _ e, turn_range _ lo (hi - lo).toNat, ?_, fun b hb => ?_, q⟩
  · have e1 : lo + ((0 : Nat) : Int) * 1 = lo := by simp
    have e2 : (((hi - lo).toNat : Nat) : Int) - ((0 : Nat) : Int) = Builtin.Range.rangeSize lo hi 1 := by rw [rangeSize_one]; split <;> omega
    show IsRangeIter _ _ (lo + ((0 : Nat) : Int) * 1) ((((hi - lo).toNat : Nat) : Int) - ((0 : Nat) : Int)) 1
    rw [e1, e2]
    exact Heap.get?_push_size _ rfl
  · have e : b = (s.heap.push { cls := .type "range", data := .fields #[.int lo t, .int hi u, .int 1 v] }).objs.size := by simpa using hb
    subst e
    exact I1.fpOk (Nat.le_refl _) (I1.hok.fresh (Nat.le_refl _))
def iRng1 (ta : TA) : TI := fun σ H R => ta σ H fun vs H1 => ∃ j : Int, vs = [.int j] ∧ -(2 ^ 62) ≤ j ∧ j < 2 ^ 62 ∧ R (Itr 0 j.toNat) H1
def iRng2 (ta : TA) : TI := fun σ H R => ta σ H fun vs H1 => ∃ i j : Int, vs = [.int i, .int j] ∧ (-(2 ^ 62) ≤ i ∧ i < 2 ^ 62 ∧ -(2 ^ 62) ≤ j ∧ j < 2 ^ 62) ∧ R (Itr i (j - i).toNat) H1
theorem pi_range1 {a : Expr} {ta : TA} {p pos : Pos} (hg : Gl X "range") (hm : X.mg "range" = none) (ha : PA X [a] ta) (hs : starEach [a] X.env = [(false, eval a X.env)] := by rfl) : PI X tg (.Call (.Name "range" p) [a] [] pos) (iRng1 ta) := by
  intro pins s σ H R I h
  refine Call_ (ld_blt I hg hm boot_range (PyProof.Rows.callWith_type1 (thn (ha pos pins s σ H _ I h) fun us s1 ⟨vs, H1, I1, r1, q1⟩ => ?_) hs rfl))
  obtain ⟨j, e, q1, q2, q⟩ := q1
  subst e
  cases r1 with
  | cons r rr =>
    cases rr
    obtain ⟨t, rfl⟩ := r
    exact call_range_1 (range_it I1 (by omega) (by omega) q1 q2 (by simpa using q))
theorem pi_range2 {a b : Expr} {ta : TA} {p pos : Pos} (hg : Gl X "range") (hm : X.mg "range" = none) (ha : PA X [a, b] ta) (hs : starEach [a, b] X.env = [(false, eval a X.env), (false, eval b X.env)] := by rfl) (hs2 : starEach [b] X.env = [(false, eval b X.env)] := by rfl) :
    PI X tg (.Call (.Name "range" p) [a, b] [] pos) (iRng2 ta) := by
  intro pins s σ H R I h
  refine Call_ (ld_blt I hg hm boot_range (PyProof.Rows.callWith_type1 (thn (ha pos pins s σ H _ I h) fun us s1 ⟨vs, H1, I1, r1, q1⟩ => ?_) (by rw [hs, hs2]) (by rw [hs2]; rfl)))
  obtain ⟨i, j, e, ⟨q1, q2, q3, q4⟩, q⟩ := q1
  subst e
  cases r1 with
  | cons r rr =>
    cases rr with
    | cons r' rr =>
      cases rr
      obtain ⟨t, rfl⟩ := r
      obtain ⟨t', rfl⟩ := r'
      exact call_range_2 (range_it I1 q1 q2 q3 q4 q)
def tFor (wi : TI) (g : TG) (tb : TS) : TS := fun D σ H => wi σ H fun J H1 => ∃ W : Nat → Nat → St → Hp → Prop, (∃ m, W 0 m σ H1) ∧ ∀ i m σ H, W i m σ H →
  (J.stop i H ∧ D.nx σ H) ∨ (J.go i H ∧ ∃ N : St → Hp → Prop, (∀ σ' H', N σ' H' → ∃ m', m' < m ∧ W (i + 1) m' σ' H') ∧ ∀ x H', J.yld i H x H' → g x σ H' fun σ2 H2 => tb { D with nx := N, ct := N, bk := D.nx } σ2 H2)
def pinsAt (fp : List Addr) (h : Heap) : List (Addr × Obj) := fp.filterMap fun b => (h.get? b).map fun o => (b, o)
theorem mem_pinsAt {fp : List Addr} {h : Heap} {b : Addr} {o : Obj} (hb : b ∈ fp) (e : h.get? b = some o) : (b, o) ∈ pinsAt fp h := List.mem_filterMap.mpr ⟨b, hb, by rw [e]; rfl⟩
theorem of_pinsAt {fp : List Addr} {h : Heap} {p : Addr × Obj} (hp : p ∈ pinsAt fp h) : p.1 ∈ fp ∧ h.get? p.1 = some p.2 := by
  obtain ⟨b, hb, e⟩ := List.mem_filterMap.mp hp
  cases q : h.get? b with
  | none => rw [q] at e; cases e
  | some o =>
    rw [q] at e
    have e' : (b, o) = p := Option.some.inj e
    subst e'
    exact ⟨hb, q⟩
theorem Inv.pinned {pins : List (Addr × Obj)} {σ : St} {H : Hp} {s : Shared} {fp : List Addr} (I : Inv X pins σ H s) (hf : ∀ b ∈ fp, FpOk X pins H b) (ho : ∀ b ∈ fp, ∃ o, s.heap.get? b = some o ∧ ∀ v, o.data ≠ .cell v) : Inv X (pins ++ pinsAt fp s.heap) σ H s :=
  I.pins_of fun p hp => (List.mem_append.mp hp).elim (fun z => I.pin p (List.mem_append_right _ z)) fun z => by
    obtain ⟨hb, e⟩ := of_pinsAt z
    obtain ⟨f0, f1, f2, _⟩ := hf p.1 hb
    obtain ⟨o, e', d⟩ := ho p.1 hb
    rw [e] at e'; cases e'
    exact ⟨e, f0, f1, f2, d⟩
theorem Inv.unpinned {pins pl : List (Addr × Obj)} {σ : St} {H : Hp} {s : Shared} (I : Inv X (pins ++ pl) σ H s) : Inv X pins σ H s := I.pins_of fun p hp => I.pin p (List.mem_append_right _ (List.mem_append_left _ hp))
theorem ps_for {iter : Expr} {body : List Stmt} {wi : TI} {g : TG} {tb : TS} {pos : Pos} (hp : PassesOwn (model X.prog X.w) X.A X.env X.xe) (hc : X.calm = true) (hi : PI X tg iter wi) (hg : PG X tg g) (hb : PSs X body tb)
    (hs : ∀ x, foldedSetIterable iter X.env x = pure x := by intro _; rfl) : PS X (.For tg iter body [] pos) (tFor wi g tb) := by
  intro pins s σ H D I h
  refine wpAny_For (thn (hi pins s σ H _ I h) fun v s1 h1 => thn h1 fun itv s2 h2 => ?_) hs
  obtain ⟨it, fp, tn, J, H2, e, I2, T, st2, f2, W, ⟨m0, w0⟩, turn⟩ := h2
  subst e
  have stat : ∀ {H' : Hp}, (∀ b ∈ fp, H' b = none) → ∀ b ∈ fp, FpOk X pins H' b := fun hn b hb => ⟨hn b hb, (f2 b hb).2⟩
  refine codeAny_forLoop_any (fun n s' => ∃ i σ' H', Inv X pins σ' H' s' ∧ tn i s'.heap ∧ (∀ b ∈ fp, H' b = none) ∧ W i n σ' H') ?_ m0 ⟨0, σ, H2, I2, st2, fun b hb => (f2 b hb).1, w0⟩
  rintro n s3 ⟨i, σ3, H3, I3, st3, fr3, w3⟩
  rcases turn i n σ3 H3 w3 with ⟨stop, qn⟩ | ⟨go, N, hN, step⟩
  · refine wpAny_passesOwn hp (thn (T.done X rfl rfl rfl hc i pins s3 σ3 H3 X.xe I3 (stat fr3) st3 stop) fun r s4 ⟨hr, I4⟩ => ?_)
    subst hr
    exact wpAny_execs_nil ⟨σ3, H3, I4, qn⟩
  · refine wpAny_passesOwn hp (thn (T.item X rfl rfl rfl hc i pins s3 σ3 H3 X.xe I3 (stat fr3) st3 go) fun r s4 ⟨u, hr, h4⟩ => ?_)
    subst hr
    refine wpAny_passesOwn hp (thn h4 fun _ s5 ⟨x, H5, I5, r5, y5, st5, fr5⟩ => ?_)
    have I5' := I5.pinned (stat fr5) (T.obj _ _ st5)
    refine wpAny_passesOwn hp (thn (hg _ s5 σ3 H5 x u _ I5' r5 (step x H5 y5)) fun _ s6 ⟨σ6, H6, I6, q6⟩ => ?_)
    refine wpAny_passesOwn hp (thn (hb _ s6 σ6 H6 _ I6 q6) fun f s7 q7 => ?_)
    have again : ∀ {σ7 : St} {H7 : Hp}, Inv X (pins ++ pinsAt fp s5.heap) σ7 H7 s7 → N σ7 H7 → ∃ m, m < n ∧ ∃ i σ' H', Inv X pins σ' H' s7 ∧ tn i s7.heap ∧ (∀ b ∈ fp, H' b = none) ∧ W i m σ' H' := fun {σ7 H7} I7 n7 => by
      obtain ⟨m', hm, w7⟩ := hN σ7 H7 n7
      refine ⟨m', hm, i + 1, σ7, H7, I7.unpinned, T.keep _ _ _ st5 fun b hb o e => (I7.pin (b, o) (List.mem_append_right _ (List.mem_append_right _ (mem_pinsAt hb e)))).1, fun b hb => ?_, w7⟩
      obtain ⟨o, e, d⟩ := T.obj _ _ st5 b hb
      exact (I7.pin (b, o) (List.mem_append_right _ (List.mem_append_right _ (mem_pinsAt hb e)))).2.1
    cases f with
    | next => obtain ⟨σ7, H7, I7, n7⟩ := q7; exact again I7 n7
    | cont => obtain ⟨σ7, H7, I7, n7⟩ := q7; exact again I7 n7
    | brk => obtain ⟨σ7, H7, I7, q7⟩ := q7; exact ⟨σ7, H7, I7.unpinned, q7⟩
    | ret v => obtain ⟨x7, σ7, H7, I7, r7, q7⟩ := q7; exact ⟨x7, σ7, H7, I7.unpinned, r7, q7⟩
end
end L2
namespace L2
open PySem PySem.Spec PyProof.Rows
abbrev R2 := V → V → Hp → VK → Prop
def OpR (X : Cx) (f : Value → Value → Sem Value) (r : R2) : Prop :=
  ∀ (pins : List (Addr × Obj)) (s : Shared) (σ : St) (H : Hp) (x y : V) (v u : Value) (Q : VK), Inv X pins σ H s → RelV x v → RelV y u → r x y H Q →
    wpAny (model X.prog X.w) X.A (f v u) (EP X pins σ Q) X.xe s
def UnR (X : Cx) (f : Value → Sem Value) (r : V → Hp → VK → Prop) : Prop :=
  ∀ (pins : List (Addr × Obj)) (s : Shared) (σ : St) (H : Hp) (x : V) (v : Value) (Q : VK), Inv X pins σ H s → RelV x v → r x H Q →
    wpAny (model X.prog X.w) X.A (f v) (EP X pins σ Q) X.xe s
def CallR (X : Cx) (f : Value) (r : List V → Hp → VK → Prop) : Prop :=
  ∀ (pins : List (Addr × Obj)) (s : Shared) (σ : St) (H : Hp) (xs : List V) (us : List Value) (Q : VK), Inv X pins σ H s → Vals xs us → r xs H Q →
    wpAny (model X.prog X.w) X.A (call f us) (EP X pins σ Q) X.xe s
def TruR (X : Cx) (r : V → Hp → (Bool → Hp → Prop) → Prop) : Prop :=
  ∀ (pins : List (Addr × Obj)) (s : Shared) (σ : St) (H : Hp) (x : V) (v : Value) (Q : Bool → Hp → Prop), Inv X pins σ H s → RelV x v → r x H Q →
    wpAny (model X.prog X.w) X.A (truthy v) (TP X pins σ Q) X.xe s
def tOp (r : R2) (ta tb : TE) : TE := fun σ H Q => ta σ H fun x H1 => tb σ H1 fun y H2 => r x y H2 Q
def tUn (r : V → Hp → VK → Prop) (ta : TE) : TE := fun σ H Q => ta σ H fun x H1 => r x H1 Q
def rI (C : Int → Int → Prop) (g : Int → Int → V) : R2 := fun x y H Q => ∃ i j, x = .int i ∧ y = .int j ∧ C i j ∧ Q (g i j) H
def rI0 (g : Int → Int → V) : R2 := fun x y H Q => ∃ i j, x = .int i ∧ y = .int j ∧ Q (g i j) H
def rU (g : Int → V) : V → Hp → VK → Prop := fun x H Q => ∃ i, x = .int i ∧ Q (g i) H
section
variable {X : Cx} {a b c : Expr} {ta tb tc : TE} {pos : Pos}
theorem binT (ha : PE X a ta) (hb : PE X b tb) {pins : List (Addr × Obj)} {s : Shared} {σ : St} {H : Hp} {R : V → V → Hp → Prop} (I : Inv X pins σ H s)
    (h : ta σ H fun x H1 => tb σ H1 fun y H2 => R x y H2) {Q : Value → Shared → Prop} {f : Value → Value → Sem Value}
    (hf : ∀ v u s2 x y H2, Inv X pins σ H2 s2 → RelV x v → RelV y u → R x y H2 → wpAny (model X.prog X.w) X.A (f v u) Q X.xe s2) :
    wpAny (model X.prog X.w) X.A (eval a X.env) (fun v s₁ => wpAny (model X.prog X.w) X.A (eval b X.env) (fun u s₂ => wpAny (model X.prog X.w) X.A (f v u) Q X.xe s₂) X.xe s₁) X.xe s := by
  refine thn (ha pins s σ H _ I h) fun v s1 ⟨x, H1, I1, r1, q1⟩ => ?_
  refine thn (hb pins s1 σ H1 _ I1 q1) fun u s2 ⟨y, H2, I2, r2, q2⟩ => ?_
  exact hf v u s2 x y H2 I2 r1 r2 q2
theorem pe_op {op : Operator} {r : R2} (ho : OpR X (binaryOp op) r) (ha : PE X a ta) (hb : PE X b tb) : PE X (.BinOp a op b pos) (tOp r ta tb) := by
  intro pins s σ H Q I h
  exact wpAny_BinOp (binT ha hb I h fun v u s2 x y H2 I2 rx ry q => ho pins s2 σ H2 x y v u Q I2 rx ry q)
theorem opI {f : Value → Value → Sem Value} {C : Int → Int → Prop} {g : Int → Int → Int}
    (rule : ∀ (i j : Int) (t u : Tok) (s : Shared) (Q : Value → Shared → Prop) (E : Value → Shared → Prop), C i j → Q (.int (g i j) s.toks) { s with toks := s.toks + 1 } → wpAny (model X.prog X.w) X.A (f (.int i t) (.int j u)) Q E s) :
    OpR X f (rI C fun i j => .int (g i j)) := by
  intro pins s σ H x y v u Q I rx ry h
  obtain ⟨i, j, rfl, rfl, hc, q⟩ := h
  obtain ⟨t, rfl⟩ := rx
  obtain ⟨t', rfl⟩ := ry
  exact rule i j t t' s _ _ hc ⟨.int (g i j), H, I.tok _, ⟨_, rfl⟩, q⟩
theorem opI0 {f : Value → Value → Sem Value} {g : Int → Int → Int}
    (rule : ∀ (i j : Int) (t u : Tok) (s : Shared) (Q : Value → Shared → Prop) (E : Value → Shared → Prop), Q (.int (g i j) s.toks) { s with toks := s.toks + 1 } → wpAny (model X.prog X.w) X.A (f (.int i t) (.int j u)) Q E s) :
    OpR X f (rI0 fun i j => .int (g i j)) := by
  intro pins s σ H x y v u Q I rx ry h
  obtain ⟨i, j, rfl, rfl, q⟩ := h
  obtain ⟨t, rfl⟩ := rx
  obtain ⟨t', rfl⟩ := ry
  exact rule i j t t' s _ _ ⟨.int (g i j), H, I.tok _, ⟨_, rfl⟩, q⟩
theorem opB0 {f : Value → Value → Sem Value} {g : Int → Int → Bool}
    (rule : ∀ (i j : Int) (t u : Tok) (s : Shared) (Q : Value → Shared → Prop) (E : Value → Shared → Prop), Q (.bool (g i j)) s → wpAny (model X.prog X.w) X.A (f (.int i t) (.int j u)) Q E s) :
    OpR X f (rI0 fun i j => .bl (g i j)) := by
  intro pins s σ H x y v u Q I rx ry h
  obtain ⟨i, j, rfl, rfl, q⟩ := h
  obtain ⟨t, rfl⟩ := rx
  obtain ⟨t', rfl⟩ := ry
  exact rule i j t t' s _ _ ⟨.bl (g i j), H, I, rfl, q⟩
def CDiv (i j : Int) : Prop := 0 < j ∧ j < 1073741824
def CDivN (i j : Int) : Prop := j ≠ 0 ∧ j.natAbs < 1073741824
def CPow (i j : Int) : Prop := 0 ≤ j ∧ j ≤ 1000000 ∧ i.natAbs < 2 ^ 64
def CMul (i j : Int) : Prop := (-(2 ^ 64) < i ∧ i < 2 ^ 64) ∨ (-(2 ^ 64) < j ∧ j < 2 ^ 64)
theorem CMul.ok {i j : Int} (h : CMul i j) : IntMulOk i j := by
  rcases h with ⟨h1, h2⟩ | ⟨h1, h2⟩
  · exact .of_left (intBits_le_64 h1 h2)
  · exact .of_right (intBits_le_64 h1 h2)
theorem op_add : OpR X (binaryOp .Add) (rI0 fun i j => .int (i + j)) := opI0 fun _ _ _ _ _ _ _ q => add_int q
theorem op_sub : OpR X (binaryOp .Sub) (rI0 fun i j => .int (i - j)) := opI0 fun _ _ _ _ _ _ _ q => sub_int q
theorem op_mul : OpR X (binaryOp .Mult) (rI CMul fun i j => .int (i * j)) := opI fun _ _ _ _ _ _ _ hc q => mul_int q hc.ok
theorem op_mod : OpR X (binaryOp .Mod) (rI (fun _ j => 0 < j) fun i j => .int (i % j)) := opI fun i j _ _ _ _ _ hc q => by
  have h1 : (0 : Int) < j := hc
  exact mod_int' (by omega) (by rw [Int.fmod_eq_emod_of_nonneg i (by omega)]; exact q)
end
def scal : V → V → Bool
  | .non, .non => true | .non, .int _ => true | .int _, .non => true | .non, .bl _ => true | .bl _, .non => true | .non, .str _ => true | .str _, .non => true
  | .int _, .int _ => true | .bl _, .bl _ => true | .str _, .str _ => true | .byt _, .byt _ => true
  | .int _, .str _ => true | .str _, .int _ => true | .bl _, .str _ => true | .str _, .bl _ => true
  | _, _ => false
def rEq : R2 := fun x y H Q => scal x y = true ∧ Q (.bl (decide (x = y))) H
def rNe : R2 := fun x y H Q => scal x y = true ∧ Q (.bl (!decide (x = y))) H
theorem dec_int {i j : Int} : decide (V.int i = V.int j) = (i == j) := by
  rw [Bool.eq_iff_iff]
  simp
theorem dec_bl {i j : Bool} : decide (V.bl i = V.bl j) = (i == j) := by
  rw [Bool.eq_iff_iff]
  simp
theorem dec_str {i j : Str} : decide (V.str i = V.str j) = (i == j) := by
  rw [Bool.eq_iff_iff]
  simp
theorem dec_byt {i j : Array UInt8} : decide (V.byt i = V.byt j) = (i.toList == j.toList) := by
  rw [Bool.eq_iff_iff]
  cases i
  cases j
  simp
section
variable {X : Cx} {a b c : Expr} {ta tb tc : TE} {pos : Pos}
theorem fin_bl {pins : List (Addr × Obj)} {σ : St} {H : Hp} {s : Shared} {Q : VK} {k k' : Bool} (I : Inv X pins σ H s) (q : Q (.bl k) H) (e : k = k') : EP X pins σ Q (.bool k') s := by
  subst e
  exact ⟨.bl k, H, I, rfl, q⟩
theorem op_eq : OpR X (compareOp .Eq) rEq := by
  intro pins s σ H x y v u Q I rx ry h
  obtain ⟨hs, q⟩ := h
  cases x with
  | non =>
    cases rx
    cases y with
    | non => cases ry; exact PySem.EqNone.eq_none_none (fin_bl I q (by simp))
    | bl j => cases ry; exact PySem.EqNone.eq_none_bool (fin_bl I q (by simp))
    | int j => obtain ⟨t', rfl⟩ := ry; exact PySem.EqNone.eq_none_int (fin_bl I q (by simp))
    | str j => obtain ⟨t', rfl⟩ := ry; exact PySem.EqNone.eq_none_str (fin_bl I q (by simp))
    | _ => exact absurd (show false = true from hs) Bool.false_ne_true
  | bl i =>
    cases rx
    cases y with
    | non => cases ry; exact PySem.EqNone.eq_bool_none (fin_bl I q (by simp))
    | bl j => cases ry; exact eq_bool (fin_bl I q dec_bl)
    | str j => obtain ⟨t', rfl⟩ := ry; exact PySem.EqMixed.eq_bool_str (fin_bl I q (by simp))
    | _ => exact absurd (show false = true from hs) Bool.false_ne_true
  | int i =>
    obtain ⟨t, rfl⟩ := rx
    cases y with
    | non => cases ry; exact PySem.EqNone.eq_int_none (fin_bl I q (by simp))
    | int j => obtain ⟨t', rfl⟩ := ry; exact eq_int (fin_bl I q dec_int)
    | str j => obtain ⟨t', rfl⟩ := ry; exact PySem.EqMixed.eq_int_str (fin_bl I q (by simp))
    | _ => exact absurd (show false = true from hs) Bool.false_ne_true
  | str i =>
    obtain ⟨t, rfl⟩ := rx
    cases y with
    | non => cases ry; exact PySem.EqNone.eq_str_none (fin_bl I q (by simp))
    | bl j => cases ry; exact PySem.EqMixed.eq_str_bool (fin_bl I q (by simp))
    | int j => obtain ⟨t', rfl⟩ := ry; exact PySem.EqMixed.eq_str_int (fin_bl I q (by simp))
    | str j => obtain ⟨t', rfl⟩ := ry; exact eq_str (fin_bl I q dec_str)
    | _ => exact absurd (show false = true from hs) Bool.false_ne_true
  | byt i =>
    obtain ⟨t, rfl⟩ := rx
    cases y with
    | byt j => obtain ⟨t', rfl⟩ := ry; exact PySem.W.eq_bytes (fin_bl I q dec_byt)
    | _ => exact absurd (show false = true from hs) Bool.false_ne_true
  | _ => cases y <;> exact absurd (show false = true from hs) Bool.false_ne_true
theorem op_ne : OpR X (compareOp .NotEq) rNe := by
  intro pins s σ H x y v u Q I rx ry h
  obtain ⟨hs, q⟩ := h
  cases x with
  | non =>
    cases rx
    cases y with
    | non => cases ry; exact PySem.EqNone.ne_none_none (fin_bl I q (by simp))
    | bl j => cases ry; exact PySem.EqNone.ne_none_bool (fin_bl I q (by simp))
    | int j => obtain ⟨t', rfl⟩ := ry; exact PySem.EqNone.ne_none_int (fin_bl I q (by simp))
    | str j => obtain ⟨t', rfl⟩ := ry; exact PySem.EqNone.ne_none_str (fin_bl I q (by simp))
    | _ => exact absurd (show false = true from hs) Bool.false_ne_true
  | bl i =>
    cases rx
    cases y with
    | non => cases ry; exact PySem.EqNone.ne_bool_none (fin_bl I q (by simp))
    | bl j => cases ry; exact ne_bool (fin_bl I q (congrArg not dec_bl))
    | str j => obtain ⟨t', rfl⟩ := ry; exact PySem.EqMixed.ne_bool_str (fin_bl I q (by simp))
    | _ => exact absurd (show false = true from hs) Bool.false_ne_true
  | int i =>
    obtain ⟨t, rfl⟩ := rx
    cases y with
    | non => cases ry; exact PySem.EqNone.ne_int_none (fin_bl I q (by simp))
    | int j => obtain ⟨t', rfl⟩ := ry; exact ne_int (fin_bl I q (congrArg not dec_int))
    | str j => obtain ⟨t', rfl⟩ := ry; exact PySem.EqMixed.ne_int_str (fin_bl I q (by simp))
    | _ => exact absurd (show false = true from hs) Bool.false_ne_true
  | str i =>
    obtain ⟨t, rfl⟩ := rx
    cases y with
    | non => cases ry; exact PySem.EqNone.ne_str_none (fin_bl I q (by simp))
    | bl j => cases ry; exact PySem.EqMixed.ne_str_bool (fin_bl I q (by simp))
    | int j => obtain ⟨t', rfl⟩ := ry; exact PySem.EqMixed.ne_str_int (fin_bl I q (by simp))
    | str j => obtain ⟨t', rfl⟩ := ry; exact ne_str (fin_bl I q (congrArg not dec_str))
    | _ => exact absurd (show false = true from hs) Bool.false_ne_true
  | byt i =>
    obtain ⟨t, rfl⟩ := rx
    cases y with
    | byt j => obtain ⟨t', rfl⟩ := ry; exact PySem.W.ne_bytes (fin_bl I q (congrArg not dec_byt))
    | _ => exact absurd (show false = true from hs) Bool.false_ne_true
  | _ => cases y <;> exact absurd (show false = true from hs) Bool.false_ne_true
theorem op_lt : OpR X (compareOp .Lt) (rI0 fun i j => .bl (decide (i < j))) := opB0 fun _ _ _ _ _ _ _ q => lt_int q
theorem op_le : OpR X (compareOp .LtE) (rI0 fun i j => .bl (decide (i ≤ j))) := opB0 fun _ _ _ _ _ _ _ q => le_int q
theorem op_gt : OpR X (compareOp .Gt) (rI0 fun i j => .bl (decide (j < i))) := opB0 fun _ _ _ _ _ _ _ q => gt_int q
theorem op_in_str : OpR X (compareOp .In) (fun x y H Q => ∃ i j, x = .str i ∧ y = .str j ∧ Q (.bl (!(Builtin.Str.occurrences j i 0 j.length 1).isEmpty)) H) := by
  intro pins s σ H x y v u Q I rx ry h
  obtain ⟨i, j, rfl, rfl, q⟩ := h
  obtain ⟨t, rfl⟩ := rx
  obtain ⟨t', rfl⟩ := ry
  exact in_str (fin_bl I q rfl)
theorem op_isN : OpR X (compareOp .Is) (fun x y H Q => y = .non ∧ Q (.bl (decide (x = .non))) H) := by
  intro pins s σ H x y v u Q I rx ry h
  obtain ⟨rfl, q⟩ := h
  cases ry
  refine is_none_gen (fin_bl I q ?_)
  cases x <;> first
    | (cases rx; rfl)
    | (obtain ⟨t, rfl⟩ := rx; rfl)
theorem op_notin_str : OpR X (compareOp .NotIn) (fun x y H Q => ∃ i j, x = .str i ∧ y = .str j ∧ Q (.bl (!(!(Builtin.Str.occurrences j i 0 j.length 1).isEmpty))) H) := by
  intro pins s σ H x y v u Q I rx ry h
  obtain ⟨i, j, rfl, rfl, q⟩ := h
  obtain ⟨t, rfl⟩ := rx
  obtain ⟨t', rfl⟩ := ry
  exact notIn_str (fin_bl I q rfl)
def isObj : HO → Bool
  | .lst _ => true
  | .ins _ _ _ => true
  | _ => false
theorem OpR.or {f : Value → Value → Sem Value} {r r' : R2} (h : OpR X f r) (h' : OpR X f r') : OpR X f (fun x y H Q => r x y H Q ∨ r' x y H Q) := by
  intro pins s σ H x y v u Q I rx ry q
  rcases q with q | q
  · exact h pins s σ H x y v u Q I rx ry q
  · exact h' pins s σ H x y v u Q I rx ry q
theorem nomark (b : Expr) {op : CmpOp} (h : op ≠ .In := by decide) (h2 : op ≠ .NotIn := by decide) : behindInMarks op b = false := by
  have e1 : (op == CmpOp.In) = false := by cases op <;> first | rfl | exact absurd rfl h
  have e2 : (op == CmpOp.NotIn) = false := by cases op <;> first | rfl | exact absurd rfl h2
  cases b <;> simp [behindInMarks, e1, e2]
theorem pe_cmpR {op : CmpOp} {r : R2} (ho : OpR X (compareOp op) r) (ha : PE X a ta) (hb : PE X b tb) (hm : behindInMarks op b = false) : PE X (.Compare a [op] [b] pos) (tOp r ta tb) := by
  intro pins s σ H Q I h
  exact wpAny_Compare1 (binT ha hb I h fun v u s2 x y H2 I2 rx ry q => ho pins s2 σ H2 x y v u Q I2 rx ry q) hm
def tTest (t : TE) : TT := fun σ H Q => t σ H fun x H' => ∃ k, x = .bl k ∧ Q k H'
theorem pt_cmpR {op : CmpOp} {r : R2} (ho : OpR X (compareOp op) r) (ha : PE X a ta) (hb : PE X b tb) (hm : behindInMarks op b = false) : PT X (.Compare a [op] [b] pos) (tTest (tOp r ta tb)) := by
  intro pins s σ H Q I h
  refine wpAny_isTrue_Compare1 (thn (ha pins s σ H _ I h) fun v s1 ⟨x, H1, I1, r1, q1⟩ => thn (hb pins s1 σ H1 _ I1 q1) fun u s2 ⟨y, H2, I2, r2, q2⟩ =>
    thn (ho pins s2 σ H2 x y v u _ I2 r1 r2 q2) fun c s3 ⟨z, H3, I3, r3, k, e, q3⟩ => ?_) hm
  subst e
  cases r3
  exact wpAny_truthy_bool ⟨H3, I3, q3⟩
def tChain (r r' : R2) (ta tb tc : TE) : TE := fun σ H Q => ta σ H fun x H1 => tb σ H1 fun y H2 => r x y H2 fun z H3 => ∃ k, z = .bl k ∧
  (if k = true then tc σ H3 fun w' H4 => r' y w' H4 Q else Q (.bl false) H3)
theorem pe_chain {op op' : CmpOp} {r r' : R2} (ho : OpR X (compareOp op) r) (ho' : OpR X (compareOp op') r') (ha : PE X a ta) (hb : PE X b tb) (hc : PE X c tc)
    (hm : lastMarks [op, op'] [b, c] = false := by with_unfolding_all rfl) : PE X (.Compare a [op, op'] [b, c] pos) (tChain r r' ta tb tc) := by
  intro pins s σ H Q I h
  refine Compare_chain (thn (ha pins s σ H _ I h) fun v s1 ⟨x, H1, I1, r1, q1⟩ => chain_link (thn (hb pins s1 σ H1 _ I1 q1) fun u s2 ⟨y, H2, I2, r2, q2⟩ =>
    thn (ho pins s2 σ H2 x y v u _ I2 r1 r2 q2) fun d s3 ⟨z, H3, I3, r3, k, e, q3⟩ => ?_)) hm
  subst e
  cases r3
  refine wpAny_truthy_bool ?_
  cases k with
  | false => exact ite_ff ⟨.bl false, H3, I3, rfl, q3⟩
  | true => exact ite_tt (chain_last (thn (hc pins s3 σ H3 _ I3 q3) fun w' s4 ⟨z', H4, I4, r4, q4⟩ => ho' pins s4 σ H4 y z' u w' Q I4 r2 r4 q4))
def TruV (K : PySem.W.Frag) (x : V) (H : Hp) (k : Bool) : Prop :=
  match x with
  | .non => k = false
  | .bl b => k = b
  | .int i => k = (i != 0)
  | .str y => y.length ≤ sizeLine ∧ k = ((y.length : Int) != 0)
  | .byt y => y.size ≤ sizeLine ∧ k = ((y.size : Int) != 0)
  | .ref p => (∃ xs, SqL K H p xs ∧ k = !xs.isEmpty) ∨ (∃ xs, SqT K H p xs ∧ k = !xs.isEmpty) ∨ ∃ kvs, H p = some (.dK kvs) ∧ k = !kvs.isEmpty
  | _ => False
theorem isEmpty_kv {κ : Type} {kvs : List (κ × V)} {vs : List (κ × Value)} (r : KV kvs vs) : (!vs.isEmpty) = !kvs.isEmpty := by
  cases r <;> rfl
theorem isEmpty_of {xs : List V} {its : List Value} (r : Vals xs its) : (!its.toArray.isEmpty) = !xs.isEmpty := by
  cases r <;> simp
theorem line63 : (sizeLine : Nat) < 2 ^ 63 := by rw [sizeLine_eq]; decide
theorem tru_ok : TruR X (fun x H Q => ∃ k, TruV X.K x H k ∧ Q k H) := by
  intro pins s σ H x v Q I rx h
  obtain ⟨k, e, q⟩ := h
  have hl := line63
  have hs : sizeLine = 16777216 := sizeLine_eq
  cases x with
  | non =>
    cases rx
    have e' : k = false := e
    subst e'
    exact truthy_none ⟨H, I, q⟩
  | bl b =>
    cases rx
    have e' : k = b := e
    subst e'
    exact wpAny_truthy_bool ⟨H, I, q⟩
  | int i =>
    obtain ⟨t, rfl⟩ := rx
    have e' : k = (i != 0) := e
    subst e'
    exact PySem.P.truthy_int ⟨H, I, q⟩
  | str y =>
    obtain ⟨t, rfl⟩ := rx
    obtain ⟨hy, e'⟩ : y.length ≤ sizeLine ∧ k = ((y.length : Int) != 0) := e
    subst e'
    exact PySem.P.truthy_str (by omega) ⟨H, I.tok _, q⟩
  | byt y =>
    obtain ⟨t, rfl⟩ := rx
    obtain ⟨hy, e'⟩ : y.size ≤ sizeLine ∧ k = ((y.size : Int) != 0) := e
    subst e'
    exact PySem.W.truthy_bytes (by omega) ⟨H, I.tok _, q⟩
  | ref p =>
    cases rx
    have e' : (∃ xs, SqL X.K H p xs ∧ k = !xs.isEmpty) ∨ (∃ xs, SqT X.K H p xs ∧ k = !xs.isEmpty) ∨ ∃ kvs, H p = some (.dK kvs) ∧ k = !kvs.isEmpty := e
    rcases e' with ⟨xs, hx, e'⟩ | ⟨xs, hx, e'⟩ | ⟨kvs, hx, e'⟩
    · subst e'
      obtain ⟨its, r, pl, hz⟩ := I.list hx
      have hlen := r.length
      exact wpAny_truthy_list pl.isList (by simp only [List.size_toArray]; omega) ⟨H, I.tok _, by rw [isEmpty_of r]; exact q⟩
    · subst e'
      obtain ⟨its, r, pl, hz⟩ := I.tuple hx
      have hlen := r.length
      exact truthy_tuple pl (by simp only [List.size_toArray]; omega) ⟨H, I.tok _, by rw [isEmpty_of r]; exact q⟩
    · subst e'
      obtain ⟨hz, hS, vs, r, m⟩ : kvs.length ≤ sizeLine ∧ (p == sysModules) = false ∧ ∃ vs, KV kvs vs ∧ s.heap.DictOf (mixKind X.prog X.w) p vs := I.hok p _ hx
      have hlen : kvs.length = vs.length := Paired.length r
      exact wpAny_truthy_dict hS m (by omega) ⟨H, I.tok _, by rw [isEmpty_kv r]; exact q⟩
  | _ => exact (show False from e).elim
theorem pt_truth (ha : PE X a ta) (he : ∀ whole, isTrue a X.env whole = (do let v ← whole; standAt a.pos; holding [v] (truthy v))) :
    PT X a (fun σ H Q => ta σ H fun x H' => ∃ k, TruV X.K x H' k ∧ Q k H') := by
  intro pins s σ H Q I h
  exact isTrue_plain (thn (ha pins s σ H _ I h) fun v s1 ⟨x, H1, I1, r1, q1⟩ => tru_ok pins s1 σ H1 x v Q I1 r1 q1) (he _)
theorem op_add_str : OpR X (binaryOp .Add) (fun x y H Q => ∃ i j, x = .str i ∧ y = .str j ∧ i.length + j.length ≤ sizeLine ∧ Q (.str (i ++ j)) H) := by
  intro pins s σ H x y v u Q I rx ry h
  obtain ⟨i, j, rfl, rfl, hz, q⟩ := h
  obtain ⟨t, rfl⟩ := rx
  obtain ⟨t', rfl⟩ := ry
  exact add_str (fun t' tk => ⟨.str (i ++ j), H, I.tok _, ⟨_, rfl⟩, q⟩) hz
def PlainIxT (b : Expr) : Prop := ∀ o i, subscripted b false o i = operate [o, i] (getItem o i)
theorem vals1 {x : V} {us : List Value} (r : Vals [x] us) : ∃ u, us = [u] ∧ RelV x u := by
  cases r with
  | cons r1 r2 => cases r2; exact ⟨_, rfl, r1⟩
theorem vals2 {x y : V} {us : List Value} (r : Vals [x, y] us) : ∃ u w', us = [u, w'] ∧ RelV x u ∧ RelV y w' := by
  cases r with
  | cons r1 r2 =>
    cases r2 with
    | cons r3 r4 => cases r4; exact ⟨_, _, rfl, r1, r3⟩
theorem call_str_int : CallR X (.type "str") (fun xs H Q => ∃ i, xs = [.int i] ∧ i.natAbs.log2 < 1920 ∧ Q (.str (toString i)) H) := by
  intro pins s σ H xs us Q I r h
  obtain ⟨i, rfl, hz, q⟩ := h
  obtain ⟨u, rfl, t, rfl⟩ := vals1 r
  exact PySem.P.str_of_int hz ⟨.str _, H, I.tok _, ⟨_, rfl⟩, q⟩
def LenV (K : PySem.W.Frag) (x : V) (H : Hp) (n : Nat) : Prop :=
  match x with
  | .str y => y.length ≤ sizeLine ∧ n = y.length
  | .byt y => y.size ≤ sizeLine ∧ n = y.size
  | .ref p => (∃ xs, SqL K H p xs ∧ n = xs.length) ∨ ∃ xs, SqT K H p xs ∧ n = xs.length
  | _ => False
end
end L2
namespace L2
open PySem PySem.Spec PyProof.Rows
structure ObjM (h : Heap) (x dx C : Addr) (mA : Str → Option Value) : Prop where
  obj : h.get? x = some (PySem.W.instObj C dx)
  ns : h.Ns1 dx mA
  ne : dx ≠ x
theorem lookIn_ns {h : Heap} {dx : Addr} {mA : Str → Option Value} (n : h.Ns1 dx mA) : ∃ od, h.get? dx = some od ∧ ∀ name, PySem.W.lookIn name od = some (mA name) := by
  obtain ⟨o, es, ep, ho, hd, hk, _, hm⟩ := n
  refine ⟨o, ho, fun name => ?_⟩
  have e := hm name
  unfold nsFind findBy at e
  rw [← Array.find?_toList] at e
  unfold PySem.W.lookIn
  rw [hd]
  dsimp only
  split
  · rename_i y q
    rw [q] at e
    exact congrArg some e
  · rename_i q
    rw [q] at e
    have a : es.toList.any (·.refKey) = false := by
      rw [List.any_eq_false]
      intro y hy
      obtain ⟨z, t, hkey⟩ := hk y (Array.mem_toList_iff.mp hy)
      simp [DictEntry.refKey, hkey]
    have a' : ¬ es.toList.any (·.refKey) = true := by rw [a]; exact Bool.false_ne_true
    rw [if_neg a']
    exact congrArg some e
theorem ObjM.look {h : Heap} {x dx C : Addr} {mA : Str → Option Value} (I : ObjM h x dx C mA) : ∃ od, PySem.W.InstAt h x (PySem.W.instObj C dx) C (some od) ∧ ∀ name, PySem.W.lookIn name od = some (mA name) :=
  let ⟨od, ho, hl⟩ := lookIn_ns I.ns
  ⟨od, ⟨I.obj, rfl, rfl, ho⟩, hl⟩
section
variable {prog : Program} {w : World} {A : Around} {E : Value → Shared → Prop} {s : Shared} {K : PySem.W.Frag} {x dx C f : Addr} {mA : Str → Option Value} {name : Str} {v : Value}
theorem get_map {expr : Bool} {Q : Value → Shared → Prop} (X : K.In s.heap) (I : ObjM s.heap x dx C mA) (hg : PySem.W.plainGet K C name = true) (hh : PySem.W.hasDictIn K C = true)
    (ha : PySem.W.findIn K (.ref C) name = some none) (hv : mA name = some v) (hv' : PySem.W.handedIn v = true) (h : Q v { s with toks := s.toks + 1 }) :
    wpAny (model prog w) A (getAttr (.ref x) name expr) Q E s := by
  obtain ⟨od, J, hl⟩ := I.look
  exact PySem.W.get_value X J (PySem.W.plainGet_of hg).1 (PySem.W.findObj_own hh ha rfl (by rw [hl, hv])) hv' h
theorem get_meth {pl : Sem Bool} {Q : Value × List Value → Shared → Prop} (X : K.In s.heap) (I : ObjM s.heap x dx C mA) (hg : PySem.W.plainGet K C name = true)
    (hf : PySem.W.findIn K (.ref C) name = some (some (.ref f))) (ht : PySem.W.isFn K (.ref f) = true) (hv : mA name = none) (h : Q (.ref f, [.ref x]) s) :
    wpAny (model prog w) A (getMethod (.ref x) name pl) Q E s := by
  obtain ⟨od, J, hl⟩ := I.look
  exact PySem.W.method_fn X J (PySem.W.plainGet_of hg).1 (PySem.W.plainGet_of hg).2 hf (beq_iff_eq.mp ht) (by show (PySem.W.lookIn name od).map (·.isSome) = some false; rw [hl, hv]; rfl) h
theorem set_map {ns : List Str} {Q : Unit → Shared → Prop} (X : K.In s.heap) (I : ObjM s.heap x dx C mA)
    (hs : PySem.W.findIn K (.ref C) "__setattr__" = some (some (.builtin "object.__setattr__"))) (hp : PySem.W.plainOver K C = true) (ht : PySem.W.takerIn K C name = some none) (hh : PySem.W.hasDictIn K C = true)
    (hw : PySem.Within mA ns) (hsz : ns.length ≤ sizeLine)
    (h : ∀ h', ObjM h' x dx C (fun y => if y = name then some v else mA y) → Heap.SameBut dx s.heap h' → Q () { s with heap := h', toks := s.toks + 2 }) :
    wpAny (model prog w) A (setAttr (.ref x) name v) Q E s := by
  obtain ⟨od, J, hl⟩ := I.look
  refine PySem.W.set_plain X J hs (PySem.W.osa_open (s := { s with toks := s.toks + 1 }) (r := none) X J hp ht fun b => ?_)
  obtain ⟨cd, hc, hd'⟩ := PySem.W.any_some hh
  have hx : s.heap.get? x = some ⟨.ref C, some dx, .plain, #[]⟩ := I.obj
  refine wpAny_bind (wpAny_pure (wpAny_bind (wpAny_bind (wpAny_loadPart hx (wpAny_bind (PySem.W.Looks.here (s := { s with toks := s.toks + 1 }) (PySem.W.looks_clsIn X hc) ?_))))))
  rw [hd']
  refine wpAny_pure (a := some dx) (wpAny_bind (wpAny_pure (wpAny_bind ?_)))
  refine wpAny_nsSet1 (s := { s with toks := s.toks + 1 }) I.ns fun h' hn2 hs2 => ?_
  obtain ⟨oD, esD, epD, hoD, hdD, hcD⟩ := hn2.count (PySem.Within.cons name v hw)
  refine wpAny_bind (wpAny_lookBehind hoD (by rw [hdD]; exact pastItsLine_dict (Nat.le_trans hcD (by rw [List.length_cons]; omega))) ?_)
  exact wpAny_pure (h _ ⟨(hs2.2 _ (Ne.symm I.ne)).trans I.obj, hn2, I.ne⟩ hs2)
theorem make_map {R : Result → Shared → Prop} {vs : List Value} {kw : List (Str × Value)} (X : K.In s.heap) (hm : PySem.W.makesIn K C = true)
    (hi : PySem.W.findIn K (.ref C) "__init__" = some (some (.ref f))) (hf : PySem.W.typeIn K (.ref f) = some (.type "function"))
    (h : codeAny (model prog w) (A.under (.builtin "type.__call__" ⟨.ref C :: vs, kw⟩)) (.call (.ref f) ⟨.ref (s.heap.objs.size + 1) :: vs, kw⟩) (PySem.W.InitBack (s.heap.objs.size + 1) R)
      { s with heap := (s.heap.push PySem.W.emptyDict).push (PySem.W.instObj C s.heap.objs.size) }) :
    codeAny (model prog w) A (.call (.ref C) ⟨vs, kw⟩) R s := by
  obtain ⟨hh, g, d, t, os⟩ := s
  exact PySem.W.make_core (PySem.W.makes_of X hm) (PySem.W.looks_findIn X hi) (fun self => PySem.W.bind_fn X self hf) (.inl rfl) h
end
def putF (f : Str) (v : V) : List (Str × V) → List (Str × V)
  | [] => [(f, v)]
  | (g, x) :: r => if g = f then (g, v) :: r else (g, x) :: putF f v r
theorem lookup_putF (f g : Str) (v : V) : ∀ fs : List (Str × V), (putF f v fs).lookup g = if g = f then some v else fs.lookup g
  | [] => by
    show List.lookup g [(f, v)] = _
    by_cases h : g = f
    · have hb : (g == f) = true := beq_iff_eq.mpr h
      simp only [List.lookup, hb, if_pos h]
    · have hb : (g == f) = false := beq_eq_false_iff_ne.mpr h
      simp only [List.lookup, hb, if_neg h]
  | (k, x) :: r => by
    have ih := lookup_putF f g v r
    rw [show putF f v ((k, x) :: r) = (if k = f then (k, v) :: r else (k, x) :: putF f v r) from rfl]
    by_cases hk : k = f
    · rw [if_pos hk]
      by_cases h : g = k
      · have hb : (g == k) = true := beq_iff_eq.mpr h
        simp only [List.lookup, hb, if_pos (h.trans hk)]
      · have hb : (g == k) = false := beq_eq_false_iff_ne.mpr h
        simp only [List.lookup, hb, if_neg (fun e : g = f => h (e.trans hk.symm))]
    · rw [if_neg hk]
      by_cases h : g = k
      · have hb : (g == k) = true := beq_iff_eq.mpr h
        simp only [List.lookup, hb, if_neg (fun e : g = f => hk (h.symm.trans e))]
      · have hb : (g == k) = false := beq_eq_false_iff_ne.mpr h
        simp only [List.lookup, hb]
        exact ih
theorem keys_putF (f : Str) (v : V) : ∀ fs : List (Str × V), f ∈ (putF f v fs).map (·.1) ∧ ∀ g, g ∈ fs.map (·.1) → g ∈ (putF f v fs).map (·.1)
  | [] => ⟨by simp [putF], fun g h => by simp at h⟩
  | (k, x) :: r => by
    obtain ⟨i1, i2⟩ := keys_putF f v r
    rw [show putF f v ((k, x) :: r) = (if k = f then (k, v) :: r else (k, x) :: putF f v r) from rfl]
    by_cases hk : k = f
    · rw [if_pos hk]
      subst hk
      exact ⟨by simp, fun g h => by simpa using h⟩
    · rw [if_neg hk]
      refine ⟨?_, fun g h => ?_⟩
      · rw [List.map_cons]
        exact List.mem_cons_of_mem _ i1
      · rw [List.map_cons] at h ⊢
        rcases List.mem_cons.mp h with e | e
        · exact List.mem_cons.mpr (.inl e)
        · exact List.mem_cons_of_mem _ (i2 g e)
theorem length_putF (f : Str) (v : V) : ∀ fs : List (Str × V), (putF f v fs).length ≤ fs.length + 1
  | [] => by simp [putF]
  | (k, x) :: r => by
    have ih := length_putF f v r
    rw [show putF f v ((k, x) :: r) = (if k = f then (k, v) :: r else (k, x) :: putF f v r) from rfl]
    by_cases hk : k = f
    · rw [if_pos hk, List.length_cons, List.length_cons]; omega
    · rw [if_neg hk, List.length_cons, List.length_cons]; omega
theorem RelO.some_of {v : V} {o : Option Value} (r : RelO (some v) o) : ∃ u, o = some u ∧ RelV v u := by
  cases o with
  | none => exact (show False from r).elim
  | some u => exact ⟨u, rfl, r⟩
theorem RelO.none_of {o : Option Value} (r : RelO none o) : o = none := by
  cases o with
  | none => rfl
  | some u => exact (show False from r).elim
theorem handed_of {v : V} {u : Value} (r : RelV v u) : PySem.W.handedIn u = true := by
  cases v with
  | non => cases (show u = Value.none from r); rfl
  | bl b => cases (show u = Value.bool b from r); rfl
  | int i => obtain ⟨t, e⟩ := (show ∃ t, u = Value.int i t from r); cases e; rfl
  | str x => obtain ⟨t, e⟩ := (show ∃ t, u = Value.str x t from r); cases e; rfl
  | byt b => obtain ⟨t, e⟩ := (show ∃ t, u = Value.bytes b t from r); cases e; rfl
  | flt b => obtain ⟨t, e⟩ := (show ∃ t, u = Value.float b t from r); cases e; rfl
  | ref a => cases (show u = Value.ref a from r); rfl
  | ty n => cases (show u = Value.type n from r); rfl
section
variable {P : Program} {w : World} {H H' : Hp} {h h' : Heap} {a C dx : Addr} {fs fs' : List (Str × V)}
theorem ins_get (hok : HOk P w H h) (e : H a = some (.ins C dx fs)) : ∃ mA, ObjM h a dx C mA ∧ (∀ f, RelO (fs.lookup f) (mA f)) ∧ PySem.Within mA (fs.map (·.1)) ∧ fs.length ≤ 1000 ∧ H dx = some (.own a) := by
  obtain ⟨d, z, ne, ob, mA, n, r, q⟩ := (show ObjOk P w H h a (.ins C dx fs) from hok a _ e)
  exact ⟨mA, ⟨ob, n, ne⟩, r, q, z, d⟩
end
structure Cls (K : PySem.W.Frag) (C : Addr) : Prop where
  pg : PySem.W.plainGet K C Str.empty = true
  hd : PySem.W.hasDictIn K C = true
  po : PySem.W.plainOver K C = true
  sa : PySem.W.findIn K (.ref C) "__setattr__" = some (some (.builtin "object.__setattr__"))
theorem Cls.get {K : PySem.W.Frag} {C : Addr} (c : Cls K C) (f : Str) : PySem.W.plainGet K C f = true := c.pg
def NoAttr (K : PySem.W.Frag) (C : Addr) (f : Str) : Prop := PySem.W.findIn K (.ref C) f = some none
theorem NoAttr.taker {K : PySem.W.Frag} {C : Addr} {f : Str} (n : NoAttr K C f) : PySem.W.takerIn K C f = some none := by
  unfold PySem.W.takerIn
  rw [show PySem.W.findIn K (.ref C) f = some none from n]
  rfl
structure Con (K : PySem.W.Frag) (C : Addr) (f : Str) (v : V) (u : Value) : Prop where
  at_ : PySem.W.findIn K (.ref C) f = some (some u)
  rel : RelV v u
  get : PySem.W.specialIn K u "__get__" = some none
  cp : PySem.W.copiedNames.contains f = false
structure Meth (K : PySem.W.Frag) (C : Addr) (m : Str) (f : Addr) : Prop where
  at_ : PySem.W.findIn K (.ref C) m = some (some (.ref f))
  fn : PySem.W.isFn K (.ref f) = true
  kp : PySem.W.keepIn K (.ref f) = true
section
variable {X : Cx} {pins : List (Addr × Obj)} {σ : St} {H : Hp} {s : Shared} {a C dx : Addr} {fs : List (Str × V)} {f : Str} {v : V} {A : Around} {E : Value → Shared → Prop}
theorem getattr_ok {b : Bool} {Q : Value → Shared → Prop} (I : Inv X pins σ H s) (e : H a = some (.ins C dx fs)) (c : Cls X.K C) (n : NoAttr X.K C f) (l : fs.lookup f = some v)
    (h : ∀ u s', Inv X pins σ H s' → RelV v u → Q u s') : wpAny (model X.prog X.w) A (getAttr (.ref a) f b) Q E s := by
  obtain ⟨mA, O, r, _, _, _⟩ := ins_get I.hok e
  obtain ⟨u, hu, ru⟩ := RelO.some_of (v := v) (o := mA f) (by rw [← l]; exact r f)
  exact get_map I.kIn O (c.get f) c.hd n hu (handed_of ru) (h u _ (I.tok _) ru)
theorem getmeth_ok {m : Str} {g : Addr} {pl : Sem Bool} {Q : Value × List Value → Shared → Prop} (I : Inv X pins σ H s) (e : H a = some (.ins C dx fs)) (c : Cls X.K C) (k : Meth X.K C m g) (l : fs.lookup m = none)
    (h : Q (.ref g, [.ref a]) s) : wpAny (model X.prog X.w) A (getMethod (.ref a) m pl) Q E s := by
  obtain ⟨mA, O, r, _, _, _⟩ := ins_get I.hok e
  have hn : mA m = none := RelO.none_of (by rw [← l]; exact r m)
  exact get_meth I.kIn O (c.get m) k.at_ k.fn hn h
theorem setattr_ok {y : V} {u : Value} {Q : Unit → Shared → Prop} (I : Inv X pins σ H s) (e : H a = some (.ins C dx fs)) (c : Cls X.K C) (n : NoAttr X.K C f) (hl : fs.length < 1000) (ry : RelV y u)
    (h : ∀ s', Inv X pins σ (upd H a (.ins C dx (putF f y fs))) s' → Q () s') : wpAny (model X.prog X.w) A (setAttr (.ref a) f u) Q E s := by
  obtain ⟨mA, O, r, wi, _, ho⟩ := ins_get I.hok e
  have hz : (fs.map (·.1)).length ≤ sizeLine := by rw [List.length_map, sizeLine_eq]; omega
  refine set_map I.kIn O c.sa c.po n.taker c.hd wi hz fun h' O' sb => h _ ?_
  have hd : ∃ o, h'.get? dx = some o := let ⟨o, _, _, e', _⟩ := O'.ns; ⟨o, e'⟩
  refine I.write (x := a) (e := dx) (by rw [e]; exact True.intro) (.inr ho) (fun b q hb z => (sb.2 b hb).trans z) hd ?_
  refine ⟨by rw [upd_ne O.ne]; exact ho, ?_, O.ne, O'.obj, _, O'.ns, fun g => ?_, fun g hg => ?_⟩
  · have := length_putF f y fs; omega
  · show RelO ((putF f y fs).lookup g) (if g = f then some u else mA g)
    rw [lookup_putF]
    by_cases q : g = f
    · rw [if_pos q, if_pos q]; exact ry
    · rw [if_neg q, if_neg q]; exact r g
  · by_cases q : g = f
    · rw [q]; exact (keys_putF f y fs).1
    · refine (keys_putF f y fs).2 g (wi g fun z => hg ?_)
      show (if g = f then some u else mA g) = none
      rw [if_neg q]; exact z
theorem Inv.made (I : Inv X pins σ H s) : Inv X pins σ (upd (upd H s.heap.objs.size (.own (s.heap.objs.size + 1))) (s.heap.objs.size + 1) (.ins C s.heap.objs.size []))
    { s with heap := (s.heap.push PySem.W.emptyDict).push (PySem.W.instObj C s.heap.objs.size) } := by
  have e1 : (s.heap.push PySem.W.emptyDict).get? s.heap.objs.size = some PySem.W.emptyDict := Heap.get?_push_size s.heap rfl
  have e2 : ((s.heap.push PySem.W.emptyDict).push (PySem.W.instObj C s.heap.objs.size)).get? (s.heap.objs.size + 1) = some (PySem.W.instObj C s.heap.objs.size) := by
    have := Heap.get?_push_size (s.heap.push PySem.W.emptyDict) (o := PySem.W.instObj C s.heap.objs.size) rfl
    rwa [Heap.size_push] at this
  have e3 : (s.heap.push PySem.W.emptyDict).Ns s.heap.objs.size (fun _ => none) := ⟨PySem.W.emptyDict, #[], _, e1, rfl, (fun e he => absurd he (by simp)), fun _ => rfl⟩
  have I1 := I.laid (a := s.heap.objs.size) (o := .own (s.heap.objs.size + 1)) (h' := s.heap.push PySem.W.emptyDict) (t' := s.toks) (fun b u q => Heap.get?_push_of_some _ q) (Nat.le_refl _) ⟨_, e1⟩
  refine I1.laid (a := s.heap.objs.size + 1) (o := .ins C s.heap.objs.size []) (t' := s.toks) (fun b u q => Heap.get?_push_of_some _ q) (Nat.le_of_eq (Heap.size_push _ _)) ?_
  have ne : s.heap.objs.size ≠ s.heap.objs.size + 1 := Nat.ne_of_lt (Nat.lt_succ_self _)
  refine ⟨by rw [upd_ne ne, upd_same], Nat.zero_le _, ne, e2, fun _ => none, (Heap.Ns1.of_empty e3).at fun o q => Heap.get?_push_of_some _ q, fun _ => True.intro, fun y hy => absurd rfl hy⟩
theorem attr_of {prog : Program} {w : World} {env : Env} {e : Expr} {f : Str} {pos : Pos} {s : Shared} {Q : Value → Shared → Prop} (hb : attributeBase e f env (eval e env) = eval e env)
    (h : wpAny (model prog w) A (eval e env) (fun o s₁ => wpAny (model prog w) A (getAttr o f true) Q E s₁) E s) : wpAny (model prog w) A (eval (.Attribute e f pos) env) Q E s :=
  Attribute_any_ h (by rw [arm_eval_Attribute, hb])
end
def tFld (K : PySem.W.Frag) (ta : TE) (f : Str) : TE := fun σ H Q => ta σ H fun x H1 => ∃ a C dx fs v, x = .ref a ∧ H1 a = some (.ins C dx fs) ∧ Cls K C ∧ NoAttr K C f ∧ fs.lookup f = some v ∧ Q v H1
def tCon (K : PySem.W.Frag) (ta : TE) (f : Str) : TE := fun σ H Q => ta σ H fun x H1 => ∃ a C dx fs v u, x = .ref a ∧ H1 a = some (.ins C dx fs) ∧ Cls K C ∧ Con K C f v u ∧ fs.lookup f = none ∧ Q v H1
def sFld (K : PySem.W.Frag) (ta tv : TE) (f : Str) : TS := fun D σ H => tv σ H fun y H1 => ta σ H1 fun x H2 => ∃ a C dx fs, x = .ref a ∧ H2 a = some (.ins C dx fs) ∧ Cls K C ∧ NoAttr K C f ∧ fs.length < 1000 ∧
  D.nx σ (upd H2 a (.ins C dx (putF f y fs)))
def InOp (X : Cx) (op : Operator) (rd : V → V → Hp → VK → Prop) : Prop :=
  ∀ (pins : List (Addr × Obj)) (s : Shared) (σ : St) (H : Hp) (x y : V) (u v : Value) (Q : VK), Inv X pins σ H s → RelV x u → RelV y v → rd x y H Q → wpAny (model X.prog X.w) X.A (inplaceOp op u v) (EP X pins σ Q) X.xe s
def sFldAug (K : PySem.W.Frag) (ta tv : TE) (rd : V → V → Hp → VK → Prop) (f : Str) : TS := fun D σ H => ta σ H fun x H1 => ∃ a C dx fs v, x = .ref a ∧ H1 a = some (.ins C dx fs) ∧ Cls K C ∧ NoAttr K C f ∧ fs.lookup f = some v ∧
  tv σ H1 fun y H2 => rd v y H2 fun z H3 => ∃ dx' fs', H3 a = some (.ins C dx' fs') ∧ fs'.length < 1000 ∧ D.nx σ (upd H3 a (.ins C dx' (putF f z fs')))
section
variable {X : Cx} {o e value : Expr} {f : Str} {pos pos' tpos : Pos} {ta tv : TE}
theorem pe_fld (he : PE X e ta) (hb : attributeBase e f X.env (eval e X.env) = eval e X.env) : PE X (.Attribute e f pos) (tFld X.K ta f) := by
  intro pins s σ H Q I h
  refine attr_of hb (thn (he pins s σ H _ I h) fun u s1 ⟨x, H1, I1, rx, a, C, dx, fs, v, ex, ea, c, n, l, q⟩ => ?_)
  subst ex
  obtain rfl : u = Value.ref a := rx
  exact getattr_ok I1 ea c n l fun u' s2 I2 ru => ⟨v, H1, I2, ru, q⟩
theorem ps_fld (ha : PE X o ta) (hv : PE X value tv) (hs : swapsWith value (some (.Attribute o f pos')) pos.line X.env = pure false) : PS X (.Assign [.Attribute o f pos'] value pos) (sFld X.K ta tv f) := by
  intro pins s σ H D I h
  refine plainObj_wpAny_Assign_Attribute (thn (hv pins s σ H _ I h) fun u s1 ⟨y, H1, I1, ry, q⟩ => thn (ha pins s1 σ H1 _ I1 q) fun ov s2 ⟨x, H2, I2, rx, a, C, dx, fs, ex, ea, c, n, l, q2⟩ => ?_) hs
  subst ex
  obtain rfl : ov = Value.ref a := rx
  exact setattr_ok I2 ea c n l ry fun s3 I3 => ⟨σ, _, I3, q2⟩
def rAdd : V → V → Hp → VK → Prop := fun x y H Q => ∃ i j, x = .int i ∧ y = .int j ∧ Q (.int (i + j)) H
def rSub : V → V → Hp → VK → Prop := fun x y H Q => ∃ i j, x = .int i ∧ y = .int j ∧ Q (.int (i - j)) H
end
section
variable {X : Cx} {pins : List (Addr × Obj)} {σ : St} {H : Hp} {s : Shared} {A : Around} {E : Value → Shared → Prop} {Q : Value → Shared → Prop} {c : Value} {b : Bool}
inductive TyOf (K : PySem.W.Frag) (H : Hp) : V → Value → Prop where
  | non : TyOf K H .non (.type "NoneType")
  | bl (x : Bool) : TyOf K H (.bl x) (.type "bool")
  | int (i : Int) : TyOf K H (.int i) (.type "int")
  | str (x : Str) : TyOf K H (.str x) (.type "str")
  | flt (x : UInt64) : TyOf K H (.flt x) (.type "float")
  | lst {a : Addr} {xs : List V} (e : H a = some (.lst xs)) : TyOf K H (.ref a) (.type "list")
  | frz {a : Addr} {o : Obj} {xs : List V} (e : H a = some (.frz o (.lst xs))) : TyOf K H (.ref a) (.type "list")
  | tup {a : Addr} {xs : List V} (e : H a = some (.tup xs)) : TyOf K H (.ref a) (.type "tuple")
  | dK {a : Addr} {kvs : List (Key × V)} (e : H a = some (.dK kvs)) : TyOf K H (.ref a) (.type "dict")
  | dT {a : Addr} {kvs : List (List Key × V)} (e : H a = some (.dT kvs)) : TyOf K H (.ref a) (.type "dict")
  | ins {a C dx : Addr} {fs : List (Str × V)} (e : H a = some (.ins C dx fs)) (cl : Cls K C) (ha : PySem.W.findIn K (.ref C) "__class__" = some (some (.builtin "object.__class__")))
      (hn : PySem.W.specialIn K (.builtin "object.__class__") "__get__" = some (some (.builtin "getset_descriptor.__get__"))) (htk : PySem.W.takesIn K (.builtin "object.__class__") = some true)
      (hm : PySem.W.mroIn K C (.type "object") = some true) : TyOf K H (.ref a) (.ref C)
theorem isinst_ok {x : V} {u t : Value} (I : Inv X pins σ H s) (rx : RelV x u) (ty : TyOf X.K H x t) (e : PySem.W.kitOne X.K t c = some b) (h : ∀ tk, Q (.bool b) { s with toks := tk }) :
    wpAny (model X.prog X.w) A (call (.builtin "isinstance") [u, c]) Q E s := by
  cases ty with
  | non => cases (show u = Value.none from rx); exact PySem.W.kia_one PySem.W.kitx_none I.kIn True.intro e (fun z => nomatch z) h
  | bl y => cases (show u = Value.bool y from rx); exact PySem.W.kia_one PySem.W.kitx_bool I.kIn True.intro e (fun z => nomatch z) h
  | int i => obtain ⟨t, q⟩ := (show ∃ t, u = Value.int i t from rx); cases q; exact PySem.W.kia_one PySem.W.kitx_int I.kIn True.intro e (fun z => nomatch z) h
  | str y => obtain ⟨t, q⟩ := (show ∃ t, u = Value.str y t from rx); cases q; exact PySem.W.kia_one PySem.W.kitx_str I.kIn True.intro e (fun z => nomatch z) h
  | flt y => obtain ⟨t, q⟩ := (show ∃ t, u = Value.float y t from rx); cases q; exact PySem.W.kia_one PySem.W.kitx_float I.kIn True.intro e (fun z => nomatch z) h
  | @lst a xs ea =>
    cases (show u = Value.ref a from rx)
    obtain ⟨_, _, n, _, h1⟩ := (show ObjOk X.prog X.w H s.heap a (.lst xs) from I.hok a _ ea)
    exact PySem.W.kia_one PySem.W.kitx_list I.kIn ⟨_, h1, rfl⟩ e (fun z => nomatch z) h
  | @frz a ob xs ea =>
    cases (show u = Value.ref a from rx)
    obtain ⟨_, _, _, n, _, h1⟩ := (show ObjOk X.prog X.w H s.heap a (.frz ob (.lst xs)) from I.hok a _ ea)
    exact PySem.W.kia_one PySem.W.kitx_list I.kIn ⟨_, h1, rfl⟩ e (fun z => nomatch z) h
  | @tup a xs ea =>
    cases (show u = Value.ref a from rx)
    obtain ⟨_, _, _, p⟩ := (show ObjOk X.prog X.w H s.heap a (.tup xs) from I.hok a _ ea)
    obtain ⟨o, h1, h2, _⟩ := p
    exact PySem.W.kia_one PySem.W.kitx_tuple I.kIn ⟨o, h1, h2⟩ e (fun z => nomatch z) h
  | @dK a kvs ea =>
    cases (show u = Value.ref a from rx)
    obtain ⟨_, _, vs, _, p⟩ := (show ObjOk X.prog X.w H s.heap a (.dK kvs) from I.hok a _ ea)
    obtain ⟨o, es, ep, h1, h2, _⟩ := p
    exact PySem.W.kia_one PySem.W.kitx_dict I.kIn ⟨o, h1, h2.1⟩ e (fun z => nomatch z) h
  | @dT a kvs ea =>
    cases (show u = Value.ref a from rx)
    obtain ⟨_, _, xs, _, o, es, ep, h1, h2, _⟩ := (show ObjOk X.prog X.w H s.heap a (.dT kvs) from I.hok a _ ea)
    exact PySem.W.kia_one PySem.W.kitx_dict I.kIn ⟨o, h1, h2.1⟩ e (fun z => nomatch z) h
  | @ins a C dx fs ea cl ha hn htk hm =>
    cases (show u = Value.ref a from rx)
    obtain ⟨mA, O, _⟩ := ins_get I.hok ea
    obtain ⟨od, J, _⟩ := O.look
    exact PySem.W.kia_one (PySem.W.kitx_own (cl.get _) cl.hd ha hn htk hm) I.kIn J e (fun z => nomatch z) h
end
end L2
namespace L2
open PySem PySem.Spec PyProof.Rows
structure Room (k : Nat) (A : Around) : Prop where
  hd : A.handled = none
  dp : A.depth + 3 * k + 5 < recursionLimit
  un : A.units + 16 * k + 200 < cLine
theorem Room.mono {j k : Nat} {A : Around} (r : Room k A) (h : j ≤ k) : Room j A := ⟨r.hd, by have := r.dp; omega, by have := r.un; omega⟩
theorem Room.deeper {k : Nat} {A : Around} (r : Room (k + 1) A) (env : Env) : Room k (A.deeper env) :=
  ⟨r.hd, by have := r.dp; show A.depth + 1 + 3 * k + 5 < _; omega, by have := r.un; show A.units + 3 + 16 * k + 200 < _; omega⟩
theorem Room.in1 {k : Nat} {A : Around} (r : Room (k + 1) A) : Room k A.in1 :=
  ⟨r.hd, by have := r.dp; show A.depth + 3 * k + 5 < _; omega, by have := r.un; show A.units + 1 + 16 * k + 200 < _; omega⟩
theorem make_depth {A : Around} {C : Addr} {us : List Value} {kw : List (Str × Value)} : (A.under (.builtin "type.__call__" ⟨.ref C :: us, kw⟩)).depth = A.depth + 1 := by
  first | rfl | simp [Around.under, Code.weight, Code.isCreation, Code.isGuard, Code.isCaller, Code.frames, Code.isFrame, guardIds]
theorem make_units {A : Around} {C : Addr} {us : List Value} {kw : List (Str × Value)} : (A.under (.builtin "type.__call__" ⟨.ref C :: us, kw⟩)).units = A.units + 1 := by
  first | rfl | simp [Around.under, Code.cUnits, Code.frames, Code.isFrame]
theorem Room.make {k : Nat} {A : Around} (r : Room (k + 1) A) (C : Addr) (us : List Value) (kw : List (Str × Value)) : Room k (A.under (.builtin "type.__call__" ⟨.ref C :: us, kw⟩)) :=
  ⟨r.hd, by have := r.dp; rw [make_depth]; omega, by have := r.un; rw [make_units]; omega⟩
theorem Room.depth {k : Nat} {A : Around} (r : Room k A) : A.depth < recursionLimit := by have := r.dp; omega
theorem Room.units {k : Nat} {A : Around} (r : Room k A) : A.units + 64 < cLine := by have := r.un; omega
def tNil : TA := fun _ H Q => Q [] H
def tCons (ta : TE) (tr : TA) : TA := fun σ H Q => ta σ H fun x H1 => tr σ H1 fun xs H2 => Q (x :: xs) H2
section
variable {X : Cx} {e : Expr} {es : List Expr} {te : TE} {t : TA} {pos : Pos}
theorem pa_nil : PA X [] tNil := fun _ _ _ _ H Q I h => Calls.spliced_nil ⟨[], H, I, .nil, h⟩
theorem pa_cons (ha : PE X e te) (hr : PA X es t) (hs : starEach (e :: es) X.env = (false, eval e X.env) :: starEach es X.env := by rfl) : PA X (e :: es) (tCons te t) := by
  intro pos pins s σ H Q I h
  rw [hs]
  show wpAny _ _ (spliced ((false, eval e X.env) :: backTo pos (starEach es X.env))) _ _ s
  refine Calls.spliced_cons (thn (ha pins s σ H _ I h) fun u s1 ⟨x, H1, I1, r1, q1⟩ => ?_)
  exact thn (hr pos pins s1 σ H1 _ I1 q1) fun us s2 ⟨xs, H2, I2, r2, q2⟩ => ⟨x :: xs, H2, I2, .cons r1 r2, q2⟩
def tTup (t : TA) : TE := fun σ H Q => t σ H fun xs H1 => xs.length ≤ sizeLine ∧ ∀ p, H1 p = none → Q (.ref p) (upd H1 p (.tup xs))
def tLst (t : TA) : TE := fun σ H Q => t σ H fun xs H1 => xs.length ≤ sizeLine ∧ ∀ p, H1 p = none → Q (.ref p) (upd H1 p (.lst xs))
theorem pe_tup {x1} (h : PA X es t) : PE X (.Tuple es x1 pos) (tTup t) := by
  intro pins s σ H Q I hq
  refine wpAny_Tuple_spliced (thn (h pos pins s σ H _ I hq) fun us s1 ⟨xs, H1, I1, r, z, q⟩ => ⟨by rw [← r.length]; exact z, ?_⟩)
  have hf : H1 s1.heap.objs.size = none := I1.hok.fresh (Nat.le_refl _)
  refine ⟨.ref s1.heap.objs.size, upd H1 s1.heap.objs.size (.tup xs), I1.laid (t' := s1.toks) (fun b u e => Heap.get?_push_of_some _ e) (Nat.le_refl _) ?_, rfl, q _ hf⟩
  exact ⟨z, us, r, ⟨_, Heap.get?_push_size _ rfl, rfl, _, rfl⟩⟩
theorem pe_lst (h : PA X es t) : PE X (.List es pos) (tLst t) := by
  intro pins s σ H Q I hq
  refine wpAny_List_spliced (thn (h pos pins s σ H _ I hq) fun us s1 ⟨xs, H1, I1, r, z, q⟩ => ⟨by rw [← r.length]; exact z, ?_⟩)
  have hf : H1 s1.heap.objs.size = none := I1.hok.fresh (Nat.le_refl _)
  refine ⟨.ref s1.heap.objs.size, upd H1 s1.heap.objs.size (.lst xs), I1.laid (t' := s1.toks) (fun b u e => Heap.get?_push_of_some _ e) (Nat.le_refl _) ?_, rfl, q _ hf⟩
  exact ⟨z, us, 0, r, Heap.get?_push_size _ rfl⟩
end
abbrev Sp := List V → Hp → VK → XK → Prop
abbrev CXT := List Env → Hp → Shared → XK → Value → Shared → Prop
structure Env0 (P : Program) (w : World) (K : PySem.W.Frag) (mg : Str → Option Value) (base : Heap) (A : Around) (outer : List Env) (s : Shared) (H : Hp) : Prop where
  frames : A.frames = some outer
  mod : Mod K mg base
  bs : ∀ b o, base.get? b = some o → s.heap.get? b = some o ∧ H b = none
  bsz : base.objs.size ≤ s.heap.objs.size
  funs : s.heap.FunFrames base outer
  frf : ∀ b ∈ frs outer, H b = none
  hok : HOk P w H s.heap
  bare : AllBare s.gens
def CE (outer : List Env) (P : Program) (w : World) (H : Hp) (s : Shared) (Q : VK) (u : Value) (s' : Shared) : Prop :=
  ∃ v H', s'.os = s.os ∧ AllBare s'.gens ∧ Un (frs outer) [] H H' s.heap s'.heap ∧ HOk P w H' s'.heap ∧ RelV v u ∧ Q v H'
def CR (CX : CXT) (outer : List Env) (P : Program) (w : World) (H : Hp) (s : Shared) (Q : VK) (E : XK) (r : Result) (s' : Shared) : Prop :=
  match r with
  | .ok (.ret u) => CE outer P w H s Q u s'
  | .ok _ => False
  | .error e => CX outer H s E e s'
structure FnOk (P : Program) (w : World) (K : PySem.W.Frag) (mg : Str → Option Value) (base : Heap) (CX : CXT) (k : Nat) (f : Addr) (fd : FuncData) (ps : List Str) (sp : Sp) : Prop where
  len : ∀ vs H Q E, sp vs H Q E → vs.length = ps.length
  run : ∀ (A : Around) (outer : List Env) (s : Shared) (H : Hp) (args : Args) (us : List Value) (vs : List V) (Q : VK) (E : XK), Room k A → Env0 P w K mg base A outer s H → BindsTo s fd args (ps.zip us) → Vals vs us → sp vs H Q E →
    codeAny (model P w) A (.call (.ref f) args) (CR CX outer P w H s Q E) s
theorem FnOk.mono {P : Program} {w : World} {K : PySem.W.Frag} {mg : Str → Option Value} {base : Heap} {CX : CXT} {j k : Nat} {f : Addr} {fd : FuncData} {ps : List Str} {sp : Sp} (F : FnOk P w K mg base CX j f fd ps sp) (h : j ≤ k) :
    FnOk P w K mg base CX k f fd ps sp := ⟨F.len, fun A outer s H args us vs Q E hr => F.run A outer s H args us vs Q E (hr.mono h)⟩
theorem Env0.make {P : Program} {w : World} {K : PySem.W.Frag} {mg : Str → Option Value} {base : Heap} {A : Around} {outer : List Env} {s : Shared} {H : Hp} (e : Env0 P w K mg base A outer s H) (C : Addr) (us : List Value) (kw : List (Str × Value)) :
    Env0 P w K mg base (A.under (.builtin "type.__call__" ⟨.ref C :: us, kw⟩)) outer s H := ⟨by first | exact e.frames | (simpa [Around.under, Code.envs, Code.isFrame, pushEnvs] using e.frames), e.mod, e.bs, e.bsz, e.funs, e.frf, e.hok, e.bare⟩
theorem Env0.in1 {P : Program} {w : World} {K : PySem.W.Frag} {mg : Str → Option Value} {base : Heap} {A : Around} {outer : List Env} {s : Shared} {H : Hp} (e : Env0 P w K mg base A outer s H) :
    Env0 P w K mg base A.in1 outer s H := ⟨e.frames, e.mod, e.bs, e.bsz, e.funs, e.frf, e.hok, e.bare⟩
section
variable {X : Cx} {pins : List (Addr × Obj)} {σ : St} {H : Hp} {s s' : Shared}
theorem Inv.env0 (I : Inv X pins σ H s) : Env0 X.prog X.w X.K X.mg X.base X.A X.stack s H :=
  ⟨I.ok.frames, I.ok.mod, I.bs, Nat.le_trans I.ok.bsz I.sz, I.stack, I.stkFree, I.hok, I.bare⟩
theorem Inv.after {Q : VK} {u : Value} (I : Inv X pins σ H s) (h : CE X.stack X.prog X.w H s Q u s') : EP X pins σ Q u s' := by
  obtain ⟨v, H', os, bare, un, hok, r, q⟩ := h
  obtain ⟨hh, g, d, t, os'⟩ := s'
  obtain rfl : os' = s.os := os
  exact ⟨v, H', I.call (h' := hh) (g' := g) (d' := d) (t' := t) (ch := []) un hok bare (fun b z => absurd z (by simp)), r, q⟩
end
def tCall (sp : Sp) (dvs : List V) (E : XK) (t : TA) : TE := fun σ H Q => t σ H fun vs H1 => sp (vs ++ dvs) H1 Q E
def tMeth (C : Addr) (m : Str) (sp : Sp) (dvs : List V) (E : XK) (ta : TE) (t : TA) : TE := fun σ H Q => ta σ H fun x H1 => ∃ a dx fs, x = .ref a ∧ H1 a = some (.ins C dx fs) ∧ fs.lookup m = none ∧
  t σ H1 fun vs H2 => sp (x :: (vs ++ dvs)) H2 Q E
def tMake (C : Addr) (sp : Sp) (dvs : List V) (E : XK) (t : TA) : TE := fun σ H Q => t σ H fun vs H1 => ∀ x dx, H1 x = none → H1 dx = none → dx ≠ x →
  sp (.ref x :: (vs ++ dvs)) (upd (upd H1 dx (.own x)) x (.ins C dx [])) (fun v H2 => v = .non ∧ Q (.ref x) H2) E
def Binds (K : PySem.W.Frag) (fd : FuncData) (ps : List Str) (ds : List Value) : Prop :=
  ∀ (s : Shared) (us : List Value), K.In s.heap → (us ++ ds).length = ps.length → BindsTo s fd ⟨us, []⟩ (ps.zip (us ++ ds))
theorem Binds.all {K : PySem.W.Frag} {fd : FuncData} {ps : List Str} (h : ∀ us : List Value, us.length = ps.length → bindArgs fd ⟨us, []⟩ = pure (ps.zip us)) : Binds K fd ps [] := fun s us _ hl => by
  rw [List.append_nil] at hl ⊢
  exact .of_eq (h us hl)
def Passes (CX : CXT) (X : Cx) (E : XK) : Prop := ∀ (pins : List (Addr × Obj)) (σ : St) (H : Hp) (s : Shared) (e : Value) (s' : Shared), Inv X pins σ H s → CX X.stack H s E e s' → X.xe e s'
section
variable {X : Cx} {CX : CXT} {k : Nat} {f C : Addr} {fd : FuncData} {ps : List Str} {sp : Sp} {dvs : List V} {ds : List Value} {E : XK} {x m : Str} {p pos apos : Pos} {e o : Expr} {es : List Expr} {ta : TE} {t : TA}
theorem run_fn {pins : List (Addr × Obj)} {σ : St} {H : Hp} {s : Shared} {Q : VK} {us : List Value} {vs : List V} (F : FnOk X.prog X.w X.K X.mg X.base CX k f fd ps sp) (hr : Room k X.A) (hb : Binds X.K fd ps ds) (hd : Vals dvs ds) (hx : Passes CX X E)
    (I : Inv X pins σ H s) (r : Vals vs us) (h : sp (vs ++ dvs) H Q E) : wpAny (model X.prog X.w) X.A (call (.ref f) us) (EP X pins σ Q) X.xe s := by
  have r2 : Vals (vs ++ dvs) (us ++ ds) := r.append hd
  have hl : (us ++ ds).length = ps.length := by rw [← r2.length]; exact F.len _ _ _ _ h
  refine wpAny_call (codeAny_mono (F.run X.A X.stack s H ⟨us, []⟩ (us ++ ds) (vs ++ dvs) Q E hr I.env0 (hb s us I.kIn hl) r2 h) fun r s' hq => ?_)
  cases r with
  | error e => exact hx pins σ H s e s' I hq
  | ok fl =>
    cases fl with
    | ret u => exact I.after hq
    | next => exact False.elim hq
    | brk => exact False.elim hq
    | cont => exact False.elim hq
theorem pe_call (F : FnOk X.prog X.w X.K X.mg X.base CX k f fd ps sp) (hr : Room k X.A) (hg : Gl X x) (hm : X.mg x = some (.ref f)) (hk : PySem.W.keepIn X.K (.ref f) = true) (hb : Binds X.K fd ps ds) (hd : Vals dvs ds) (hx : Passes CX X E)
    (ha : PA X (e :: es) t) (hdb : (x == ("__debug__" : Str)) = false := by decide) (he : starEach (e :: es) X.env = (false, eval e X.env) :: starEach es X.env := by rfl) (hpl : (backTo pos (starEach es X.env)).any (·.1) = false := by rfl) :
    PE X (.Call (.Name x p) (e :: es) [] pos) (tCall sp dvs E t) := by
  intro pins s σ H Q I h
  refine wpAny_Call_Name_kw (ld_glob I hg hm ?_ hdb)
  refine PySem.W.callWith_K (h₀ := X.base) I.ok.mod.kin hk (thn (ha pos pins s σ H _ I h) fun us s1 ⟨vs, H1, I1, r, q⟩ => ⟨I1.kIn, ?_⟩) he hpl
  exact run_fn F hr hb hd hx I1 r q
structure Mk (K : PySem.W.Frag) (C f : Addr) : Prop where
  makes : PySem.W.makesIn K C = true
  init : PySem.W.findIn K (.ref C) "__init__" = some (some (.ref f))
  fn : PySem.W.isFn K (.ref f) = true
  kp : PySem.W.keepIn K (.ref C) = true
theorem run_make {pins : List (Addr × Obj)} {σ : St} {H : Hp} {s : Shared} {Q : VK} {us : List Value} {vs : List V} (M : Mk X.K C f) (F : FnOk X.prog X.w X.K X.mg X.base CX k f fd ps sp) (hr : Room (k + 1) X.A) (hb : Binds X.K fd ps ds) (hd : Vals dvs ds)
    (hx : Passes CX X E) (I : Inv X pins σ H s) (r : Vals vs us)
    (h : ∀ x dx, H x = none → H dx = none → dx ≠ x → sp (.ref x :: (vs ++ dvs)) (upd (upd H dx (.own x)) x (.ins C dx [])) (fun v H2 => v = .non ∧ Q (.ref x) H2) E) :
    wpAny (model X.prog X.w) X.A (call (.ref C) us) (EP X pins σ Q) X.xe s := by
  have hq := h (s.heap.objs.size + 1) s.heap.objs.size (I.hok.fresh (Nat.le_succ _)) (I.hok.fresh (Nat.le_refl _)) (Nat.ne_of_lt (Nat.lt_succ_self _))
  have I2 := Inv.made (C := C) I
  have r2 : Vals (V.ref (s.heap.objs.size + 1) :: (vs ++ dvs)) (Value.ref (s.heap.objs.size + 1) :: (us ++ ds)) := .cons rfl (r.append hd)
  have hl : (Value.ref (s.heap.objs.size + 1) :: us ++ ds).length = ps.length := by
    have e := r2.length
    rw [F.len _ _ _ _ hq] at e
    exact e.symm
  refine wpAny_call (make_map (f := f) I.kIn M.makes M.init (beq_iff_eq.mp M.fn) (codeAny_mono (F.run _ X.stack _ _ ⟨Value.ref (s.heap.objs.size + 1) :: us, []⟩ (Value.ref (s.heap.objs.size + 1) :: (us ++ ds)) _ _ E (hr.make C us [])
    (I2.env0.make C us []) (hb _ (Value.ref (s.heap.objs.size + 1) :: us) I2.kIn hl) r2 hq) fun r s' hq' => ?_))
  cases r with
  | error e => exact hx pins σ _ _ e s' I2 hq'
  | ok fl =>
    cases fl with
    | ret u =>
      obtain ⟨v, H', I3, rv, ev, q3⟩ := I2.after hq'
      subst ev
      exact ⟨rv, ⟨V.ref (s.heap.objs.size + 1), H', I3, rfl, q3⟩⟩
    | next => exact False.elim hq'
    | brk => exact False.elim hq'
    | cont => exact False.elim hq'
theorem pe_make (M : Mk X.K C f) (F : FnOk X.prog X.w X.K X.mg X.base CX k f fd ps sp) (hr : Room (k + 1) X.A) (hg : Gl X x) (hm : X.mg x = some (.ref C)) (hb : Binds X.K fd ps ds) (hd : Vals dvs ds) (hx : Passes CX X E)
    (ha : PA X (e :: es) t) (hdb : (x == ("__debug__" : Str)) = false := by decide) (he : starEach (e :: es) X.env = (false, eval e X.env) :: starEach es X.env := by rfl) (hpl : (backTo pos (starEach es X.env)).any (·.1) = false := by rfl) :
    PE X (.Call (.Name x p) (e :: es) [] pos) (tMake C sp dvs E t) := by
  intro pins s σ H Q I h
  refine wpAny_Call_Name_kw (ld_glob I hg hm ?_ hdb)
  refine PySem.W.callWith_K (h₀ := X.base) I.ok.mod.kin M.kp (thn (ha pos pins s σ H _ I h) fun us s1 ⟨vs, H1, I1, r, q⟩ => ⟨I1.kIn, ?_⟩) he hpl
  exact run_make M F hr hb hd hx I1 r q
theorem pe_make0 (M : Mk X.K C f) (F : FnOk X.prog X.w X.K X.mg X.base CX k f fd ps sp) (hr : Room (k + 1) X.A) (hg : Gl X x) (hm : X.mg x = some (.ref C)) (hb : Binds X.K fd ps ds) (hd : Vals dvs ds) (hx : Passes CX X E)
    (hdb : (x == ("__debug__" : Str)) = false := by decide) : PE X (.Call (.Name x p) [] [] pos) (tMake C sp dvs E tNil) := by
  intro pins s σ H Q I h
  refine wpAny_Call_Name_kw (ld_glob I hg hm ?_ hdb)
  exact PySem.W.callWith_K0 I.kIn M.kp (run_make (us := []) M F hr hb hd hx I .nil h)
end
def PK (X : Cx) (kws : List Keyword) (t : TA) : Prop :=
  ∀ (pos : Pos) (pins : List (Addr × Obj)) (s : Shared) (σ : St) (H : Hp) (Q : List V → Hp → Prop), Inv X pins σ H s → t σ H Q → wpAny (model X.prog X.w) X.A (evalAll ((backToKw pos (keywordEach kws X.env)).map (·.2))) (AP X pins σ Q) X.xe s
section
variable {X : Cx} {CX : CXT} {k : Nat} {f C : Addr} {fd : FuncData} {ps ks : List Str} {sp : Sp} {E : XK} {x m : Str} {p pos apos kpos : Pos} {e o : Expr} {es : List Expr} {kws : List Keyword} {te ta : TE} {t tk : TA} {nm : Option Str}
structure KBinds (K : PySem.W.Frag) (fd : FuncData) (ps ks : List Str) (g : List Value → List Value → List Value) (gV : List V → List V → List V) : Prop where
  to : ∀ (s : Shared) (us ws : List Value), K.In s.heap → (g us ws).length = ps.length → BindsTo s fd ⟨us, ks.zip ws⟩ (ps.zip (g us ws))
  rel : ∀ {vs : List V} {us : List Value} {zs : List V} {ws : List Value}, Vals vs us → Vals zs ws → Vals (gV vs zs) (g us ws)
def tCallK (sp : Sp) (gV : List V → List V → List V) (E : XK) (t tk : TA) : TE := fun σ H Q => t σ H fun vs H1 => tk σ H1 fun zs H2 => sp (gV vs zs) H2 Q E
variable {g : List Value → List Value → List Value} {gV : List V → List V → List V}
end
structure FnScope (N P : List Str) (sc : Scope) : Prop where
  kind : sc.kind = .function
  co : sc.isCoroutine = false
  gen : sc.isGenerator = false
  nd : N.Nodup
  pre : N.take P.length = P
  par : ∀ x ∈ P, sc.names.lookup x = some .local ∨ sc.names.lookup x = some .cell
  nofree : ∀ y ∈ sc.names, y.2 ≠ .free
theorem bindL_out {kindOf : Str → Option NameKind} {x : Str} : ∀ {binds : List (Str × Value)} {m : Str → Option Value}, (∀ v, (x, v) ∉ binds) → bindL kindOf binds m x = m x
  | [], _, _ => rfl
  | (n, v) :: r, m, h => by
    unfold bindL
    rw [bindL_out fun w hw => h w (List.mem_cons_of_mem _ hw)]
    split
    · have : x ≠ n := by rintro rfl; exact h v List.mem_cons_self
      simp [this]
    · rfl
theorem bindC_out {kindOf : Str → Option NameKind} {x : Str} : ∀ {binds : List (Str × Value)} {m : Str → Option Value}, (∀ v, (x, v) ∉ binds) → bindC kindOf binds m x = m x
  | [], _, _ => rfl
  | (n, v) :: r, m, h => by
    unfold bindC
    rw [bindC_out fun w hw => h w (List.mem_cons_of_mem _ hw)]
    split
    · rfl
    · have : x ≠ n := by rintro rfl; exact h v List.mem_cons_self
      simp [this]
theorem bindL_get {kindOf : Str → Option NameKind} {x : Str} {v : Value} : ∀ {P : List Str} {vs : List Value} {i : Nat} {m : Str → Option Value}, P.Nodup → P[i]? = some x → vs[i]? = some v → kindOf x = some .local →
    bindL kindOf (P.zip vs) m x = some v
  | [], _, _, _, _, h, _, _ => by simp at h
  | _ :: _, [], _, _, _, _, h, _ => by simp at h
  | p :: P, w :: vs, 0, m, nd, h1, h2, hk => by
    simp at h1 h2; subst h1; subst h2
    show bindL kindOf ((p, w) :: P.zip vs) m p = _
    unfold bindL
    rw [bindL_out fun v hv => (List.nodup_cons.mp nd).1 (List.of_mem_zip hv).1, if_pos hk]
    simp
  | p :: P, w :: vs, i + 1, m, nd, h1, h2, hk => by
    show bindL kindOf ((p, w) :: P.zip vs) m x = _
    unfold bindL
    exact bindL_get (i := i) (List.nodup_cons.mp nd).2 (by simpa using h1) (by simpa using h2) hk
theorem bindC_get {kindOf : Str → Option NameKind} {x : Str} {v : Value} : ∀ {P : List Str} {vs : List Value} {i : Nat} {m : Str → Option Value}, P.Nodup → P[i]? = some x → vs[i]? = some v → kindOf x ≠ some .local →
    bindC kindOf (P.zip vs) m x = some v
  | [], _, _, _, _, h, _, _ => by simp at h
  | _ :: _, [], _, _, _, _, h, _ => by simp at h
  | p :: P, w :: vs, 0, m, nd, h1, h2, hk => by
    simp at h1 h2; subst h1; subst h2
    show bindC kindOf ((p, w) :: P.zip vs) m p = _
    unfold bindC
    rw [bindC_out fun v hv => (List.nodup_cons.mp nd).1 (List.of_mem_zip hv).1, if_neg hk]
    simp
  | p :: P, w :: vs, i + 1, m, nd, h1, h2, hk => by
    show bindC kindOf ((p, w) :: P.zip vs) m x = _
    unfold bindC
    exact bindC_get (i := i) (List.nodup_cons.mp nd).2 (by simpa using h1) (by simpa using h2) hk
def start (N : List Str) (vs : List V) : St := vs.map some ++ List.replicate (N.length - vs.length) none
def cxOf (CX : CXT) (P : Program) (w : World) (K : PySem.W.Frag) (mg : Str → Option Value) (base : Heap) (N : List Str) (qual : Str) (scope : Scope) (f : Addr) (cd : Value) (A : Around) (outer : List Env) (s : Shared) (H : Hp) (E : XK) : Cx where
  prog := P
  w := w
  K := K
  mg := mg
  base := base
  A := A.deeper (envOfC qual scope s.heap.objs.size f cd)
  N := N
  s₀ := s
  H₀ := H
  env := envOfC qual scope s.heap.objs.size f cd
  outer := outer
  stack := envOfC qual scope s.heap.objs.size f cd :: outer
  ex := []
  calm := true
  fn := fun _ => true
  pn := []
  xe := fun e s' => wpAny (model P w) (A.deeper (envOfC qual scope s.heap.objs.size f cd)) (leaving (envOfC qual scope s.heap.objs.size f cd) e) (fun _ s'' => CX outer H s E e s'') (fun e' s'' => CX outer H s E e' s'') s'
theorem cell_has {sc : Scope} {n : Nat} {x : Str} (h : sc.names.lookup x = some .cell) : ∃ c, (cellsFrom n sc.names []).lookup x = some c := by
  have q := PySem.W.cellsFrom_some sc.names n [] (.inl h)
  exact Option.isSome_iff_exists.mp q
theorem inv_start {CX : CXT} {P : Program} {w : World} {K : PySem.W.Frag} {mg : Str → Option Value} {base : Heap} {N ps : List Str} {qual : Str} {scope : Scope} {f : Addr} {cd : Value} {A : Around} {outer : List Env} {s s1 : Shared} {H : Hp} {E : XK} {us : List Value} {vs : List V}
    (S : FnScope N ps scope) (hd : A.handled = none) (e0 : Env0 P w K mg base A outer s H) (hl : vs.length = ps.length) (r : Vals vs us)
    (x : InCallC s s.heap.objs.size (bindL (envOfC qual scope s.heap.objs.size f cd).kindOf (ps.zip us) fun _ => none) (cellsFrom (s.heap.objs.size + 1) scope.names []) (bindC (envOfC qual scope s.heap.objs.size f cd).kindOf (ps.zip us) fun _ => none) s1) :
    Inv (cxOf CX P w K mg base N qual scope f cd A outer s H E) [] (start N vs) H s1 := by
  have hpl : ps.length ≤ N.length := by have := congrArg List.length S.pre; rw [List.length_take] at this; omega
  obtain ⟨h1, tk, rfl, hk⟩ := x.done
  have noA : ∀ b : Addr, b ∉ (cxOf CX P w K mg base N qual scope f cd A outer s H E).ex := fun b z => absurd (show b ∈ ([] : List Addr) from z) (by simp)
  refine ⟨⟨e0.mod, S.kind, rfl, rfl, Nat.le_refl _, fun y z c h1 h2 => ?_, fun y hy => ?_, fun y c _ h => ?_, fun _ => hd, Around.frames_deeper e0.frames, .inr ⟨rfl, rfl⟩, fun b z => absurd z (noA b), e0.bs, e0.bsz, fun b _ _ => noA b, fun b z => absurd z (noA b), e0.funs, e0.frf⟩,
    rfl, e0.bare, Un.kept hk, ⟨_, x.toInCall.ns, fun i y v h1 h2 h3 => ?_⟩, fun y c h => ⟨_, x.cell y c h⟩, e0.hok.fresh (Nat.le_refl _), fun y c h => ?_, fun p hp => absurd (show p ∈ ([] : List (Addr × Obj)) from hp) (by simp), e0.hok.kept hk, ?_⟩
  · exact name_of_addr x.apart (PySem.mem_of_lookup h1) (PySem.mem_of_lookup h2)
  · have hy : scope.names.lookup y = some .cell ∨ scope.names.lookup y = some .free := hy
    rcases hy with hy | hy
    · exact cell_has hy
    · exact absurd rfl (S.nofree _ (PySem.mem_of_lookup hy))
  · exact Nat.le_of_lt (x.above y c (PySem.mem_of_lookup h))
  · have hi : i < vs.length := by
      unfold start at h2
      by_cases hi : i < vs.length
      · exact hi
      · rw [List.getElem?_append_right (by simpa using hi)] at h2
        rw [List.getElem?_replicate] at h2
        split at h2 <;> cases h2
    have ha : vs[i]? = some v := by
      unfold start at h2
      rw [List.getElem?_append_left (by simpa using hi), List.getElem?_map] at h2
      cases e : vs[i]? with
      | none => rw [e] at h2; cases h2
      | some a => rw [e] at h2; cases h2; rfl
    obtain ⟨u, hu, rv⟩ := r.get ha
    have hp : ps[i]? = some y := by
      rw [← S.pre, List.getElem?_take_of_lt (by omega)]; exact h1
    have ndP : ps.Nodup := by rw [← S.pre]; exact S.nd.sublist (List.take_sublist _ _)
    refine ⟨u, rv, ?_⟩
    rcases S.par y (List.mem_of_getElem? hp) with k | k
    · exact .inl ⟨k, bindL_get ndP hp hu k⟩
    · obtain ⟨c, e⟩ := cell_has (n := s.heap.objs.size + 1) k
      refine .inr ⟨.inl k, c, e, ?_⟩
      have q := x.cell y c e
      rw [bindC_get ndP hp hu (by show scope.names.lookup y ≠ _; rw [k]; decide)] at q
      exact q
  · exact e0.hok.fresh (Nat.le_of_lt (x.above y c (PySem.mem_of_lookup h)))
  · unfold start
    show _ = N.length
    rw [List.length_append, List.length_map, List.length_replicate]
    omega
theorem fn_of {CX : CXT} {P : Program} {w : World} {K : PySem.W.Frag} {mg : Str → Option Value} {base : Heap} {k : Nat} {f : Addr} {name qual : Str} {params : Arguments} {body : List Stmt} {scope : Scope} {dV kV doc pm cdv ct oc : Value} {an od : Option Addr}
    {osl : Array (Option Value)} {N ps : List Str} {sp : Sp} (lk : K.lookup f = some ⟨oc, od, .func (PySem.W.fnOf name qual params body scope dV kV doc pm an cdv ct), osl⟩) (hcd : PySem.W.codeIn K cdv qual = true) (S : FnScope N ps scope)
    (len : ∀ vs H Q E, sp vs H Q E → vs.length = ps.length)
    (hbody : ∀ (A : Around) (outer : List Env) (s : Shared) (H : Hp) (vs : List V) (Q : VK) (E : XK), Room k (A.deeper (envOfC qual scope s.heap.objs.size f cdv)) → sp vs H Q E →
      ∃ t, PSs (cxOf CX P w K mg base N qual scope f cdv A outer s H E) body t ∧ t { nx := fun _ H' => Q .non H', rt := Q } (start N vs) H) :
    FnOk P w K mg base CX (k + 1) f (PySem.W.fnOf name qual params body scope dV kV doc pm an cdv ct) ps sp := by
  refine ⟨len, fun A outer s H args us vs Q E hr e0 hb r hsp => ?_⟩
  have hl := len _ _ _ _ hsp
  have KX : K.In s.heap := e0.mod.kin.keeps fun b o e => (e0.bs b o e).1
  have lim : s.heap.NoLimit := e0.mod.nolimit.keeps fun b o e => (e0.bs b o e).1
  have hkind : ∀ y ∈ ps.zip us, scope.names.lookup y.1 = some .local ∨ (scope.names.lookup y.1 = some .cell ∧ ((cellsFrom (s.heap.objs.size + 1) scope.names []).lookup y.1).isSome = true) := fun ⟨n, v⟩ hy => by
    rcases S.par n (List.of_mem_zip hy).1 with q | q
    · exact .inl q
    · exact .inr ⟨q, PySem.W.cellsFrom_some _ _ _ (.inl q)⟩
  refine codeAny_call_function hr.depth (KX _ _ lk) rfl S.co S.gen rfl (PySem.W.codeRec_of KX hcd) (hb _ _ _ _ ?_)
  refine wpAny_newFunctionEnv_cells S.kind hkind fun env he s1 x => ?_
  subst he
  refine ⟨lim.keeps x.toInCall.keep, codeAny_func ?_⟩
  obtain ⟨t, ht, hq⟩ := hbody A outer s H vs Q E (hr.deeper _) hsp
  have I : Inv (cxOf CX P w K mg base N qual scope f cdv A outer s H E) [] (start N vs) H s1 := inv_start S hr.hd e0 hl r x
  refine wpAny_mono (ht [] s1 (start N vs) H _ I hq) (fun fl s' hs => ?_) fun e s' hs => hs
  have fin : ∀ {σ' : St} {H' : Hp} {v : V} {u : Value}, Inv (cxOf CX P w K mg base N qual scope f cdv A outer s H E) [] σ' H' s' → RelV v u → Q v H' → CE outer P w H s Q u s' :=
    fun {σ' H' v u} J rv q => ⟨v, H', J.os, J.bare, J.base, J.hok, rv, q⟩
  cases fl with
  | ret u =>
    obtain ⟨v, σ', H', J, rv, q⟩ := hs
    exact fin J rv q
  | next =>
    obtain ⟨σ', H', J, q⟩ := hs
    exact fin (v := V.non) (u := Value.none) J rfl q
  | brk =>
    obtain ⟨_, _, _, q⟩ := hs
    exact False.elim q
  | cont =>
    obtain ⟨_, _, _, q⟩ := hs
    exact False.elim q
end L2
namespace L2
open PySem PySem.Spec PyProof.Rows
section
variable {X : Cx} {x : Str} {p pos : Pos} {e : Expr} {es : List Expr} {t : TA} {id T : String} {r : List V → Hp → VK → Prop}
def tCB (r : List V → Hp → VK → Prop) (t : TA) : TE := fun σ H Q => t σ H fun vs H1 => r vs H1 Q
theorem pe_callB (hc : CallR X (.builtin id) r) (hg : Gl X x) (hm : X.mg x = none) (hv : bootBuiltins x = some (.builtin id)) (ha : PA X (e :: es) t) (hn : x ≠ "__name__" := by decide) (hdb : (x == ("__debug__" : Str)) = false := by decide)
    (he : starEach (e :: es) X.env = (false, eval e X.env) :: starEach es X.env := by rfl) (hpl : (backTo pos (starEach es X.env)).any (·.1) = false := by rfl) : PE X (.Call (.Name x p) (e :: es) [] pos) (tCB r t) := by
  intro pins s σ H Q I h
  refine wpAny_Call_Name_kw (ld_blt I hg hm hv ?_ hn hdb)
  exact PyProof.Rows.callWith_builtin1 (thn (ha pos pins s σ H _ I h) fun us s1 ⟨vs, H1, I1, r1, q1⟩ => hc pins s1 σ H1 vs us Q I1 r1 q1) he hpl
theorem pe_callTy (hc : CallR X (.type T) r) (hg : Gl X x) (hm : X.mg x = none) (hv : bootBuiltins x = some (.type T)) (ha : PA X (e :: es) t) (hn : x ≠ "__name__" := by decide) (hdb : (x == ("__debug__" : Str)) = false := by decide)
    (he : starEach (e :: es) X.env = (false, eval e X.env) :: starEach es X.env := by rfl) (hpl : (backTo pos (starEach es X.env)).any (·.1) = false := by rfl) : PE X (.Call (.Name x p) (e :: es) [] pos) (tCB r t) := by
  intro pins s σ H Q I h
  refine wpAny_Call_Name_kw (ld_blt I hg hm hv ?_ hn hdb)
  exact PyProof.Rows.callWith_type1 (thn (ha pos pins s σ H _ I h) fun us s1 ⟨vs, H1, I1, r1, q1⟩ => hc pins s1 σ H1 vs us Q I1 r1 q1) he hpl
end
end L2
namespace HT
open PySem PyProof.Rows
def lexLt : List Int → List Int → Bool
  | [], [] => false
  | [], _ :: _ => true
  | _ :: _, [] => false
  | x :: xs, y :: ys => if x = y then lexLt xs ys else decide (x < y)
section
open PySem.SeqAt
open PySem.AutoSeq1 (wpAny_loadPart')
open PySem.MeetsSeq PySem.MeetsSeq2 PySem.MeetsSeq3
end
section
variable {prog : Program} {w : World} {A : Around} {E : Value → Shared → Prop} {s : Shared}
def sIx (n d : Nat) : Option Int → Nat
  | none => d
  | some v => if v < 0 then (v + (n : Int)).toNat else min v.toNat n
theorem sIx_none (n d : Nat) : sIx n d none = d := rfl
end
end HT
namespace L2
open PySem PySem.Spec PyProof.Rows
abbrev TO := St → Hp → (Option Int → Hp → Prop) → Prop
def PO (X : Cx) (e : Option Expr) (t : TO) : Prop :=
  ∀ (pins : List (Addr × Obj)) (s : Shared) (σ : St) (H : Hp) (Q : Option Int → Hp → Prop), Inv X pins σ H s → t σ H Q →
    wpAny (model X.prog X.w) X.A (evalPart e X.env) (fun u s' => ∃ o H', Inv X pins σ H' s' ∧ IsPart u o ∧ Q o H') X.xe s
def tNoPart : TO := fun _ H Q => Q none H
def tPart (t : TE) : TO := fun σ H Q => t σ H fun x H1 => ∃ i, x = .int i ∧ Q (some i) H1
theorem intsAre_of {ns : List Int} : ∀ {us : List Value}, Vals (ns.map V.int) us → IntsAre us ns := by
  induction ns with
  | nil => intro us r; rw [List.map_nil] at r; cases r; exact .nil
  | cons n ns ih =>
    intro us r
    rw [List.map_cons] at r
    cases r with
    | cons r1 r2 =>
      obtain ⟨t, e⟩ := r1
      subst e
      exact .cons n t (ih r2)
section
variable {X : Cx} {e : Expr} {te : TE} {lo hi : Option Expr} {tl th : TO} {pos p2 : Pos}
theorem po_none : PO X none tNoPart := by
  intro pins s σ H Q I h
  rw [evalPart_none]
  exact wpAny_pure ⟨none, H, I, .none, h⟩
theorem po_some (h : PE X e te) : PO X (some e) (tPart te) := by
  intro pins s σ H Q I hw
  rw [evalPart_some]
  refine thn (h pins s σ H _ I hw) fun u s1 ⟨x, H1, I1, r1, q1⟩ => ?_
  obtain ⟨i, rfl, q⟩ := q1
  obtain ⟨t, rfl⟩ := r1
  exact ⟨some i, H1, I1, .int i t, q⟩
def SlR (X : Cx) (r : V → Option Int → Option Int → Hp → VK → Prop) : Prop :=
  ∀ (pins : List (Addr × Obj)) (s : Shared) (σ : St) (H : Hp) (x : V) (v vl vu : Value) (lo hi : Option Int) (sl : Addr) (Q : VK), Inv X pins σ H s → RelV x v → s.heap.IsSliceOf sl vl vu .none → IsPart vl lo → IsPart vu hi → r x lo hi H Q →
    ∃ T id, typeLookup (.type T) "__getitem__" = pure (some (.builtin id)) ∧ s.TypeIs v T ∧ wpAny (model X.prog X.w) X.A (getItem v (.ref sl)) (EP X pins σ Q) X.xe s
theorem SlR.or {r r' : V → Option Int → Option Int → Hp → VK → Prop} (h : SlR X r) (h' : SlR X r') : SlR X (fun x lo hi H Q => r x lo hi H Q ∨ r' x lo hi H Q) := by
  intro pins s σ H x v vl vu lo hi sl Q I rx hs pl pu q
  rcases q with q | q
  · exact h pins s σ H x v vl vu lo hi sl Q I rx hs pl pu q
  · exact h' pins s σ H x v vl vu lo hi sl Q I rx hs pl pu q
def tSl (r : V → Option Int → Option Int → Hp → VK → Prop) (te : TE) (tl th : TO) : TE := fun σ H Q => te σ H fun x H1 => tl σ H1 fun l H2 => th σ H2 fun u H3 => r x l u H3 Q
theorem pe_slice {r : V → Option Int → Option Int → Hp → VK → Prop} (hr : SlR X r) (he : PE X e te) (hl : PO X lo tl) (hu : PO X hi th) : PE X (.Subscript e (.Slice lo hi none p2) pos) (tSl r te tl th) := by
  intro pins s σ H Q I h
  refine Subscript_ (thn (he pins s σ H _ I h) fun v s1 ⟨x, H1, I1, r1, q1⟩ => ?_)
  refine wpAny_Slice (thn (hl pins s1 σ H1 _ I1 q1) fun vl s2 ⟨l, H2, I2, pl, q2⟩ => thn (hu pins s2 σ H2 _ I2 q2) fun vu s3 ⟨u, H3, I3, pu, q3⟩ => ?_)
  rw [evalPart_none]
  refine wpAny_pure ?_
  have I4 : Inv X pins σ H3 { s3 with heap := s3.heap.push { cls := .type "slice", data := .fields #[vl, vu, .none] } } := I3.kept (t' := s3.toks) fun b ob q => Heap.get?_push_of_some _ q
  obtain ⟨T, id, hT, ht, hg⟩ := hr pins { s3 with heap := s3.heap.push { cls := .type "slice", data := .fields #[vl, vu, .none] } } σ H3 x v vl vu l u s3.heap.objs.size Q I4 r1 (Heap.IsSliceOf.new ..) pl pu q3
  show wpAny (model X.prog X.w) X.A (subscriptTail e (.Slice lo hi none p2) v (.ref s3.heap.objs.size)) (EP X pins σ Q) X.xe { s3 with heap := s3.heap.push { cls := .type "slice", data := .fields #[vl, vu, .none] } }
  exact tail_any (ops := [.ref s3.heap.objs.size, v]) ht hT hg (by with_unfolding_all rfl)
def cutV (xs : List V) (lo hi : Option Int) : List V := (xs.drop (HT.sIx xs.length 0 lo)).take (HT.sIx xs.length xs.length hi - HT.sIx xs.length 0 lo)
theorem cutV_length (xs : List V) (lo hi : Option Int) : (cutV xs lo hi).length ≤ xs.length := by
  unfold cutV
  rw [List.length_take, List.length_drop]
  omega
def rSlT (K : PySem.W.Frag) : V → Option Int → Option Int → Hp → VK → Prop := fun x lo hi H Q => ∃ a xs, x = .ref a ∧ SqT K H a xs ∧
  ¬ (HT.sIx xs.length 0 lo = 0 ∧ HT.sIx xs.length xs.length hi = xs.length) ∧ ∀ p, H p = none → Q (.ref p) (upd H p (.tup (cutV xs lo hi)))
def rLtT (K : PySem.W.Frag) : R2 := fun x y H Q => ∃ a b ns ms, x = .ref a ∧ y = .ref b ∧ SqT K H a (ns.map V.int) ∧ SqT K H b (ms.map V.int) ∧ Q (.bl (HT.lexLt ns ms)) H
def rCatT (K : PySem.W.Frag) : R2 := fun x y H Q => ∃ a b xs ys, x = .ref a ∧ y = .ref b ∧ SqT K H a xs ∧ SqT K H b ys ∧ xs ≠ [] ∧ xs.length + ys.length ≤ sizeLine ∧
  (ys = [] → Q (.ref a) H) ∧ (ys ≠ [] → ∀ p, H p = none → Q (.ref p) (upd H p (.tup (xs ++ ys))))
end
end L2
namespace L2
open PySem PySem.Spec PyProof.Rows
def ixN (n : Nat) (i : Int) : Option Nat := if 0 ≤ i then (if i < n then some i.toNat else none) else if -(n : Int) ≤ i then some (i + n).toNat else none
def atI {α : Type} (xs : List α) (i : Int) : Option α := (ixN xs.length i).bind fun j => xs[j]?
theorem ixN_seq {n : Nat} {i : Int} {j : Nat} (h : ixN n i = some j) : seqIndex? i n = some j ∧ j < n ∧ -(n : Int) ≤ i ∧ i < n := by
  unfold ixN at h
  by_cases h0 : 0 ≤ i
  · rw [if_pos h0] at h
    by_cases h1 : i < n
    · rw [if_pos h1] at h
      have e : i.toNat = j := Option.some.inj h
      exact ⟨by rw [seqIndex_of h0 h1, e], by omega, by omega, h1⟩
    · rw [if_neg h1] at h; cases h
  · rw [if_neg h0] at h
    by_cases h1 : -(n : Int) ≤ i
    · rw [if_pos h1] at h
      have e : (i + n).toNat = j := Option.some.inj h
      exact ⟨by rw [seqIndex_neg (by omega) h1, e], by omega, h1, by omega⟩
    · rw [if_neg h1] at h; cases h
theorem atI_get {α : Type} {xs : List α} {i : Int} {v : α} (h : atI xs i = some v) : ∃ j, seqIndex? i xs.length = some j ∧ xs[j]? = some v ∧ j < xs.length ∧ -(xs.length : Int) ≤ i ∧ i < xs.length := by
  unfold atI at h
  cases e : ixN xs.length i with
  | none => rw [e] at h; cases h
  | some j =>
    rw [e] at h
    obtain ⟨h1, h2, h3, h4⟩ := ixN_seq e
    exact ⟨j, h1, h, h2, h3, h4⟩
theorem atI_nat {α : Type} {xs : List α} {j : Nat} {v : α} (h : xs[j]? = some v) : atI xs (j : Int) = some v := by
  have hj : j < xs.length := (List.getElem?_eq_some_iff.mp h).1
  have e : ixN xs.length (j : Int) = some j := by
    unfold ixN
    rw [if_pos (by omega), if_pos (by omega)]; simp
  unfold atI; rw [e]; exact h
def PlainIx (b : Expr) : Prop := ∀ o i, subscripted b false o i = operate [o, i] (getItem o i)
def IxR (X : Cx) (r : R2) : Prop :=
  ∀ (value slice : Expr) (pins : List (Addr × Obj)) (s : Shared) (σ : St) (H : Hp) (x y : V) (v u : Value) (Q : VK), Inv X pins σ H s → RelV x v → RelV y u → r x y H Q →
    subscripted slice false v u = operate [v, u] (getItem v u) → wpAny (model X.prog X.w) X.A (subscriptTail value slice v u) (EP X pins σ Q) X.xe s
def MtR (X : Cx) (id : String) (r : V → List V → Hp → VK → Prop) : Prop :=
  ∀ (pins : List (Addr × Obj)) (s : Shared) (σ : St) (H : Hp) (x : V) (xs : List V) (v : Value) (us : List Value) (Q : VK), Inv X pins σ H s → RelV x v → Vals xs us → r x xs H Q →
    wpAny (model X.prog X.w) X.A (call (.builtin id) (v :: us)) (EP X pins σ Q) X.xe s
section
variable {X : Cx} {a b : Expr} {ta tb : TE} {pos : Pos}
theorem IxR.or {r r' : R2} (h : IxR X r) (h' : IxR X r') : IxR X (fun x y H Q => r x y H Q ∨ r' x y H Q) := by
  intro value slice pins s σ H x y v u Q I rx ry q hs
  rcases q with q | q
  · exact h value slice pins s σ H x y v u Q I rx ry q hs
  · exact h' value slice pins s σ H x y v u Q I rx ry q hs
theorem MtR.or {id : String} {r r' : V → List V → Hp → VK → Prop} (h : MtR X id r) (h' : MtR X id r') : MtR X id (fun x xs H Q => r x xs H Q ∨ r' x xs H Q) := by
  intro pins s σ H x xs v us Q I rx rs q
  rcases q with q | q
  · exact h pins s σ H x xs v us Q I rx rs q
  · exact h' pins s σ H x xs v us Q I rx rs q
theorem pe_ix {r : R2} (hr : IxR X r) (ha : PE X a ta) (hb : PE X b tb) (hs : PlainIx b) : PE X (.Subscript a b pos) (tOp r ta tb) := by
  intro pins s σ H Q I h
  exact Subscript_ (binT ha hb I h fun v u s2 x y H2 I2 rx ry q => hr a b pins s2 σ H2 x y v u Q I2 rx ry q (hs _ _))
def rIxL (K : PySem.W.Frag) : R2 := fun x y H Q => ∃ p xs i v, x = .ref p ∧ y = .int i ∧ SqL K H p xs ∧ atI xs i = some v ∧ Q v H
def rIxT (K : PySem.W.Frag) : R2 := fun x y H Q => ∃ p xs i v, x = .ref p ∧ y = .int i ∧ SqT K H p xs ∧ atI xs i = some v ∧ Q v H
def rIxS : R2 := fun x y H Q => ∃ z i c, x = .str z ∧ y = .int i ∧ z.length ≤ sizeLine ∧ atI z.cps.toList i = some c ∧ Q (.str ⟨#[c]⟩) H
theorem ix_list : IxR X (rIxL X.K) := by
  intro value slice pins s σ H x y v u Q I rx ry h hs
  obtain ⟨p, xs, i, z, rfl, rfl, hq, he, q⟩ := h
  cases rx
  obtain ⟨t, rfl⟩ := ry
  obtain ⟨its, r, pl, hz⟩ := I.list hq
  obtain ⟨j, h1, h2, h3, h4, h5⟩ := atI_get he
  obtain ⟨w, ew, rw'⟩ := r.get h2
  have hl := r.length
  have hn := line63
  have fin : EP X pins σ Q w s := ⟨z, H, I, rw', q⟩
  by_cases h0 : 0 ≤ i
  · have hj : i.toNat = j := by
      rw [seqIndex_of h0 h5] at h1
      exact Option.some.inj h1
    exact item_listR pl.isList h0 (by omega) (by rw [hj]; simpa using ew) fin hs
  · have hj : (i + (its.toArray.size : Int)).toNat = j := by
      rw [seqIndex_neg (by omega) h4] at h1
      rw [List.size_toArray, ← hl]
      exact Option.some.inj h1
    exact subscriptTail_builtinR (x := w) pl.isList.typeIs slot_list_getitem.lookup
      (wpAny_getItem_list_neg (Q := fun r s' => r = w ∧ EP X pins σ Q r s') pl.isList (by omega) (by rw [List.size_toArray] <;> omega) (by omega) (by rw [hj]; simpa using ew) ⟨rfl, fin⟩) hs
theorem ix_tup : IxR X (rIxT X.K) := by
  intro value slice pins s σ H x y v u Q I rx ry h hs
  obtain ⟨p, xs, i, z, rfl, rfl, hq, he, q⟩ := h
  cases rx
  obtain ⟨t, rfl⟩ := ry
  obtain ⟨its, r, pl, hz⟩ := I.tuple hq
  obtain ⟨j, h1, h2, h3, h4, h5⟩ := atI_get he
  obtain ⟨w, ew, rw'⟩ := r.get h2
  have hl := r.length
  have hn := line63
  have fin : EP X pins σ Q w s := ⟨z, H, I, rw', q⟩
  exact subscriptTail_builtinR (x := w) pl.typeIs slot_tuple_getitem.lookup
    (getItem_tuple (j := j) (Q := fun r s' => r = w ∧ EP X pins σ Q r s') pl (by omega) (by omega) (by rw [List.size_toArray, ← hl]; exact h1) (by simpa using ew) ⟨rfl, fin⟩) hs
theorem ix_str : IxR X rIxS := by
  intro value slice pins s σ H x y v u Q I rx ry h hs
  obtain ⟨z, i, c, rfl, rfl, hz, he, q⟩ := h
  obtain ⟨t, rfl⟩ := rx
  obtain ⟨t', rfl⟩ := ry
  obtain ⟨j, h1, h2, h3, h4, h5⟩ := atI_get he
  have hl : z.cps.toList.length = z.length := by simp [Str.length]
  rw [hl] at h1 h4 h5
  have hn := line63
  exact tail_any (typeIs_str s z t) slot_str_getitem.lookup (getItem_str (c := c) (by
    have e1 : decide (i < -(2 ^ 63 : Int)) = false := decide_eq_false (by omega)
    have e2 : decide (i ≥ 2 ^ 63) = false := decide_eq_false (by omega)
    rw [e1, e2, Bool.or_false]) (by rw [h1]; simpa using h2) ⟨.str ⟨#[c]⟩, H, I.tok _, ⟨_, rfl⟩, q⟩) hs
def rIx (K : PySem.W.Frag) : R2 := fun x y H Q => rIxL K x y H Q ∨ rIxT K x y H Q ∨ rIxS x y H Q
theorem ix_seq : IxR X (rIx X.K) := ix_list.or (ix_tup.or ix_str)
theorem mapSeq_set (its : List Value) (n j : Nat) (u : Value) : Obj.mapSeq (·.setIfInBounds j u) { cls := .type "list", data := .seq its.toArray n } = { cls := .type "list", data := .seq (its.set j u).toArray n } := by
  simp [Obj.mapSeq]
theorem Inv.lst {pins : List (Addr × Obj)} {σ : St} {H : Hp} {s : Shared} {p : Addr} {xs : List V} (I : Inv X pins σ H s) (h : H p = some (.lst xs)) :
    ∃ (its : List Value) (n : Nat), Vals xs its ∧ s.heap.get? p = some { cls := .type "list", data := .seq its.toArray n } ∧ xs.length ≤ sizeLine := by
  obtain ⟨z, its, n, r, e⟩ := I.hok p _ h
  exact ⟨its, n, r, e, z⟩
theorem Inv.lstUpd {pins : List (Addr × Obj)} {σ : St} {H : Hp} {s : Shared} {p : Addr} {xs ys : List V} {its its' : List Value} {n n' : Nat} {f : Obj → Obj} (I : Inv X pins σ H s) (h : H p = some (.lst xs))
    (ho : s.heap.get? p = some { cls := .type "list", data := .seq its.toArray n }) (hf : f { cls := .type "list", data := .seq its.toArray n } = { cls := .type "list", data := .seq its'.toArray n' }) (r : Vals ys its') (hz : ys.length ≤ sizeLine) (t : Nat) :
    Inv X pins σ (upd H p (.lst ys)) { s with heap := s.heap.update p f, toks := t } := by
  have e : (s.heap.update p f).get? p = some { cls := .type "list", data := .seq its'.toArray n' } := by
    rw [Heap.get?_update_self f ho (by rw [hf] <;> rfl), hf]
  refine I.write (x := p) (e := p) (by rw [h]; trivial) (.inl rfl) (fun b u hb q => (Heap.get?_update_other _ _ (Ne.symm hb)).trans q) ⟨_, e⟩ ?_
  exact ⟨hz, its', n', r, e⟩
def rSetL : V → V → V → Hp → (Hp → Prop) → Prop := fun o i v H Q => ∃ p xs k j, o = .ref p ∧ i = .int k ∧ H p = some (.lst xs) ∧ ixN xs.length k = some j ∧ Q (upd H p (.lst (xs.set j v)))
theorem set_list : PSet X rSetL := by
  intro pins s σ H o i v ov iv u Q I ro ri rv h
  obtain ⟨p, xs, k, j, rfl, rfl, hp, hj, q⟩ := h
  cases ro
  obtain ⟨t, rfl⟩ := ri
  obtain ⟨its, n, r, ho, hz⟩ := I.lst hp
  obtain ⟨h1, h2, h3, h4⟩ := ixN_seq hj
  have hl := r.length
  have hn := line63
  have I' : Inv X pins σ (upd H p (.lst (xs.set j v))) { s with heap := s.heap.update p (Obj.mapSeq (·.setIfInBounds j u)) } :=
    I.lstUpd hp ho (mapSeq_set its n j u) (r.set rv j) (by rw [List.length_set]; exact hz) s.toks
  by_cases h0 : 0 ≤ k
  · have hk : k.toNat = j := by
      rw [seqIndex_of h0 h4] at h1
      exact Option.some.inj h1
    exact PySem.W.ki_setAt ho h0 (by omega) (by rw [List.size_toArray, ← hl]; exact h4) (by rw [hk]; exact ⟨_, I', q⟩)
  · have hk : (k + (its.toArray.size : Int)).toNat = j := by
      rw [seqIndex_neg (by omega) h3] at h1
      rw [List.size_toArray, ← hl]
      exact Option.some.inj h1
    exact PySem.W.ki_setBack ho (by omega) (by rw [List.size_toArray, ← hl]; exact h3) (by omega) (by rw [hk]; exact ⟨_, I', q⟩)
theorem slice_bounds (lo hi : Option Int) (n : Nat) : (sliceBounds lo hi none n).1 = ((HT.sIx n 0 lo : Nat) : Int) ∧ (sliceBounds lo hi none n).2.1 = ((HT.sIx n n hi : Nat) : Int) ∧ (sliceBounds lo hi none n).2.2 = 1 := by
  refine ⟨?_, ?_, rfl⟩
  · cases lo with
    | none => simp [sliceBounds, HT.sIx]
    | some i =>
      simp only [sliceBounds, HT.sIx, Option.getD_none, show (1 : Int) > 0 by decide, if_true]
      by_cases h : i < 0
      · simp only [h, if_true] <;> omega
      · simp only [h, if_false] <;> omega
  · cases hi with
    | none => simp [sliceBounds, HT.sIx]
    | some i =>
      simp only [sliceBounds, HT.sIx, Option.getD_none, show (1 : Int) > 0 by decide, if_true]
      by_cases h : i < 0
      · simp only [h, if_true] <;> omega
      · simp only [h, if_false] <;> omega
theorem slicePick_cut (its : List Value) (lo hi : Option Int) : slicePick its.toArray lo hi none = ((its.drop (HT.sIx its.length 0 lo)).take (HT.sIx its.length its.length hi - HT.sIx its.length 0 lo)).toArray := by
  obtain ⟨h1, h2, h3⟩ := slice_bounds lo hi its.toArray.size
  unfold slicePick
  rw [h1, h2, h3]
  simp only [sliceRange_one, pick_run, List.size_toArray] <;> rfl
def rSlL (K : PySem.W.Frag) : V → Option Int → Option Int → Hp → VK → Prop := fun x lo hi H Q => ∃ a xs, x = .ref a ∧ SqL K H a xs ∧ ∀ p, H p = none → Q (.ref p) (upd H p (.lst (cutV xs lo hi)))
theorem sl_list : SlR X (rSlL X.K) := by
  intro pins s σ H x v vl vu lo hi sl Q I rx hs pl pu h
  obtain ⟨a, xs, rfl, hx, q⟩ := h
  cases rx
  obtain ⟨its, r, ht, hz⟩ := I.list hx
  have hlen := r.length
  refine ⟨"list", _, slot_list_getitem.lookup, ht.isList.typeIs, ?_⟩
  refine wpAny_getItem_list_slice ht.isList hs pl pu .none (by simp) ?_ (by rw [List.size_toArray] <;> omega)
  rw [slicePick_cut, ← hlen]
  refine ⟨.ref s.heap.objs.size, _, I.laid (t' := s.toks) (o := .lst (cutV xs lo hi)) (fun b ob q => Heap.get?_push_of_some _ q) (Nat.le_refl _) ?_, rfl, q _ (I.hok.fresh (Nat.le_refl _))⟩
  exact ⟨Nat.le_trans (cutV_length xs lo hi) hz, _, 0, (r.drop (HT.sIx xs.length 0 lo)).take (HT.sIx xs.length xs.length hi - HT.sIx xs.length 0 lo), Heap.get?_push_size _ rfl⟩
def flatV : V → Bool
  | .non => true
  | .bl _ => true
  | .int _ => true
  | .str _ => true
  | _ => false
def eqV : V → V → Bool
  | .non, .non => true
  | .bl a, .bl b => a == b
  | .bl a, .int b => (if a then 1 else 0) == b
  | .int a, .bl b => a == (if b then 1 else 0)
  | .int a, .int b => a == b
  | .str a, .str b => a == b
  | _, _ => false
theorem eqAt_V {A : Around} {s : Shared} {y x : V} {u v : Value} (ry : RelV y u) (rx : RelV x v) (fy : flatV y = true) (fx : flatV x = true) : SeqAt.EqAt A s u v (eqV y x) := by
  cases y with
  | non =>
    cases ry
    cases x with
    | non => cases rx; exact SeqAt.EqAt.same _
    | bl b => cases rx; exact SeqAt.EqAt.none_bool b
    | int b => obtain ⟨t, rfl⟩ := rx; exact SeqAt.EqAt.none_int b t
    | str b => obtain ⟨t, rfl⟩ := rx; exact SeqAt.EqAt.none_str b t
    | _ => exact absurd (show false = true from fx) Bool.false_ne_true
  | bl a =>
    cases ry
    cases x with
    | non => cases rx; exact SeqAt.EqAt.bool_none a
    | bl b => cases rx; exact SeqAt.EqAt.bool_bool a b
    | int b => obtain ⟨t, rfl⟩ := rx; exact SeqAt.EqAt.bool_int a b t
    | str b => obtain ⟨t, rfl⟩ := rx; exact SeqAt.EqAt.bool_str a b t
    | _ => exact absurd (show false = true from fx) Bool.false_ne_true
  | int a =>
    obtain ⟨t', rfl⟩ := ry
    cases x with
    | non => cases rx; exact SeqAt.EqAt.int_none a t'
    | bl b => cases rx; exact SeqAt.EqAt.int_bool a t' b
    | int b => obtain ⟨t, rfl⟩ := rx; exact SeqAt.EqAt.int_int a t' b t
    | str b => obtain ⟨t, rfl⟩ := rx; exact SeqAt.EqAt.int_str a t' b t
    | _ => exact absurd (show false = true from fx) Bool.false_ne_true
  | str a =>
    obtain ⟨t', rfl⟩ := ry
    cases x with
    | non => cases rx; exact SeqAt.EqAt.str_none a t'
    | bl b => cases rx; exact SeqAt.EqAt.str_bool a t' b
    | int b => obtain ⟨t, rfl⟩ := rx; exact SeqAt.EqAt.str_int a t' b t
    | str b => obtain ⟨t, rfl⟩ := rx; exact SeqAt.EqAt.str_str a t' b t
    | _ => exact absurd (show false = true from fx) Bool.false_ne_true
  | _ => exact absurd (show false = true from fy) Bool.false_ne_true
def eqU (x : V) (u : Value) : Bool := match u with
  | .none => eqV .non x
  | .bool b => eqV (.bl b) x
  | .int i _ => eqV (.int i) x
  | .str z _ => eqV (.str z) x
  | _ => false
theorem eqU_of {x y : V} {u : Value} (r : RelV y u) (f : flatV y = true) : eqU x u = eqV y x := by
  cases y with
  | non => cases r; rfl
  | bl b => cases r; rfl
  | int i => obtain ⟨t, rfl⟩ := r; rfl
  | str z => obtain ⟨t, rfl⟩ := r; rfl
  | _ => exact absurd (show false = true from f) Bool.false_ne_true
theorem any_eqU {x : V} : ∀ {xs : List V} {us : List Value}, Vals xs us → xs.all flatV = true → us.any (eqU x) = xs.any fun y => eqV y x
  | _, _, .nil, _ => rfl
  | y :: xs, u :: us, .cons r t, f => by
    rw [List.all_cons, Bool.and_eq_true] at f
    rw [List.any_cons, List.any_cons, eqU_of r f.1, any_eqU t f.2]
theorem mem_eqAt {A : Around} {s : Shared} {x : V} {v : Value} (rx : RelV x v) (fx : flatV x = true) : ∀ {xs : List V} {us : List Value}, Vals xs us → xs.all flatV = true → ∀ u ∈ us, SeqAt.EqAt A s u v (eqU x u)
  | _, _, .nil, _ => fun u hu => by cases hu
  | y :: xs, u :: us, .cons r t, f => fun u' hu => by
    rw [List.all_cons, Bool.and_eq_true] at f
    rcases List.mem_cons.mp hu with rfl | hu
    · rw [eqU_of r f.1]; exact eqAt_V r rx f.1 fx
    · exact mem_eqAt rx fx t f.2 u' hu
def inV (x : V) (xs : List V) : Bool := xs.any fun y => eqV y x
def rIn (K : PySem.W.Frag) (neg : Bool) : R2 := fun x y H Q => ∃ p xs, y = .ref p ∧ (SqL K H p xs ∨ SqT K H p xs) ∧ flatV x = true ∧ xs.all flatV = true ∧ Q (.bl (if neg then !inV x xs else inV x xs)) H
theorem op_in_seq : OpR X (compareOp .In) (rIn X.K false) := by
  intro pins s σ H x y v u Q I rx ry h
  obtain ⟨p, xs, rfl, hq, fx, fs, q⟩ := h
  cases ry
  rcases hq with hq | hq
  · obtain ⟨its, r, pl, hz⟩ := I.list hq
    refine SeqAt.in_listAt (eqU x) pl.isList (fun w hw => mem_eqAt rx fx r fs w (by simpa using hw)) ⟨.bl _, H, I, rfl, ?_⟩
    rw [show its.toArray.any (eqU x) = its.any (eqU x) by simp, any_eqU r fs]
    exact q
  · obtain ⟨its, r, pl, hz⟩ := I.tuple hq
    refine SeqAt.in_tupleAt (eqU x) pl (fun w hw => mem_eqAt rx fx r fs w (by simpa using hw)) ⟨.bl _, H, I, rfl, ?_⟩
    rw [show its.toArray.any (eqU x) = its.any (eqU x) by simp, any_eqU r fs]
    exact q
theorem op_notIn_seq : OpR X (compareOp .NotIn) (rIn X.K true) := by
  intro pins s σ H x y v u Q I rx ry h
  obtain ⟨p, xs, rfl, hq, fx, fs, q⟩ := h
  cases ry
  rcases hq with hq | hq
  · obtain ⟨its, r, pl, hz⟩ := I.list hq
    refine SeqAt.notIn_listAt (eqU x) pl.isList (fun w hw => mem_eqAt rx fx r fs w (by simpa using hw)) ⟨.bl _, H, I, rfl, ?_⟩
    rw [show its.toArray.any (eqU x) = its.any (eqU x) by simp, any_eqU r fs]
    exact q
  · obtain ⟨its, r, pl, hz⟩ := I.tuple hq
    refine SeqAt.notIn_tupleAt (eqU x) pl (fun w hw => mem_eqAt rx fx r fs w (by simpa using hw)) ⟨.bl _, H, I, rfl, ?_⟩
    rw [show its.toArray.any (eqU x) = its.any (eqU x) by simp, any_eqU r fs]
    exact q
theorem call_len_seq : CallR X (.builtin "len") (fun xs H Q => ∃ p ys, xs = [.ref p] ∧ (SqL X.K H p ys ∨ SqT X.K H p ys) ∧ Q (.int ys.length) H) := by
  intro pins s σ H xs us Q I r h
  obtain ⟨p, ys, rfl, hq, q⟩ := h
  obtain ⟨u, rfl, rx⟩ := vals1 r
  cases rx
  have hn := line63
  rcases hq with hq | hq
  · obtain ⟨its, r', pl, hz⟩ := I.list hq
    have hlen := r'.length
    exact Calls.call_len_list pl.isList (by simp only [List.size_toArray] <;> omega) ⟨.int ys.length, H, I.tok _, ⟨s.toks + 1, by rw [List.size_toArray, hlen]⟩, q⟩
  · obtain ⟨its, r', pl, hz⟩ := I.tuple hq
    have hlen := r'.length
    exact len_tuple pl (by simp only [List.size_toArray] <;> omega) ⟨.int ys.length, H, I.tok _, ⟨s.toks + 1, by rw [List.size_toArray, hlen]⟩, q⟩
theorem call_len_str : CallR X (.builtin "len") (fun xs H Q => ∃ z, xs = [.str z] ∧ z.length ≤ sizeLine ∧ Q (.int z.length) H) := by
  intro pins s σ H xs us Q I r h
  obtain ⟨z, rfl, hz, q⟩ := h
  obtain ⟨u, rfl, t, rfl⟩ := vals1 r
  have hn := line63
  exact len_str (by omega) ⟨.int z.length, H, I.tok _, ⟨_, rfl⟩, q⟩
theorem CallR.or {f : Value} {r r' : List V → Hp → VK → Prop} (h : CallR X f r) (h' : CallR X f r') : CallR X f (fun xs H Q => r xs H Q ∨ r' xs H Q) := by
  intro pins s σ H xs us Q I rs q
  rcases q with q | q
  · exact h pins s σ H xs us Q I rs q
  · exact h' pins s σ H xs us Q I rs q
theorem call_list_of : CallR X (.type "list") (fun xs H Q => ∃ p ys, xs = [.ref p] ∧ (SqL X.K H p ys ∨ SqT X.K H p ys) ∧ ∀ l, H l = none → Q (.ref l) (upd H l (.lst ys))) := by
  intro pins s σ H xs us Q I r h
  obtain ⟨p, ys, rfl, hq, q⟩ := h
  obtain ⟨u, rfl, rx⟩ := vals1 r
  cases rx
  have fin : ∀ (its : List Value), Vals ys its → ys.length ≤ sizeLine → ∀ (h' : Heap) (c' : Nat), (∀ b o', s.heap.get? b = some o' → h'.get? b = some o') →
      h'.get? s.heap.objs.size = some { cls := .type "list", dict := none, data := .seq its.toArray c', slots := #[] } → EP X pins σ Q (.ref s.heap.objs.size) { s with heap := h' } := fun its r' hz h' c' kp e =>
    ⟨.ref s.heap.objs.size, _, I.laid (t' := s.toks) kp (Nat.le_refl _) (show ObjOk X.prog X.w _ h' _ (.lst ys) from ⟨hz, its, c', r', e⟩), rfl, q _ (I.hok.fresh (Nat.le_refl _))⟩
  rcases hq with hq | hq
  · obtain ⟨its, r', pl, hz⟩ := I.list hq
    have hlen := r'.length
    obtain ⟨o, ho, hc, n, hd⟩ := pl.isList
    exact call_list_seq p (.inl rfl) ho hc hd (fun h' c' kp e => fin its r' hz h' c' kp e) (by simp only [List.size_toArray] <;> omega)
  · obtain ⟨its, r', pl, hz⟩ := I.tuple hq
    have hlen := r'.length
    obtain ⟨o, ho, hc, n, hd⟩ := pl
    exact call_list_seq p (.inr rfl) ho hc hd (fun h' c' kp e => fin its r' hz h' c' kp e) (by simp only [List.size_toArray] <;> omega)
def tyV (K : PySem.W.Frag) (T : String) (x : V) (H : Hp) : Prop := match x with
  | .str _ => T = "str"
  | .int _ => T = "int"
  | .ref p => (T = "list" ∧ ∃ xs, SqL K H p xs) ∨ (T = "tuple" ∧ ∃ o, K.lookup p = some o ∧ o.cls = .type "tuple" ∧ o.dict = none) ∨
      (T = "dict" ∧ ((∃ kvs, H p = some (.dK kvs)) ∨ ∃ kvs, H p = some (.dT kvs))) ∨ (T = "set" ∧ ∃ S n, H p = some (.set S n))
  | _ => False
theorem tyV_is {pins : List (Addr × Obj)} {σ : St} {H : Hp} {s : Shared} {T : String} {x : V} {v : Value} (I : Inv X pins σ H s) (r : RelV x v) (ty : tyV X.K T x H) :
    s.TypeIs v T ∧ ∀ a, v = .ref a → ∃ ob, s.heap.get? a = some ob ∧ ob.dict = none := by
  cases x with
  | str z =>
    obtain ⟨t, rfl⟩ := r
    cases (show T = "str" from ty)
    exact ⟨typeIs_str s z t, fun _ e => nomatch e⟩
  | int i =>
    obtain ⟨t, rfl⟩ := r
    cases (show T = "int" from ty)
    exact ⟨typeIs_int s i t, fun _ e => nomatch e⟩
  | ref p =>
    cases r
    rcases ty with ⟨rfl, xs, hq⟩ | ⟨rfl, o, hk, hc, hd⟩ | ⟨rfl, hk⟩ | ⟨rfl, S, n, hk⟩
    · obtain ⟨its, _, pl, _⟩ := I.list hq
      refine ⟨pl.isList.typeIs, fun a e => ?_⟩
      cases e
      obtain ⟨o, n, e, c, hd, _⟩ := pl
      exact ⟨o, e, hd⟩
    · refine ⟨⟨o, I.kIn p o hk, hc⟩, fun a e => ?_⟩
      cases e
      exact ⟨o, I.kIn _ o hk, hd⟩
    · have z : ∃ o, s.heap.get? p = some o ∧ o.ExactDict := by
        rcases hk with ⟨kvs, hk⟩ | ⟨kvs, hk⟩
        · obtain ⟨_, _, _, _, o, _, _, e, ex, _⟩ := I.hok p _ hk
          exact ⟨o, e, ex⟩
        · obtain ⟨_, _, _, _, o, _, _, e, ex, _⟩ := I.hok p _ hk
          exact ⟨o, e, ex⟩
      obtain ⟨o, e, ex⟩ := z
      refine ⟨⟨o, e, ex.1⟩, fun a e2 => ?_⟩
      cases e2
      exact ⟨o, e, ex.2.1⟩
    · obtain ⟨o, _, _, _, e, ex, _⟩ := I.hok p _ hk
      refine ⟨⟨o, e, ex.1⟩, fun a e2 => ?_⟩
      cases e2
      exact ⟨o, e, ex.2.1⟩
  | _ => exact False.elim ty
def tBM0 (K : PySem.W.Frag) (T : String) (r : V → List V → Hp → VK → Prop) (to : TE) : TE := fun σ H Q => to σ H fun x H1 => tyV K T x H1 ∧ r x [] H1 Q
def tBM (K : PySem.W.Frag) (T : String) (r : V → List V → Hp → VK → Prop) (to : TE) (t : TA) : TE := fun σ H Q => to σ H fun x H1 => tyV K T x H1 ∧ t σ H1 fun xs H2 => r x xs H2 Q
variable {o e : Expr} {es : List Expr} {to : TE} {t : TA} {name : Str} {apos cpos : Pos} {T id : String} {r : V → List V → Hp → VK → Prop}
theorem pe_bm (pa : PlainAttrs T) (slot : Slot T name id) (hty : typeOf (.builtin id) = pure (.type "method_descriptor")) (hm : MtR X id r) (ho : PE X o to) (ha : PA X (e :: es) t)
    (hbase : attributeBase o name X.env (eval o X.env) = eval o X.env := by rfl)
    (hfew : ((backTo cpos (starEach (e :: es) X.env)).all (fun x => !x.1) && (backToKw cpos (keywordEach [] X.env)).all (fun x => x.1.isSome)
      && decide ((e :: es).length + ([] : List Keyword).length + (if ([] : List Keyword).isEmpty then 0 else 1) < 30)) = true := by rfl)
    (hline : (apos.endLine == cpos.line) = true := by rfl) (hs : starEach (e :: es) X.env = (false, eval e X.env) :: starEach es X.env := by rfl) (hplain : (backTo cpos (starEach es X.env)).any (·.1) = false := by rfl) :
    PE X (.Call (.Attribute o name apos) (e :: es) [] cpos) (tBM X.K T r to t) := by
  intro pins s σ H Q I h
  refine wpAny_Call_method_late hbase hfew hline rfl (thn (ho pins s σ H _ I h) fun v s1 ⟨x, H1, I1, r1, ty, q1⟩ => ?_)
  obtain ⟨h1, h2⟩ := tyV_is I1 r1 ty
  refine ⟨T, id, pa, slot, hty, h1, h2, ?_⟩
  have hA := ha cpos pins s1 σ H1 _ I1 q1
  rw [hs] at hA ⊢
  refine Calls.callWith_builtin (by show (false || (backTo cpos (starEach es X.env)).any (·.1)) = false; rw [hplain] <;> rfl) (Calls.evalArgs_plain ?_)
  exact thn hA fun us s2 ⟨vs, H2, I2, r2, q2⟩ => hm pins s2 σ H2 x vs v us Q I2 r1 r2 q2
end
end L2
namespace L2
open PySem PySem.Spec PyProof.Rows
def MtM (X : Cx) (id : String) (r : V → List V → Hp → VK → Prop) : Prop :=
  ∀ (pins : List (Addr × Obj)) (s : Shared) (σ : St) (H : Hp) (x : V) (xs : List V) (v : Value) (us : List Value) (Q : VK), Inv X pins σ H s → RelV x v → Vals xs us → r x xs H Q →
    wpAny (model X.prog X.w) X.A (call (.builtin id) (v :: us)) (EP X pins σ Q) X.xe s
theorem Vals.one : ∀ {x : V} {us : List Value}, Vals [x] us → ∃ u, us = [u] ∧ RelV x u
  | _, _, .cons r .nil => ⟨_, rfl, r⟩
theorem Vals.two : ∀ {x y : V} {us : List Value}, Vals [x, y] us → ∃ u v, us = [u, v] ∧ RelV x u ∧ RelV y v
  | _, _, _, .cons r (.cons q .nil) => ⟨_, _, rfl, r, q⟩
theorem Vals.zero : ∀ {us : List Value}, Vals [] us → us = []
  | _, .nil => rfl
theorem Vals.dropLast {xs : List V} {us : List Value} (h : Vals xs us) : Vals xs.dropLast us.dropLast := by
  induction h with
  | nil => exact .nil
  | cons r t ih =>
    cases t with
    | nil => exact .nil
    | cons q t' => exact .cons r ih
theorem Vals.eraseIdx : ∀ {xs : List V} {us : List Value} (i : Nat), Vals xs us → Vals (xs.eraseIdx i) (us.eraseIdx i)
  | _, _, _, .nil => .nil
  | _, _, 0, .cons _ t => t
  | _, _, i + 1, .cons r t => .cons r (Vals.eraseIdx i t)
theorem Vals.reverse {xs : List V} {us : List Value} (h : Vals xs us) : Vals xs.reverse us.reverse := by
  induction h with
  | nil => exact .nil
  | cons r t ih => rw [List.reverse_cons, List.reverse_cons]; exact Vals.append ih (.cons r .nil)
theorem Vals.rep {xs : List V} {us : List Value} (h : Vals xs us) : ∀ k : Nat, Vals (List.replicate k xs).flatten (List.replicate k us).flatten
  | 0 => .nil
  | k + 1 => by
    rw [List.replicate_succ, List.replicate_succ, List.flatten_cons, List.flatten_cons]
    exact Vals.append h (Vals.rep h k)
theorem foldl_rep (its : List Value) : ∀ (k : Nat) (acc : List Value),
    List.foldl (fun x1 x2 => x1 ++ x2) acc.toArray (List.replicate k its.toArray) = (acc ++ (List.replicate k its).flatten).toArray
  | 0, acc => by simp
  | k + 1, acc => by
    have e : acc.toArray ++ its.toArray = (acc ++ its).toArray := by simp
    have e2 : (acc ++ its) ++ (List.replicate k its).flatten = acc ++ (List.replicate (k + 1) its).flatten := by
      rw [List.replicate_succ, List.flatten_cons, List.append_assoc]
    rw [← e2, ← foldl_rep its k (acc ++ its), ← e, List.replicate_succ, List.foldl_cons]
section
variable {X : Cx} {pins : List (Addr × Obj)} {σ : St} {H : Hp} {s : Shared} {l b : Addr} {xs ys zs : List V}
theorem Inv.lset {its its' : List Value} {n : Nat} {f : Array Value → Array Value} {t' : Nat} (I : Inv X pins σ H s) (hH : H l = some (.lst xs))
    (e : s.heap.get? l = some { cls := .type "list", data := .seq its.toArray n }) (hf : f its.toArray = its'.toArray) (hv : Vals ys its') (hz : ys.length ≤ sizeLine) :
    Inv X pins σ (upd H l (.lst ys)) { s with heap := s.heap.update l (Obj.mapSeq f), toks := t' } := by
  have q := PySem.IsL.update e f
  rw [hf] at q
  refine I.write (x := l) (e := l) (by rw [hH]; exact trivial) (.inl rfl) (fun b' u hb hu => (Heap.get?_update_other s.heap (Obj.mapSeq f) (Ne.symm hb)).trans hu) ⟨_, q⟩ ?_
  exact ⟨hz, its', _, hv, q⟩
theorem Inv.lnew {its : List Value} {t' : Nat} (I : Inv X pins σ H s) (hv : Vals ys its) (hz : ys.length ≤ sizeLine) :
    Inv X pins σ (upd H s.heap.objs.size (.lst ys)) { s with heap := s.heap.push { cls := .type "list", data := .seq its.toArray }, toks := t' } :=
  I.laid (fun _ _ q => Heap.get?_push_of_some _ q) (Nat.le_refl _) ⟨hz, its, 0, hv, Heap.get?_push_size _ rfl⟩
theorem Inv.fresh (I : Inv X pins σ H s) : H s.heap.objs.size = none := I.hok.fresh (Nat.le_refl _)
theorem Inv.lstM (I : Inv X pins σ H s) (hH : H l = some (.lst xs)) : xs.length ≤ sizeLine ∧ ∃ (its : List Value) (n : Nat), Vals xs its ∧ xs.length = its.length ∧ s.heap.get? l = some { cls := .type "list", data := .seq its.toArray n } := by
  obtain ⟨z, its, n, r, e⟩ := I.hok l _ hH
  exact ⟨z, its, n, r, r.length, e⟩
theorem notLongL {n : Nat} (h : n ≤ sizeLine) : Builtin.List.listTooLong n = false := by
  unfold Builtin.List.listTooLong
  exact decide_eq_false (by omega)
end
section
variable {X : Cx}
def rAppend : V → List V → Hp → VK → Prop := fun x vs H Q => ∃ l xs y, x = .ref l ∧ vs = [y] ∧ H l = some (.lst xs) ∧ xs.length < sizeLine ∧ Q .non (upd H l (.lst (xs ++ [y])))
theorem mt_append : MtM X "list.append" rAppend := by
  intro pins s σ H x vs v us Q I rx rv h
  obtain ⟨l, xs, y, rfl, rfl, hH, hz, q⟩ := h
  cases rx
  obtain ⟨u, rfl, ru⟩ := rv.one
  obtain ⟨z, its, n, r, hl, e⟩ := I.lstM hH
  refine call_meets F.slot_list_append ⟨_, e, rfl⟩ F.entry_list_append (F.args_list_append_2 _ _) (PySem.list_append l its.toArray n u (by rw [List.size_toArray]; omega)) ⟨e, ?_⟩
  refine ⟨.non, _, I.lset (its' := its ++ [u]) hH e (by simp) (r.append (.cons ru .nil)) ?_, rfl, q⟩
  rw [List.length_append, List.length_singleton]
  omega
def rExtend : V → List V → Hp → VK → Prop := fun x vs H Q => ∃ l b xs zs, x = .ref l ∧ vs = [.ref b] ∧ H l = some (.lst xs) ∧ H b = some (.lst zs) ∧ xs.length + zs.length ≤ sizeLine ∧ Q .non (upd H l (.lst (xs ++ zs)))
theorem mt_extend : MtM X "list.extend" rExtend := by
  intro pins s σ H x vs v us Q I rx rv h
  obtain ⟨l, b, xs, zs, rfl, rfl, hH, hB, hz, q⟩ := h
  cases rx
  obtain ⟨u, rfl, ru⟩ := rv.one
  cases ru
  obtain ⟨z, its, n, r, hl, e⟩ := I.lstM hH
  obtain ⟨z2, its2, n2, r2, hl2, e2⟩ := I.lstM hB
  have hsz : its.toArray.size + its2.toArray.size ≤ sizeLine := by rw [List.size_toArray, List.size_toArray]; omega
  have hlong : ¬ (!its.toArray.isEmpty && Builtin.List.listTooLong (its.toArray.size + its2.toArray.size)) = true := by
    rw [notLongL hsz, Bool.and_false]
    exact Bool.false_ne_true
  refine call_meets F.slot_list_extend ⟨_, e, rfl⟩ F.entry_list_extend (F.args_list_extend_2 _ _)
    (AutoSeq1.list_extend_list_list_0 l its.toArray n b its2.toArray n2 hlong (by rw [List.size_toArray]; omega) (by omega)) ⟨e, e2, ?_⟩
  refine ⟨.non, _, I.lset (its' := its ++ its2) hH e (by simp) (r.append r2) ?_, rfl, q⟩
  rw [List.length_append]
  omega
def rPop : V → List V → Hp → VK → Prop := fun x vs H Q => ∃ l xs y, x = .ref l ∧ vs = [] ∧ H l = some (.lst xs) ∧ xs[xs.length - 1]? = some y ∧ Q y (upd H l (.lst xs.dropLast))
def rPopAt : V → List V → Hp → VK → Prop := fun x vs H Q => ∃ l xs i k y, x = .ref l ∧ vs = [.int i] ∧ H l = some (.lst xs) ∧ -(2 ^ 63) ≤ i ∧ i < 2 ^ 63 ∧ seqIndex? i xs.length = some k ∧ xs[k]? = some y ∧ Q y (upd H l (.lst (xs.eraseIdx k)))
def rReverse : V → List V → Hp → VK → Prop := fun x vs H Q => ∃ l xs, x = .ref l ∧ vs = [] ∧ H l = some (.lst xs) ∧ Q .non (upd H l (.lst xs.reverse))
def rClear : V → List V → Hp → VK → Prop := fun x vs H Q => ∃ l xs, x = .ref l ∧ vs = [] ∧ H l = some (.lst xs) ∧ Q .non (upd H l (.lst []))
def rCat : R2 := fun x y H Q => ∃ l b xs zs, x = .ref l ∧ y = .ref b ∧ H l = some (.lst xs) ∧ H b = some (.lst zs) ∧ xs.length + zs.length ≤ sizeLine ∧ ∀ p, H p = none → Q (.ref p) (upd H p (.lst (xs ++ zs)))
theorem op_cat : OpR X (binaryOp .Add) rCat := by
  intro pins s σ H x y v u Q I rx ry h
  obtain ⟨l, b, xs, zs, rfl, rfl, hH, hB, hz, q⟩ := h
  cases rx
  cases ry
  obtain ⟨z, its, n, r, hl, e⟩ := I.lstM hH
  obtain ⟨z2, its2, n2, r2, hl2, e2⟩ := I.lstM hB
  refine PySem.P.add_list e e2 ?_ (by rw [List.size_toArray, List.size_toArray]; omega)
  have ea : its.toArray ++ its2.toArray = (its ++ its2).toArray := by simp
  rw [ea]
  exact ⟨.ref _, _, I.lnew (t' := s.toks) (r.append r2) (by rw [List.length_append]; omega), rfl, q _ I.fresh⟩
def rRep : R2 := fun x y H Q => ∃ l k xs, x = .ref l ∧ y = .int k ∧ H l = some (.lst xs) ∧ -(2 ^ 63) ≤ k ∧ k < 2 ^ 63 ∧ xs.length * k.toNat ≤ sizeLine ∧
  ∀ p, H p = none → Q (.ref p) (upd H p (.lst (List.replicate k.toNat xs).flatten))
theorem len_rep {α : Type} (xs : List α) (k : Nat) : (List.replicate k xs).flatten.length = k * xs.length := by
  induction k with
  | zero => simp
  | succ k ih => rw [List.replicate_succ, List.flatten_cons, List.length_append, ih, Nat.succ_mul, Nat.add_comm]
theorem op_rep : OpR X (binaryOp .Mult) rRep := by
  intro pins s σ H x y v u Q I rx ry h
  obtain ⟨l, k, xs, rfl, rfl, hH, h1, h2, hz, q⟩ := h
  cases rx
  obtain ⟨t, rfl⟩ := ry
  obtain ⟨z, its, n, r, hl, e⟩ := I.lstM hH
  have hlen : its.toArray.size * k.toNat ≤ sizeLine := by rw [List.size_toArray, ← hl]; exact hz
  have hcap : ¬ its.toArray.size * k.toNat > (2 ^ 63 - 1) / 8 := by
    have : (sizeLine : Nat) ≤ (2 ^ 63 - 1) / 8 := by decide
    omega
  have hfit : ¬ (!Builtin.List.listFitsIndex k) = true := by
    rw [fitsIndex_both h1 h2]
    exact Bool.false_ne_true
  have hlong : ¬ Builtin.List.listTooLong (its.toArray.size * k.toNat) = true := by
    rw [notLongL hlen]
    exact Bool.false_ne_true
  have hnew : List.foldl (fun x1 x2 => x1 ++ x2) #[] (List.replicate (if its.toArray.isEmpty = true then 0 else k.toNat) its.toArray) = (List.replicate k.toNat its).flatten.toArray := by
    have f0 : ∀ m : Nat, List.foldl (fun x1 x2 => x1 ++ x2) #[] (List.replicate m its.toArray) = (List.replicate m its).flatten.toArray := fun m => by
      have := foldl_rep its m []
      rw [List.nil_append] at this
      exact this
    rw [f0]
    cases its with
    | nil => simp
    | cons a r' => rw [if_neg (by simp)]
  refine wpAny_binaryOp_repeat_ref (T := "list") (U := "int") (by decide) ⟨_, e, rfl⟩ (fun s' => typeIs_int s' k t) noFill_list_mul F.fills_int_mul F.slot_int_rmul repeat_list F.slot_int_index.lookup
    (call_meets F.slot_int_rmul (typeIs_int s k t) F.entry_int_rmul (F.args_int_rmul_2 _ _) (int___rmul___int_list k t l its.toArray n)
      ⟨e, rfl, ⟨_, e, rfl⟩, call_meets F.slot_list_mul ⟨_, e, rfl⟩ F.entry_list_mul (F.args_list_mul_2 _ _) (AutoListH.list___mul___list_int_3 l its.toArray n k t hfit hcap hlong) ⟨e, ?_⟩⟩)
  rw [hnew]
  exact ⟨.ref _, _, I.lnew (t' := s.toks) (r.rep k.toNat) (by rw [len_rep, Nat.mul_comm]; exact hz), rfl, q _ I.fresh⟩
end
section
variable {prog : Program} {w : World} {A : Around} {E : Value → Shared → Prop} {s : Shared}
end
section
variable {X : Cx}
end
end L2
namespace L2
open PySem PySem.Spec PyProof.Rows
section
variable {κ : Type} [DecidableEq κ]
def valV (kvs : List (κ × V)) (k : κ) : Option V := (kvs.find? fun kv => decide (kv.1 = k)).map (·.2)
def putK (kvs : List (κ × V)) (k : κ) (v : V) : List (κ × V) :=
  if (kvs.any fun kv => decide (kv.1 = k)) = true then kvs.map (fun kv => if kv.1 = k then (kv.1, v) else kv) else kvs ++ [(k, v)]
def dropK (kvs : List (κ × V)) (k : κ) : List (κ × V) := kvs.filter fun kv => decide (kv.1 ≠ k)
theorem valV_pos {p : κ × V} {r : List (κ × V)} {k : κ} (e : p.1 = k) : valV (p :: r) k = some p.2 := by simp [valV, List.find?_cons, e]
theorem valV_neg {p : κ × V} {r : List (κ × V)} {k : κ} (e : ¬ p.1 = k) : valV (p :: r) k = valV r k := by simp [valV, List.find?_cons, e]
theorem valV_any (k : κ) : ∀ kvs : List (κ × V), (kvs.any fun kv => decide (kv.1 = k)) = (valV kvs k).isSome
  | [] => rfl
  | p :: r => by
    rw [List.any_cons]
    by_cases e : p.1 = k
    · simp only [valV_pos e, decide_eq_true e, Bool.true_or, Option.isSome_some]
    · rw [valV_neg e, decide_eq_false e, Bool.false_or]; exact valV_any k r
theorem valV_map (k j : κ) (y : V) : ∀ kvs : List (κ × V), valV (kvs.map fun kv => if kv.1 = k then (kv.1, y) else kv) j = (valV kvs j).map fun x => if j = k then y else x
  | [] => rfl
  | p :: r => by
    have ih := valV_map k j y r
    rw [List.map_cons]
    by_cases h : p.1 = k
    · rw [if_pos h]
      by_cases e : p.1 = j
      · rw [valV_pos (p := (p.1, y)) e, valV_pos e, Option.map_some, if_pos (e.symm.trans h)]
      · rw [valV_neg (p := (p.1, y)) e, valV_neg e, ih]
    · rw [if_neg h]
      by_cases e : p.1 = j
      · rw [valV_pos (p := p) e, valV_pos e, Option.map_some, if_neg (fun z => h (e.trans z))]
      · rw [valV_neg (p := p) e, valV_neg e, ih]
theorem valV_snoc (k j : κ) (y : V) : ∀ kvs : List (κ × V), valV kvs k = none → valV (kvs ++ [(k, y)]) j = if j = k then some y else valV kvs j
  | [], _ => by
    by_cases e : k = j
    · rw [if_pos e.symm]; exact valV_pos (p := (k, y)) e
    · rw [if_neg (fun z => e z.symm)]; exact valV_neg (p := (k, y)) e
  | p :: r, hn => by
    rw [List.cons_append]
    have hk : ¬ p.1 = k := fun z => by rw [valV_pos z] at hn; cases hn
    rw [valV_neg hk] at hn
    have ih := valV_snoc k j y r hn
    by_cases e : p.1 = j
    · rw [valV_pos e, valV_pos e, if_neg (fun z => hk (e.trans z))]
    · rw [valV_neg e, valV_neg e, ih]
theorem valV_put (kvs : List (κ × V)) (k j : κ) (y : V) : valV (putK kvs k y) j = if j = k then some y else valV kvs j := by
  unfold putK
  by_cases a : (kvs.any fun kv => decide (kv.1 = k)) = true
  · rw [if_pos a, valV_map]
    rw [valV_any] at a
    by_cases e : j = k
    · obtain ⟨x, hx⟩ := Option.isSome_iff_exists.mp a
      rw [if_pos e, e, hx, Option.map_some, if_pos rfl]
    · rw [if_neg e]
      cases valV kvs j with
      | none => rfl
      | some x => rw [Option.map_some, if_neg e]
  · rw [if_neg a]
    refine valV_snoc k j y kvs ?_
    rw [valV_any] at a
    cases q : valV kvs k with
    | none => rfl
    | some x => rw [q] at a; exact (a rfl).elim
theorem length_putK (kvs : List (κ × V)) (k : κ) (v : V) : (putK kvs k v).length ≤ kvs.length + 1 := by
  unfold putK
  split
  · rw [List.length_map]; omega
  · rw [List.length_append, List.length_cons, List.length_nil]; omega
theorem RelO.isSome_eq {o : Option V} {u : Option Value} (r : RelO o u) : o.isSome = u.isSome := by
  cases o with
  | none => cases u with
    | none => rfl
    | some _ => exact (show False from r).elim
  | some _ => cases u with
    | none => exact (show False from r).elim
    | some _ => rfl
theorem RelO.getD {o : Option V} {u : Option Value} {d : V} {d' : Value} (r : RelO o u) (rd : RelV d d') : RelV (o.getD d) (u.getD d') := by
  cases o with
  | none => cases u with
    | none => exact rd
    | some _ => exact (show False from r).elim
  | some _ => cases u with
    | none => exact (show False from r).elim
    | some _ => exact r
theorem KV.val {kvs : List (κ × V)} {vs : List (κ × Value)} (r : KV kvs vs) (k : κ) : RelO (valV kvs k) (valueAt vs k) := by
  unfold KV at r
  induction r with
  | nil => exact True.intro
  | @cons p q ps qs h t ih =>
    obtain ⟨h1, h2⟩ := h
    by_cases e : p.1 = k
    · have e' : q.1 = k := h1.symm.trans e
      have b : valueAt (q :: qs) k = some q.2 := by simp [valueAt, List.find?_cons, e']
      rw [valV_pos e, b]; exact h2
    · have e' : ¬ q.1 = k := fun z => e (h1.trans z)
      have b : valueAt (q :: qs) k = valueAt qs k := by simp [valueAt, List.find?_cons, e']
      rw [valV_neg e, b]; exact ih
theorem KV.any {kvs : List (κ × V)} {vs : List (κ × Value)} (r : KV kvs vs) (k : κ) : (kvs.any fun kv => decide (kv.1 = k)) = vs.any fun kv => decide (kv.1 = k) := by
  unfold KV at r
  induction r with
  | nil => rfl
  | cons h t ih => rw [List.any_cons, List.any_cons, ih, h.1]
theorem KV.repl {kvs : List (κ × V)} {vs : List (κ × Value)} (r : KV kvs vs) (k : κ) {y : V} {u : Value} (ry : RelV y u) :
    KV (kvs.map fun kv => if kv.1 = k then (kv.1, y) else kv) (vs.map fun kv => if kv.1 = k then (kv.1, u) else kv) := by
  unfold KV at r ⊢
  induction r with
  | nil => exact .nil
  | @cons p q ps qs h t ih =>
    rw [List.map_cons, List.map_cons]
    refine .cons ?_ ih
    obtain ⟨h1, h2⟩ := h
    by_cases e : p.1 = k
    · rw [if_pos e, if_pos (h1.symm.trans e)]; exact ⟨h1, ry⟩
    · rw [if_neg e, if_neg (fun z => e (h1.trans z))]; exact ⟨h1, h2⟩
theorem KV.put {kvs : List (κ × V)} {vs : List (κ × Value)} (r : KV kvs vs) (k : κ) {y : V} {u : Value} (ry : RelV y u) : KV (putK kvs k y) (stored vs k u) := by
  unfold putK stored
  rw [r.any k]
  by_cases e : (vs.any fun kv => decide (kv.1 = k)) = true
  · rw [if_pos e, if_pos e]; exact r.repl k ry
  · rw [if_neg e, if_neg e]; exact Paired.snoc r ⟨rfl, ry⟩
theorem KV.drop {kvs : List (κ × V)} {vs : List (κ × Value)} (r : KV kvs vs) (k : κ) : KV (dropK kvs k) (without vs k) := by
  unfold KV at r ⊢
  unfold dropK without
  induction r with
  | nil => exact .nil
  | @cons p q ps qs h t ih =>
    obtain ⟨h1, h2⟩ := h
    rw [List.filter_cons, List.filter_cons]
    by_cases e : p.1 = k
    · have a : ¬ decide (p.1 ≠ k) = true := by simp [e]
      have b : ¬ decide (q.1 ≠ k) = true := by simp [h1.symm.trans e]
      rw [if_neg a, if_neg b]; exact ih
    · have e' : ¬ q.1 = k := fun z => e (h1.trans z)
      have a : decide (p.1 ≠ k) = true := by simp [e]
      have b : decide (q.1 ≠ k) = true := by simp [e']
      rw [if_pos a, if_pos b]; exact .cons ⟨h1, h2⟩ ih
theorem KV.keys {kvs : List (κ × V)} {vs : List (κ × Value)} (r : KV kvs vs) : kvs.map (·.1) = vs.map (·.1) := by
  unfold KV at r
  induction r with
  | nil => rfl
  | cons h t ih => rw [List.map_cons, List.map_cons, ih, h.1]
theorem KV.length {kvs : List (κ × V)} {vs : List (κ × Value)} (r : KV kvs vs) : kvs.length = vs.length := Paired.length r
end
theorem kV_is {P : Program} {w : World} {k : Key} {u : Value} (r : RelV (kV k) u) : (mixKind P w).is k u = true := by
  cases k with
  | inl i => obtain ⟨t, e⟩ := (show ∃ t, u = Value.int i t from r); subst e; exact mixKind_int P w i t
  | inr x => obtain ⟨t, e⟩ := (show ∃ t, u = Value.str x t from r); subst e; exact mixKind_str P w x t
theorem items_are {P : Program} {w : World} : ∀ {ks : List Key} {us : List Value}, Vals (ks.map kV) us → ItemsAre (mixKind P w) ks us
  | [], _, r => by rw [List.map_nil] at r; cases r; exact .nil
  | k :: ks, _, r => by
    rw [List.map_cons] at r
    cases r with
    | cons h t => exact .cons (kV_is h) (items_are t)
abbrev KT (H : Hp) : List (List Key × V) → List (List Key × Addr × Value) → Prop := Paired fun p q => p.1 = q.1 ∧ H q.2.1 = some (.tup (p.1.map kV)) ∧ RelV p.2 q.2.2
theorem KT.val {H : Hp} {kvs : List (List Key × V)} {xs : List (List Key × Addr × Value)} (r : KT H kvs xs) (k : List Key) : RelO (valV kvs k) ((atKey xs k).map (·.2)) := by
  induction r with
  | nil => exact True.intro
  | @cons p q ps qs h t ih =>
    obtain ⟨h1, _, h2⟩ := h
    by_cases e : p.1 = k
    · have e' : q.1 = k := h1.symm.trans e
      have b : atKey (q :: qs) k = some q.2 := by simp [atKey, List.find?_cons, e']
      rw [valV_pos e, b]; exact h2
    · have e' : ¬ q.1 = k := fun z => e (h1.trans z)
      have b : atKey (q :: qs) k = atKey qs k := by simp [atKey, List.find?_cons, e']
      rw [valV_neg e, b]; exact ih
theorem KT.repl {H : Hp} {kvs : List (List Key × V)} {xs : List (List Key × Addr × Value)} (r : KT H kvs xs) (k : List Key) {y : V} {u : Value} (ry : RelV y u) :
    KT H (kvs.map fun kv => if kv.1 = k then (kv.1, y) else kv) (xs.map (putAt k u)) := by
  induction r with
  | nil => exact .nil
  | @cons p q ps qs h t ih =>
    rw [List.map_cons, List.map_cons]
    refine .cons ?_ ih
    obtain ⟨h1, h2, h3⟩ := h
    unfold putAt
    by_cases e : p.1 = k
    · rw [if_pos e, if_pos (h1.symm.trans e)]; exact ⟨h1, h2, ry⟩
    · rw [if_neg e, if_neg (fun z => e (h1.trans z))]; exact ⟨h1, h2, h3⟩
theorem KT.put {H : Hp} {kvs : List (List Key × V)} {xs : List (List Key × Addr × Value)} (r : KT H kvs xs) (k : List Key) {b : Addr} {y : V} {u : Value} (hb : H b = some (.tup (k.map kV))) (ry : RelV y u) :
    KT H (putK kvs k y) (storedH xs k b u) := by
  have e : (kvs.any fun kv => decide (kv.1 = k)) = (atKey xs k).isSome := by
    rw [valV_any, (r.val k).isSome_eq, Option.isSome_map]
  unfold putK storedH
  rw [e]
  by_cases q : (atKey xs k).isSome = true
  · rw [if_pos q, if_pos q]; exact r.repl k ry
  · rw [if_neg q, if_neg q]; exact Paired.snoc r ⟨rfl, hb, ry⟩
theorem KT.keeps {H H' : Hp} {kvs : List (List Key × V)} {xs : List (List Key × Addr × Value)} (r : KT H kvs xs) (ht : ∀ b ys, H b = some (.tup ys) → H' b = some (.tup ys)) : KT H' kvs xs :=
  Paired.mapP r fun _ _ z => ⟨z.1, ht _ _ z.2.1, z.2.2⟩
section
variable {P : Program} {w : World} {H : Hp} {h : Heap} {a : Addr}
theorem rd_of {u : HO} (ok : HOk P w H h) (e : Rd H a u) : ObjOk P w H h a u := e.ok ok
theorem dk_rd {kvs : List (Key × V)} (ok : HOk P w H h) (e : Rd H a (.dK kvs)) : kvs.length ≤ sizeLine ∧ (a == sysModules) = false ∧ ∃ vs, KV kvs vs ∧ h.DictOf (mixKind P w) a vs :=
  show ObjOk P w H h a (.dK kvs) from rd_of ok e
theorem dk_of {kvs : List (Key × V)} (ok : HOk P w H h) (e : H a = some (.dK kvs)) : kvs.length ≤ sizeLine ∧ (a == sysModules) = false ∧ ∃ vs, KV kvs vs ∧ h.DictOf (mixKind P w) a vs := dk_rd ok (.inl e)
theorem key_of {ks : List Key} (ok : HOk P w H h) (e : H a = some (.tup (ks.map kV))) : (tupleKind (mixKind P w)).is h ks a := by
  obtain ⟨_, its, r, o, h1, h2, n, h3⟩ := (show ObjOk P w H h a (.tup (ks.map kV)) from ok a _ e)
  exact ⟨o, its.toArray, n, h1, h2, h3, by simpa using items_are r⟩
theorem dt_rd {kvs : List (List Key × V)} (ok : HOk P w H h) (e : Rd H a (.dT kvs)) : kvs.length ≤ sizeLine ∧ (a == sysModules) = false ∧
    ∃ xs, KT H kvs xs ∧ h.DictOfH (tupleKind (mixKind P w)) a xs := by
  obtain ⟨z, y, xs, r, o, es, ep, h1, h2, h3, h4, h5⟩ := (show ObjOk P w H h a (.dT kvs) from rd_of ok e)
  refine ⟨z, y, xs, r, o, es, ep, h1, h2, h3, h4, fun x hx => ?_, h5⟩
  have all : ∀ {l : List (List Key × V)} {m : List (List Key × Addr × Value)}, KT H l m → ∀ x ∈ m, (tupleKind (mixKind P w)).is h x.1 x.2.1 := by
    intro l m q
    induction q with
    | nil => intro x hx; exact nomatch hx
    | @cons p q ps qs hq t ih =>
      intro x hx
      rcases List.mem_cons.mp hx with e | hx
      · subst e
        exact key_of ok (by rw [← hq.1]; exact hq.2.1)
      · exact ih x hx
  exact all r x hx
theorem dt_of {kvs : List (List Key × V)} (ok : HOk P w H h) (e : H a = some (.dT kvs)) : kvs.length ≤ sizeLine ∧ (a == sysModules) = false ∧
    ∃ xs, KT H kvs xs ∧ h.DictOfH (tupleKind (mixKind P w)) a xs := dt_rd ok (.inl e)
end
def DGet (H : Hp) (a : Addr) (y : V) (r : Option V) : Prop :=
  (∃ kvs k, Rd H a (.dK kvs) ∧ y = kV k ∧ r = valV kvs k) ∨ ∃ kvs k b, Rd H a (.dT kvs) ∧ y = .ref b ∧ H b = some (.tup (k.map kV)) ∧ r = valV kvs k
def DPut (H : Hp) (a : Addr) (y v : V) (H' : Hp) : Prop :=
  (∃ kvs k, H a = some (.dK kvs) ∧ y = kV k ∧ kvs.length < sizeLine ∧ H' = upd H a (.dK (putK kvs k v))) ∨
  ∃ kvs k b, H a = some (.dT kvs) ∧ y = .ref b ∧ H b = some (.tup (k.map kV)) ∧ kvs.length < sizeLine ∧ H' = upd H a (.dT (putK kvs k v))
theorem DGet.k {H : Hp} {a : Addr} {kvs : List (Key × V)} {k : Key} (e : H a = some (.dK kvs)) : DGet H a (kV k) (valV kvs k) := .inl ⟨kvs, k, .inl e, rfl, rfl⟩
theorem DGet.t {H : Hp} {a b : Addr} {kvs : List (List Key × V)} {k : List Key} (e : H a = some (.dT kvs)) (eb : H b = some (.tup (k.map kV))) : DGet H a (.ref b) (valV kvs k) := .inr ⟨kvs, k, b, .inl e, rfl, eb, rfl⟩
theorem DPut.k {H : Hp} {a : Addr} {kvs : List (Key × V)} {k : Key} {v : V} (e : H a = some (.dK kvs)) (hl : kvs.length < sizeLine) : DPut H a (kV k) v (upd H a (.dK (putK kvs k v))) := .inl ⟨kvs, k, e, rfl, hl, rfl⟩
theorem DPut.t {H : Hp} {a b : Addr} {kvs : List (List Key × V)} {k : List Key} {v : V} (e : H a = some (.dT kvs)) (eb : H b = some (.tup (k.map kV))) (hl : kvs.length < sizeLine) :
    DPut H a (.ref b) v (upd H a (.dT (putK kvs k v))) := .inr ⟨kvs, k, b, e, rfl, eb, hl, rfl⟩
section
variable {X : Cx} {pins : List (Addr × Obj)} {σ : St} {H : Hp} {s : Shared} {a : Addr} {y v : V} {u r : Value} {o : Option V} {A : Around} {E : Value → Shared → Prop}
theorem Inv.big (I : Inv X pins σ H s) : sysModules < s.heap.objs.size := by
  have h : mainGlobals < s.heap.objs.size := (I.mod.glob.keeps I.bk).lt
  exact Nat.lt_trans (by decide) h
theorem d_getItem {Q : Value → Shared → Prop} (hu : A.units + 1 < cLine) (I : Inv X pins σ H s) (g : DGet H a y (some v)) (ry : RelV y u) (h : ∀ w' s', Inv X pins σ H s' → RelV v w' → Q w' s') :
    wpAny (model X.prog X.w) A (getItem (.ref a) u) Q E s := by
  rcases g with ⟨kvs, k, e, ey, l⟩ | ⟨kvs, k, b, e, ey, eb, l⟩
  · subst ey
    obtain ⟨z, hd, vs, rel, dd⟩ := dk_rd I.hok e
    obtain ⟨w', hw, rw'⟩ := RelO.some_of (v := v) (o := valueAt vs k) (by rw [l]; exact rel.val k)
    exact wpAny_getItem_of (kV_is ry) dd.mapOf hw (h w' _ (I.tok _) rw')
  · subst ey
    cases (show u = Value.ref b from ry)
    obtain ⟨z, hd, xs, rel, dd⟩ := dt_rd I.hok e
    obtain ⟨w', hw, rw'⟩ := RelO.some_of (v := v) (o := (atKey xs k).map (·.2)) (by rw [l]; exact rel.val k)
    obtain ⟨p, hp, hp2⟩ := Option.map_eq_some_iff.mp hw
    refine wpAny_getItem_heap (tupleKind_room_in1 hu) (key_of I.hok eb) dd hp ?_
    rw [hp2]
    exact h w' _ (I.tok _) rw'
theorem d_in {Q : Value → Shared → Prop} (hu : A.units + 1 < cLine) (I : Inv X pins σ H s) (g : DGet H a y o) (ry : RelV y u) (h : ∀ s', Inv X pins σ H s' → Q (.bool o.isSome) s') :
    wpAny (model X.prog X.w) A (compareOp .In u (.ref a)) Q E s := by
  rcases g with ⟨kvs, k, e, ey, l⟩ | ⟨kvs, k, b, e, ey, eb, l⟩
  · subst ey
    obtain ⟨z, hd, vs, rel, dd⟩ := dk_rd I.hok e
    refine wpAny_in_of (kV_is ry) hd dd.mapOf ?_
    rw [← (rel.val k).isSome_eq, ← l]
    exact h _ (I.tok _)
  · subst ey
    cases (show u = Value.ref b from ry)
    obtain ⟨z, hd, xs, rel, dd⟩ := dt_rd I.hok e
    refine wpAny_in_heap (tupleKind_room_in1 hu) (key_of I.hok eb) hd dd ?_
    have q := (rel.val k).isSome_eq
    rw [Option.isSome_map] at q
    rw [← q, ← l]
    exact h _ (I.tok _)
theorem d_notIn {Q : Value → Shared → Prop} (hu : A.units + 1 < cLine) (I : Inv X pins σ H s) (g : DGet H a y o) (ry : RelV y u) (h : ∀ s', Inv X pins σ H s' → Q (.bool (!o.isSome)) s') :
    wpAny (model X.prog X.w) A (compareOp .NotIn u (.ref a)) Q E s := by
  rcases g with ⟨kvs, k, e, ey, l⟩ | ⟨kvs, k, b, e, ey, eb, l⟩
  · subst ey
    obtain ⟨z, hd, vs, rel, dd⟩ := dk_rd I.hok e
    refine wpAny_notIn_of (kV_is ry) hd dd.mapOf ?_
    rw [← (rel.val k).isSome_eq, ← l]
    exact h _ (I.tok _)
  · subst ey
    cases (show u = Value.ref b from ry)
    obtain ⟨z, hd, xs, rel, dd⟩ := dt_rd I.hok e
    refine wpAny_notIn_heap (tupleKind_room_in1 hu) (key_of I.hok eb) hd dd ?_
    have q := (rel.val k).isSome_eq
    rw [Option.isSome_map] at q
    rw [← q, ← l]
    exact h _ (I.tok _)
theorem d_write {h' : Heap} {t' : Nat} {ob : HO} (I : Inv X pins σ H s) (mu : Mut (H a)) (hs : Heap.SameBut a s.heap h') (he : ∃ q, h'.get? a = some q) (new : ObjOk X.prog X.w (upd H a ob) h' a ob) :
    Inv X pins σ (upd H a ob) { s with heap := h', toks := t' } :=
  I.write (x := a) (e := a) mu (.inl rfl) (fun b q hb z => (hs.2 b hb).trans z) he new
theorem dk_new {P : Program} {w : World} {H' : Hp} {h' : Heap} {kvs : List (Key × V)} {vs : List (Key × Value)} (z : kvs.length ≤ sizeLine) (hd : (a == sysModules) = false) (rel : KV kvs vs) (dd : h'.DictOf (mixKind P w) a vs) :
    ObjOk P w H' h' a (.dK kvs) := ⟨z, hd, vs, rel, dd⟩
theorem d_setItem {H' : Hp} {Q : Unit → Shared → Prop} (hu : A.units + 1 < cLine) (I : Inv X pins σ H s) (g : DPut H a y v H') (ry : RelV y u) (rv : RelV v r) (h : ∀ s', Inv X pins σ H' s' → Q () s') :
    wpAny (model X.prog X.w) A (setItem (.ref a) u r) Q E s := by
  rcases g with ⟨kvs, k, e, ey, l, eH⟩ | ⟨kvs, k, b, e, ey, eb, l, eH⟩
  · subst ey eH
    obtain ⟨z, hd, vs, rel, dd⟩ := dk_of I.hok e
    have hz : vs.length ≤ sizeLine := by rw [← rel.length]; exact z
    have hl : (putK kvs k v).length ≤ sizeLine := by have := length_putK kvs k v; omega
    refine wpAny_setItem_pairs (hsz := hz) (kV_is ry) dd fun h' dd' hs => h _ ?_
    have he : ∃ q, h'.get? a = some q := let ⟨q, _, _, hq, _⟩ := dd'; ⟨q, hq⟩
    exact d_write I (by rw [e]; exact True.intro) hs he (dk_new hl hd (rel.put k rv) dd')
  · subst ey eH
    cases (show u = Value.ref b from ry)
    obtain ⟨z, hd, xs, rel, dd⟩ := dt_of I.hok e
    have hz : xs.length ≤ sizeLine := by rw [← Paired.length rel]; exact z
    have hl : (putK kvs k v).length ≤ sizeLine := by have := length_putK kvs k v; omega
    refine wpAny_setItem_heap (hsz := hz) (tupleKind_room_in1 hu) (key_of I.hok eb) dd fun h' dd' hs => h _ ?_
    obtain ⟨q, es, ep, hq, h2, h3, h4, _, h5⟩ := dd'
    refine d_write I (by rw [e]; exact True.intro) hs ⟨q, hq⟩ ⟨hl, hd, _, (rel.put k eb rv).keeps fun c ys ec => ?_, q, es, ep, hq, h2, h3, h4, h5⟩
    rw [upd_ne (ne_of ec e (fun z => nomatch z))]
    exact ec
end
section
variable {X : Cx} {pins : List (Addr × Obj)} {σ : St} {H : Hp} {s : Shared} {a : Addr} {kvs : List (Key × V)} {k : Key} {u : Value} {A : Around} {E : Value → Shared → Prop}
theorem d_len {Q : Value → Shared → Prop} (I : Inv X pins σ H s) (e : Rd H a (.dK kvs)) (h : ∀ t s', Inv X pins σ H s' → Q (.int kvs.length t) s') : wpAny (model X.prog X.w) A (call (.builtin "len") [.ref a]) Q E s := by
  obtain ⟨z, hd, vs, rel, dd⟩ := dk_rd I.hok e
  refine call_len_dict hd dd (by rw [← rel.length]; rw [sizeLine_eq] at z; omega) ?_
  rw [← rel.length]
  exact h _ _ (I.tok _)
end
def NoSl (i : Expr) : Prop := ∀ ov iv, subscripted i false ov iv = operate [ov, iv] (getItem ov iv)
theorem dict_typeIs {X : Cx} {pins : List (Addr × Obj)} {σ : St} {H : Hp} {s : Shared} {a : Addr} {y : V} {o : Option V} (I : Inv X pins σ H s) (g : DGet H a y o) : s.TypeIs (.ref a) "dict" := by
  rcases g with ⟨kvs, k, e, _, _⟩ | ⟨kvs, k, b, e, _, _, _⟩
  · obtain ⟨_, _, vs, _, dd⟩ := dk_rd I.hok e
    exact dd.typeIs
  · obtain ⟨_, _, xs, _, dd⟩ := dt_rd I.hok e
    exact dd.typeIs
def tDGet (td ty : TE) : TE := fun σ H Q => td σ H fun x H1 => ty σ H1 fun y H2 => ∃ a v, x = .ref a ∧ DGet H2 a y (some v) ∧ Q v H2
def tDIn (ty td : TE) : TE := fun σ H Q => ty σ H fun y H1 => td σ H1 fun x H2 => ∃ a o, x = .ref a ∧ DGet H2 a y o ∧ Q (.bl o.isSome) H2
def tDNotIn (ty td : TE) : TE := fun σ H Q => ty σ H fun y H1 => td σ H1 fun x H2 => ∃ a o, x = .ref a ∧ DGet H2 a y o ∧ Q (.bl (!o.isSome)) H2
def sDPut (td ty tv : TE) : TS := fun D σ H => tv σ H fun v H1 => td σ H1 fun x H2 => ty σ H2 fun y H3 => ∃ a H4, x = .ref a ∧ DPut H3 a y v H4 ∧ D.nx σ H4
def sDAug (td ty tv : TE) (rd : V → V → Hp → VK → Prop) : TS := fun D σ H => td σ H fun x H1 => ty σ H1 fun y H2 => ∃ a v, x = .ref a ∧ DGet H2 a y (some v) ∧
  tv σ H2 fun y2 H3 => rd v y2 H3 fun z H4 => ∃ H5, DPut H4 a y z H5 ∧ D.nx σ H5
def sDDel (td ty : TE) : TS := fun D σ H => td σ H fun x H1 => ty σ H1 fun y H2 => ∃ a kvs k, x = .ref a ∧ H2 a = some (.dK kvs) ∧ y = kV k ∧ (valV kvs k).isSome = true ∧ D.nx σ (upd H2 a (.dK (dropK kvs k)))
section
variable {X : Cx} {o i e value : Expr} {pos pos' tpos : Pos} {td ty tv : TE}
end
theorem dk_empty {P : Program} {w : World} {H : Hp} (h : Heap) (hb : sysModules < h.objs.size) : ObjOk P w H (h.push { cls := .type "dict", data := .dict #[] }) h.objs.size (.dK []) :=
  ⟨Nat.zero_le _, beq_eq_false_iff_ne.mpr (Ne.symm (Nat.ne_of_lt hb)), [], .nil, Heap.DictOf.new h⟩
def tDNewK : TE := fun _ H Q => ∀ p, H p = none → Q (.ref p) (upd H p (.dK []))
def tDNewT : TE := fun _ H Q => ∀ p, H p = none → Q (.ref p) (upd H p (.dT []))
section
variable {X : Cx} {pos : Pos}
theorem pe_dnewK : PE X (.Dict [] [] pos) tDNewK := fun pins s σ H Q I h =>
  wpAny_Dict_empty ⟨.ref s.heap.objs.size, _, I.laid (a := s.heap.objs.size) (o := .dK []) (t' := s.toks) (fun _ _ q => Heap.get?_push_of_some _ q) (Nat.le_refl _) (dk_empty s.heap I.big), rfl, h _ (I.hok.fresh (Nat.le_refl _))⟩
end
def tPairs : List (TE × TE) → St → Hp → (List (V × V) → Hp → Prop) → Prop
  | [], _, H, Q => Q [] H
  | (tk, tv) :: r, σ, H, Q => tk σ H fun x H1 => tv σ H1 fun y H2 => tPairs r σ H2 fun ps H3 => Q ((x, y) :: ps) H3
abbrev VV : List (V × V) → List (Value × Value) → Prop := Paired fun p q => RelV p.1 q.1 ∧ RelV p.2 q.2
def PPs (X : Cx) (pos : Pos) (keys : List (Option Expr)) (values : List Expr) (trs : List (TE × TE)) : Prop :=
  ∀ (pins : List (Addr × Obj)) (s : Shared) (σ : St) (H : Hp) (Q : List (V × V) → Hp → Prop), Inv X pins σ H s → tPairs trs σ H Q →
    wpAny (model X.prog X.w) X.A (evalPairs (pairTrees keys values X.env pos)) (fun vs s' => ∃ ps H', Inv X pins σ H' s' ∧ VV ps vs ∧ Q ps H') X.xe s
def mergeK (kvs more : List (Key × V)) : List (Key × V) := more.foldl (fun acc kv => putK acc kv.1 kv.2) kvs
def tDisp (trs : List (TE × TE)) : TE := fun σ H Q => ∀ p, H p = none → tPairs trs σ (upd H p (.dK [])) fun ps H2 => H2 p = some (.dK []) ∧ ∃ kvs : List (Key × V), ps = kvs.map (fun kv => (kV kv.1, kv.2)) ∧ kvs.length ≤ 15 ∧ Q (.ref p) (upd H2 p (.dK (mergeK [] kvs)))
structure M1 (X : Cx) (o : Expr) (m : Str) (apos : Pos) (e : Expr) (cpos : Pos) : Prop where
  base : attributeBase o m X.env (eval o X.env) = eval o X.env
  few : ((backTo cpos (starEach [e] X.env)).all (fun x => !x.1) && (backToKw cpos (keywordEach [] X.env)).all (fun x => x.1.isSome)
    && decide (([e] : List Expr).length + ([] : List Keyword).length + (if ([] : List Keyword).isEmpty then 0 else 1) < 30)) = true
  line : (apos.endLine == cpos.line) = true
  trees : backTo cpos (starEach [e] X.env) = [(false, eval e X.env)]
structure M2 (X : Cx) (o : Expr) (m : Str) (apos : Pos) (e f : Expr) (cpos : Pos) : Prop where
  base : attributeBase o m X.env (eval o X.env) = eval o X.env
  few : ((backTo cpos (starEach [e, f] X.env)).all (fun x => !x.1) && (backToKw cpos (keywordEach [] X.env)).all (fun x => x.1.isSome)
    && decide (([e, f] : List Expr).length + ([] : List Keyword).length + (if ([] : List Keyword).isEmpty then 0 else 1) < 30)) = true
  line : (apos.endLine == cpos.line) = true
  trees : backTo cpos (starEach [e, f] X.env) = [(false, eval e X.env), (false, eval f X.env)]
def IsD (H : Hp) (a : Addr) : Prop := (∃ kvs, Rd H a (.dK kvs)) ∨ ∃ kvs, Rd H a (.dT kvs)
section
variable {X : Cx} {pins : List (Addr × Obj)} {σ : St} {H : Hp} {s : Shared} {a : Addr} {y d : V} {u r : Value} {o : Option V} {A : Around} {E : Value → Shared → Prop}
end
def tDGet1 (td ty : TE) : TE := fun σ H Q => td σ H fun x H1 => ∃ a, x = .ref a ∧ IsD H1 a ∧ ty σ H1 fun y H2 => ∃ o, DGet H2 a y o ∧ Q (o.getD .non) H2
def tDGet2 (td ty tx : TE) : TE := fun σ H Q => td σ H fun x H1 => ∃ a, x = .ref a ∧ IsD H1 a ∧ ty σ H1 fun y H2 => tx σ H2 fun z H3 => ∃ o, DGet H3 a y o ∧ Q (o.getD z) H3
def tDPop1 (td ty : TE) : TE := fun σ H Q => td σ H fun x H1 => ∃ a, x = .ref a ∧ IsD H1 a ∧ ty σ H1 fun y H2 => ∃ kvs k v, H2 a = some (.dK kvs) ∧ y = kV k ∧ valV kvs k = some v ∧ Q v (upd H2 a (.dK (dropK kvs k)))
def tDPop2 (td ty tx : TE) : TE := fun σ H Q => td σ H fun x H1 => ∃ a, x = .ref a ∧ IsD H1 a ∧ ty σ H1 fun y H2 => tx σ H2 fun z H3 => ∃ kvs k, H3 a = some (.dK kvs) ∧ y = kV k ∧
  (∀ v, valV kvs k = some v → Q v (upd H3 a (.dK (dropK kvs k)))) ∧ (valV kvs k = none → Q z H3)
section
variable {X : Cx} {o e f : Expr} {apos cpos : Pos} {td ty tx : TE}
end
section
variable {X : Cx} {pins : List (Addr × Obj)} {σ : St} {H : Hp} {s : Shared} {a : Addr} {kvs : List (Key × V)} {A : Around} {E : Value → Shared → Prop}
end
section
variable {X : Cx} {pins : List (Addr × Obj)} {σ : St} {H : Hp} {s : Shared} {a : Addr} {y : V} {u : Value} {A : Around} {E : Value → Shared → Prop}
end
end L2
namespace Att
open PySem PySem.W PySem.Calls PyProof.Rows
theorem ints_of_wellAll {P : Params} {h : Heap} : ∀ (ns : List Int) (vs : List Value), WellAll P h vs (ns.map WData.int) → IntsAre vs ns := by
  intro ns
  induction ns with
  | nil =>
    intro vs w
    rw [List.map_nil] at w
    cases w
    exact .nil
  | cons n ns ih =>
    intro vs w
    rw [List.map_cons] at w
    cases w with
    | cons a b =>
      cases a
      exact .cons _ _ (ih _ b)
theorem script_of {l : OpenLaw} {n : Nat} (hn : l.most = some n) {P : Params} {h : Heap} {args : List WData} {vals : List Value}
    (hpre : l.row.toRowW.claim.pre args = true) (hwl : WellAll P h vals args) :
    ∃ a vs ns, vals = [Value.ref a] ∧ args = [WData.list (ns.map WData.int)] ∧ h.get? a = some { cls := .type "list", data := .seq vs.toArray } ∧ IntsAre vs ns ∧ ns.length ≤ n := by
  have hsh : WShape.hasAll [] args [.list .int] = true := (pre_splitW hpre).1
  have hc : l.pre.holds [] { args := args } = true := (pre_splitW hpre).2
  obtain ⟨d, r, rfl, h1, h2⟩ := hasAllW_cons hsh
  obtain rfl := hasAllW_nil h2
  obtain ⟨xs, rfl, h3⟩ := hasW_list h1
  obtain ⟨ns, rfl⟩ := items_int h3
  have hlen : ns.length ≤ n := by
    unfold OpenLaw.pre at hc
    have h4 : (WTm.not (.lt (.lit (.int (n : Int))) (.len (.arg 0)))).holds [] { args := [.list (ns.map .int)] } = true := by
      have h4 := (holds_andW hc).1
      rw [hn] at h4
      exact h4
    have h5 := condW_of h4 (w_not (w_lt w_lit (w_len_list (w_arg rfl))))
    rw [List.length_map] at h5
    refine Nat.le_of_not_lt fun q => ?_
    have q' : (n : Int) < ((ns.length : Nat) : Int) := by omega
    first
      | (rw [decide_eq_true q'] at h5; exact absurd h5 (by decide))
      | (simp at h5; omega)
  cases hwl with
  | cons w1 w2 =>
    cases w2
    cases w1 with
    | list ho hall => exact ⟨_, _, ns, rfl, rfl, ho, ints_of_wellAll ns _ hall, hlen⟩
theorem post_true (l : OpenLaw) (args : List WData) : l.row.toRowW.claim.post args (.bool true) args = true :=
  postW_of (r := l.row.toRowW) (X := (true == true))
    (show WShape.has [] (.bool true) .bool = true by first | rfl | decide | simp [WShape.has, WShape.arms, WShape.armsAll])
    (show (WTm.eq .res (.lit (.bool true))).value [] { args := args, res := some (.bool true), after := args } = some (.bool (true == true)) from w_eq_bool (w_res rfl) w_lit) rfl
theorem attach_call {l : OpenLaw} {n : Nat} {q : Program} {loose : List Str} {XP : (Str → Option Value) → Heap → Prop} {YP : World → Heap → Prop} {d : DefRec}
    (hn : l.most = some n) (hdf : d.params.defaults = [])
    (call : ∀ (w : World) (s₀ s₁ : Shared) (mg mb : Str → Option Value) (fa : Addr) (o : Obj) (pm cd doc : Value) (a : Addr) (vs : List Value) (ns : List Int),
      Ground q loose [] XP w s₀ mg mb s₁.heap → YP w s₁.heap →
      s₁.heap.get? fa = some o → o.data = .func (docDef d.name d.params d.body d.scope pm cd doc) → s₁.heap.CodeRec cd d.name → mg d.name = some (.ref fa) →
      s₁.heap.get? a = some { cls := .type "list", data := .seq vs.toArray } → IntsAre vs ns → ns.length ≤ n → s₁.gens = #[] →
      codeAny (model l.prog w) callerA (.call (.ref fa) ⟨[.ref a], []⟩) (fun r s' => r = .ok (.ret (.bool true)) ∧ OldK s₁.heap s'.heap ∧ s'.os = s₁.os ∧ AllBare s'.gens) s₁) :
    WalkO q loose XP YP l.row.toRowW d [] (fun f vs => PySem.call f vs) := by
  intro w s₀ s₁ mg mb G Y fa o pm cd doc dV kV ho hd hcd hD hmg hg args vals as hpre hlay hrd hwl hlo
  obtain rfl : dV = .none := Dflts.none hD hdf
  obtain rfl : kV = .none := Dflts.noKw hD
  obtain ⟨a, vs, ns, rfl, rfl, hobj, hints, hlen⟩ := script_of hn hpre hwl
  refine enter_call (codeAny_mono (call w s₀ s₁ mg mb fa o pm cd doc a vs ns G Y ho (fd_plain hd) hcd hmg hobj hints hlen hg) fun r s' hq => ?_)
  obtain ⟨rfl, h2, h3, h4⟩ := hq
  exact ⟨.inl ⟨.bool true, .bool true, [], rfl, fun _ => rfl, .bool true, post_true l _, fun _ => ⟨List.Pairwise.nil, fun _ hm => (nomatch hm)⟩⟩, h2, h3, h4⟩
section
variable {prog : Program} {w : World} {A : Around} {E : Value → Shared → Prop} {s : Shared} {K : Frag}
def noObjs (h : Heap) : Heap := { h with objs := #[] }
def ledger (h : Heap) (L d : Addr) : List (Addr × Obj) := (List.range h.objs.size).filterMap fun a => if a = L ∨ a = d then none else (h.get? a).map fun o => (a, o)
end
end Att
namespace L2
open PySem PySem.Spec PyProof.Rows
theorem vals_ints : ∀ {vs : List Value} {ns : List Int}, IntsAre vs ns → Vals (ns.map V.int) vs
  | _, _, .nil => .nil
  | _, _, .cons n t h => .cons ⟨t, rfl⟩ (vals_ints h)
def Only (H : Hp) : Prop := ∀ b, H b = none ∨ ∃ o xs, H b = some (.frz o (.lst xs))
theorem law_call {P : Program} {w : World} {K : PySem.W.Frag} {mg mb : Str → Option Value} {CX : CXT} {k : Nat} {fa a : Addr} {fd : FuncData} {x : Str} {sp : Sp} {s₁ : Shared} {vs : List Value} {ns : List Int}
    (KX : K.In s₁.heap) (hns : s₁.heap.Ns mainGlobals mg) (hb : s₁.heap.Ns builtinsNs mb) (hbb : ∀ x : Str, x ≠ "__name__" → mb x = bootBuiltins x) (hlim : s₁.heap.NoLimit) (hg : s₁.gens = #[])
    (ha : s₁.heap.get? a = some { cls := .type "list", data := .seq vs.toArray }) (hi : IntsAre vs ns) (hl : ns.length ≤ sizeLine) (hr : Room k callerA)
    (F : ∀ base : Heap, K.In base → base.Ns mainGlobals mg → FnOk P w K mg base CX k fa fd [x] sp) (hbind : ∀ (s : Shared) (u : Value), BindsTo s fd ⟨[u], []⟩ [(x, u)])
    (hsp : ∀ H : Hp, Only H → SqL K H a (ns.map V.int) → sp [.ref a] H (fun v _ => v = .bl true) fun _ _ _ => False)
    (hCX : ∀ H e s', CX [] H s₁ (fun _ _ _ => False) e s' → False) :
    codeAny (model P w) callerA (.call (.ref fa) ⟨[.ref a], []⟩) (fun r s' => r = .ok (.ret (.bool true)) ∧ OldK s₁.heap s'.heap ∧ s'.os = s₁.os ∧ AllBare s'.gens) s₁ := by
  have rv := vals_ints hi
  have lenV := hi.length
  have core : ∀ H : Hp, Only H → SqL K H a (ns.map V.int) → HOk P w H s₁.heap → (∀ b, H b ≠ none → b = a) → (H a ≠ none → K.lookup a = none) →
      codeAny (model P w) callerA (.call (.ref fa) ⟨[.ref a], []⟩) (fun r s' => r = .ok (.ret (.bool true)) ∧ OldK s₁.heap s'.heap ∧ s'.os = s₁.os ∧ AllBare s'.gens) s₁ := by
    intro H hO hS hok hA hK
    have base_of : ∀ {b : Addr} {o : Obj}, s₁.heap.get? b = some o → H b = none → (hidT s₁.heap H).get? b = some o := fun e n => hidT_get e n
    have noA : ∀ {b : Addr} {o : Obj} {es : Array DictEntry} {ep : Nat}, s₁.heap.get? b = some o → o.data = .dict es ep → H b = none := fun {b o es ep} e d => by
      cases q : H b with
      | none => rfl
      | some u =>
        have e' : b = a := hA b (by rw [q]; simp)
        subst e'
        rw [ha] at e; cases e
        have d' : Data.seq vs.toArray _ = Data.dict es ep := d
        cases d'
    have nsK : ∀ {b : Addr} {m : Str → Option Value}, s₁.heap.Ns b m → (hidT s₁.heap H).Ns b m := fun {b m} ⟨o, es, ep, e, d, r⟩ => ⟨o, es, ep, base_of e (noA e d), d, r⟩
    have hKb : K.In (hidT s₁.heap H) := fun b o e => base_of (KX b o e) (by
      cases q : H b with
      | none => rfl
      | some u =>
        have e' : b = a := hA b (by rw [q]; simp)
        subst e'
        rw [hK (by rw [q]; simp)] at e; cases e)
    have hM : Mod K mg (hidT s₁.heap H) := ⟨hKb, nsK hns, ⟨mb, nsK hb, hbb⟩, let ⟨mc, h1, h2⟩ := hlim; ⟨mc, nsK h1, h2⟩⟩
    have e0 : Env0 P w K mg (hidT s₁.heap H) callerA [] s₁ H := ⟨rfl, hM, fun b o e => of_hidT e, Nat.le_of_eq (hidT_size _ _), trivial, fun b hb => absurd (show b ∈ ([] : List Addr) from hb) (by simp), hok, .of_eq hg⟩
    refine codeAny_mono ((F _ hKb (nsK hns)).run callerA [] s₁ H ⟨[.ref a], []⟩ [.ref a] [.ref a] _ _ hr e0 (hbind s₁ (.ref a)) (.cons rfl .nil) (hsp H hO hS)) fun r s' h => ?_
    cases r with
    | error e => exact (hCX H e s' h).elim
    | ok fl =>
      cases fl with
      | next => exact False.elim h
      | brk => exact False.elim h
      | cont => exact False.elim h
      | ret u =>
        obtain ⟨v, H', os, bare, un, hok', r', q⟩ := h
        have q' : v = .bl true := q
        subst q'
        obtain rfl : u = Value.bool true := r'
        refine ⟨rfl, OldK.of_keep fun b o e => ?_, os, bare⟩
        cases q : H b with
        | none => exact un.keep b o e q (by intro z; exact absurd (show b ∈ ([] : List Addr) from z) (by simp)) (by simp)
        | some u =>
          rcases hO b with z | ⟨ob, xs, z⟩
          · rw [q] at z; cases z
          · have z2 := un.frzs b ob _ z
            obtain ⟨e1, _⟩ := hok b _ z
            obtain ⟨e2, _⟩ := hok' b _ z2
            rw [e] at e1; cases e1
            exact e2
  cases hk : K.lookup a with
  | some o =>
    have e := KX a o hk
    rw [ha] at e
    cases e
    refine core (fun _ => none) (fun _ => .inl rfl) (.inr ⟨_, vs.toArray, _, hk, rfl, rfl, rfl, by rw [List.size_toArray, lenV]; exact hl, by simpa using rv⟩) (fun b u z => by have z' : (none : Option HO) = some u := z; cases z') (fun b z => absurd rfl z) fun z => absurd rfl z
  | none =>
    refine core (fun b => if b = a then some (.frz { cls := .type "list", data := .seq vs.toArray } (.lst (ns.map V.int))) else none) (fun b => ?_) (.inl (.inr ⟨{ cls := .type "list", data := .seq vs.toArray }, if_pos rfl⟩)) (fun b u z => ?_) (fun b z => ?_) fun _ => hk
    · by_cases hb : b = a
      · exact .inr ⟨_, _, if_pos hb⟩
      · exact .inl (if_neg hb)
    · by_cases hb : b = a
      · have z' := (if_pos hb).symm.trans z
        cases z'
        subst hb
        exact ⟨ha, by rw [List.length_map]; exact hl, vs, _, rv, ha⟩
      · have z' := (if_neg hb).symm.trans z
        cases z'
    · by_cases hb : b = a
      · exact hb
      · exact absurd (if_neg hb) z
end L2
namespace L2
open PySem PySem.Spec PyProof.Rows
abbrev KOf {K : PySem.W.Frag} {h : Heap} (_ : K.In h) : PySem.W.Frag := K
theorem walk_of {l : PySem.W.OpenLaw} {n k : Nat} {q : Program} {loose : List Str} {XP : (Str → Option Value) → Heap → Prop} {YP : World → Heap → Prop} {d : DefRec} {K : Params → PySem.W.Frag} {CX : World → CXT} {sp : World → Sp} {x : Str}
    (hn : l.most = some n) (hn2 : n ≤ sizeLine) (hdf : d.params.defaults = []) (hr : Room k callerA)
    (hY : ∀ (w : World) (h : Heap), YP w h → (K w.params).In h)
    (F : ∀ (w : World) (mg : Str → Option Value) (fa : Addr) (h : Heap), (K w.params).In h → h.Ns mainGlobals mg → mg d.name = some (.ref fa) →
      ∃ fd : FuncData, (∀ (s : Shared) (u : Value), BindsTo s fd ⟨[u], []⟩ [(x, u)]) ∧
        ∀ base : Heap, (K w.params).In base → base.Ns mainGlobals mg → FnOk l.prog w (K w.params) mg base (CX w) k fa fd [x] (sp w))
    (hsp : ∀ (w : World) (H : Hp) (a : Addr) (ns : List Int), ns.length ≤ n → Only H → SqL (K w.params) H a (ns.map V.int) → sp w [.ref a] H (fun v _ => v = .bl true) fun _ _ _ => False)
    (hCX : ∀ (w : World) (H : Hp) (s : Shared) (e : Value) (s' : Shared), CX w [] H s (fun _ _ _ => False) e s' → False) :
    PySem.W.WalkO q loose XP YP l.row.toRowW d [] (fun f vs => PySem.call f vs) := by
  refine Att.attach_call hn hdf fun w s₀ s₁ mg mb fa o pm cd doc a vs ns G Y ho hd hcd hmg hobj hints hlen hg => ?_
  have KX := hY w _ Y
  obtain ⟨fd, hb, hF⟩ := F w mg fa _ KX G.T.g hmg
  exact law_call KX G.T.g G.T.b G.T.builtins G.T.nolimit hg hobj hints (Nat.le_trans hlen hn2) hr hF hb (fun H hO hS => hsp w H a ns hlen hO hS) fun H e s' => hCX w H s₁ e s'
end L2
namespace L2
open PySem PySem.Spec PyProof.Rows
def inClass (s : Stmt) (j : Nat) : Stmt := match s with
  | .ClassDef _ _ _ body _ _ _ _ _ _ _ => body.getD j (.Pass ⟨0, 0, 0, 0⟩)
  | _ => .Pass ⟨0, 0, 0, 0⟩
def defArgs (s : Stmt) : Arguments := match s with
  | .FunctionDef _ a _ _ _ _ _ _ _ _ => a
  | _ => { posonlyargs := [], args := [], vararg := none, kwonlyargs := [], kw_defaults := [], kwarg := none, defaults := [] }
def defBody (s : Stmt) : List Stmt := match s with
  | .FunctionDef _ _ b _ _ _ _ _ _ _ => b
  | _ => []
def defScope (s : Stmt) : Scope := match s with
  | .FunctionDef _ _ _ _ _ _ sc _ _ _ => sc
  | _ => { kind := .function, names := [], isGenerator := false, isCoroutine := false }
abbrev CX0 : CXT := fun _ _ _ _ _ _ => False
abbrev E0 : XK := fun _ _ _ => False
theorem pass0 {X : Cx} : Passes CX0 X E0 := fun _ _ _ _ _ _ _ h => h.elim
structure Fun (K : PySem.W.Frag) (x qual : Str) (st : Stmt) (f : Addr) (fd : FuncData) : Prop where
  ex : ∃ (oc : Value) (od : Option Addr) (kV doc pm : Value) (an : Option Addr) (cdv ct : Value) (osl : Array (Option Value)),
    fd = PySem.W.fnOf x qual (defArgs st) (defBody st) (defScope st) .none kV doc pm an cdv ct ∧ K.lookup f = some ⟨oc, od, .func fd, osl⟩ ∧ PySem.W.codeIn K cdv qual = true
  kp : PySem.W.keepIn K (.ref f) = true
section
variable {P : Program} {w : World} {K : PySem.W.Frag} {mg : Str → Option Value} {base : Heap}
theorem Fun.ok {x qual : Str} {st : Stmt} {f : Addr} {fd : FuncData} {N ps : List Str} {k : Nat} {sp : Sp} (F : Fun K x qual st f fd) (S : FnScope N ps (defScope st)) (len : ∀ vs H Q E, sp vs H Q E → vs.length = ps.length)
    (hbody : ∀ (cdv : Value) (A : Around) (outer : List Env) (s : Shared) (H : Hp) (vs : List V) (Q : VK) (E : XK), Room k (A.deeper (envOfC qual (defScope st) s.heap.objs.size f cdv)) → sp vs H Q E →
      ∃ t, PSs (cxOf CX0 P w K mg base N qual (defScope st) f cdv A outer s H E).nox (defBody st) t ∧ t { nx := fun _ H' => Q .non H', rt := Q } (start N vs) H) : FnOk P w K mg base CX0 (k + 1) f fd ps sp := by
  obtain ⟨oc, od, kV, doc, pm, an, cdv, ct, osl, rfl, lk, hcd⟩ := F.ex
  refine fn_of lk hcd S len fun A outer s H vs Q E hr hsp => ?_
  obtain ⟨t, h, q⟩ := hbody cdv A outer s H vs Q E hr hsp
  exact ⟨t, h.nox, q⟩
theorem Fun.binds {x qual : Str} {st : Stmt} {f : Addr} {fd : FuncData} {ps : List Str} (F : Fun K x qual st f fd)
    (h : ∀ (kV doc pm : Value) (an : Option Addr) (cdv ct : Value) (us : List Value), us.length = ps.length → bindArgs (PySem.W.fnOf x qual (defArgs st) (defBody st) (defScope st) .none kV doc pm an cdv ct) ⟨us, []⟩ = pure (ps.zip us)) : Binds K fd ps [] := by
  obtain ⟨oc, od, kV, doc, pm, an, cdv, ct, osl, rfl, lk, hcd⟩ := F.ex
  exact .all (h kV doc pm an cdv ct)
theorem fun_mk {x qual : Str} {st : Stmt} {f : Addr} {oc : Value} {od an : Option Addr} {osl : Array (Option Value)} {kV doc pm cdv ct : Value} (l : K.lookup f = some ⟨oc, od, .func (PySem.W.fnOf x qual (defArgs st) (defBody st) (defScope st) .none kV doc pm an cdv ct), osl⟩)
    (c : PySem.W.codeIn K cdv qual = true) (k : PySem.W.keepIn K (.ref f) = true) : Fun K x qual st f (PySem.W.fnOf x qual (defArgs st) (defBody st) (defScope st) .none kV doc pm an cdv ct) := ⟨⟨oc, od, kV, doc, pm, an, cdv, ct, osl, rfl, l, c⟩, k⟩
end
section
variable {X : Cx}
theorem pv (i : Nat) {x : Str} {pos : Pos} (hN : X.N[i]? = some x := by rfl) (hv : Vis X.env.scope x := by first | exact Or.inl rfl | exact Or.inr (Or.inl rfl) | exact Or.inr (Or.inr rfl)) (hd : (x == ("__debug__" : Str)) = false := by decide)
    (hcd : (x == ("__classdict__" : Str)) = false := by decide) : PE X (.Name x pos) (tVar i) := pe_var hN hv hd hcd
theorem call_lenD : CallR X (.builtin "len") (fun xs H Q => ∃ a kvs, xs = [V.ref a] ∧ H a = some (.dK kvs) ∧ Q (.int kvs.length) H) := by
  intro pins s σ H xs us Q I r h
  obtain ⟨a, kvs, rfl, ha, q⟩ := h
  obtain ⟨u, rfl, ru⟩ := vals1 r
  cases ru
  exact d_len I (.inl ha) fun t s' I' => ⟨.int kvs.length, H, I', ⟨t, rfl⟩, q⟩
end
theorem ite2 {c A B : Prop} [Decidable c] (h1 : c → A) (h2 : ¬ c → B) : if c then A else B := by
  by_cases h : c
  · rw [if_pos h]
    exact h1 h
  · rw [if_neg h]
    exact h2 h
def Same (H H' : Hp) : Prop := ∀ b o, H b = some o → H' b = some o
theorem Same.refl (H : Hp) : Same H H := fun _ _ h => h
theorem Same.trans {H H1 H2 : Hp} (a : Same H H1) (b : Same H1 H2) : Same H H2 := fun c o h => b c o (a c o h)
theorem Same.free {H H' : Hp} (e : Same H H') {l : Addr} (h : H' l = Option.none) : H l = Option.none := by
  cases q : H l with
  | none => rfl
  | some o =>
    rw [e l o q] at h
    cases h
theorem Same.seq {K : PySem.W.Frag} {H H' : Hp} {a : Addr} {xs : List V} (e : Same H H') (h : SqL K H a xs) : SqL K H' a xs := by
  rcases h with (h | ⟨o, h⟩) | h
  · exact .inl (.inl (e _ _ h))
  · exact .inl (.inr ⟨o, e _ _ h⟩)
  · exact .inr h
section
variable {κ : Type} [DecidableEq κ]
theorem valV_in {kvs : List (κ × V)} {k : κ} {v : V} (h : valV kvs k = some v) : k ∈ kvs.map (·.1) := by
  have q : (kvs.any fun kv => decide (kv.1 = k)) = true := by
    rw [valV_any, h]
    all_goals rfl
  obtain ⟨p, hp, e⟩ := List.any_eq_true.mp q
  exact List.mem_map.mpr ⟨p, hp, of_decide_eq_true e⟩
end
end L2
section
set_option maxRecDepth 100000
set_option maxHeartbeats 4000000
set_option linter.all false
namespace L2
open PySem PySem.Spec PyProof.Rows
structure CompSc (own fr : List Str) (sc osc : Scope) : Prop where
  kind : sc.kind = .function
  nocell : ∀ y ∈ sc.names, y.2 ≠ .cell
  free : ∀ y ∈ sc.names, y.2 = .free → y.1 ∈ fr
  locs : ∀ y ∈ sc.names, y.2 = .local → sc.names.lookup y.1 = some .local
  ownl : ∀ x ∈ own, sc.names.lookup x = some .local
  frl : ∀ x ∈ fr, sc.names.lookup x = some .free ∧ osc.names.lookup x = some .cell
  nd : (own ++ fr).Nodup
theorem lookup_relabel (c : Str → NameKind → Bool) (x : Str) : ∀ names : List (Str × NameKind),
    (names.map fun (p : Str × NameKind) => if c p.1 p.2 = true then (p.1, NameKind.cell) else (p.1, p.2)).lookup x = (names.lookup x).map fun k => if c x k = true then NameKind.cell else k
  | [] => rfl
  | (n, k) :: r => by
    have ih := lookup_relabel c x r
    by_cases hx : x = n
    · subst hx
      by_cases hc : c x k = true
      · simp [List.lookup_cons, hc]
      · simp [List.lookup_cons, hc]
    · have hb : (x == n) = false := by simpa using hx
      by_cases hc : c n k = true
      · simp only [List.map_cons, hc, if_true, List.lookup_cons, hb]; exact ih
      · simp only [List.map_cons, hc, if_false, List.lookup_cons, hb, Bool.false_eq_true]; exact ih
theorem relabel_lookup (sc : Scope) (env : Env) (x : Str) : (relabel sc env).names.lookup x = (sc.names.lookup x).map fun k =>
    if (k == NameKind.free && env.scope.kind == .function && env.kindOf x == some .cell) = true then NameKind.cell else k := by
  unfold relabel
  exact lookup_relabel (fun n k => (k == NameKind.free && env.scope.kind == .function && env.kindOf n == some .cell)) x sc.names
def clGo (env : Env) : List (Str × NameKind) → List (Str × Addr) → List (Str × Addr)
  | [], acc => acc
  | (x, k) :: r, acc => clGo env r (if k == .free then (x, (env.cells.lookup x).getD 0) :: acc else acc)
theorem closureGo {env : Env} : ∀ (names : List (Str × NameKind)) (acc : List (Str × Addr)), (∀ y ∈ names, y.2 = .free → ∃ c, env.cells.lookup y.1 = some c) →
    (forIn names acc fun (p : Str × NameKind) cs => (if (p.2 == NameKind.free) = true then (do let a ← cellOf env p.1; pure (ForInStep.yield ((p.1, a) :: cs))) else pure (ForInStep.yield cs) : Sem (ForInStep (List (Str × Addr))))) = pure (clGo env names acc)
  | [], acc, _ => rfl
  | (x, k) :: r, acc, h => by
    have ih := fun acc => closureGo r acc fun y hy => h y (List.mem_cons_of_mem _ hy)
    rw [List.forIn_cons]
    by_cases hk : k = .free
    · subst hk
      obtain ⟨c, hc⟩ := h (x, .free) List.mem_cons_self rfl
      have e : cellOf env x = pure c := by unfold cellOf; rw [hc]
      simp only [beq_self_eq_true, if_true, e, pure_bind]
      rw [ih]
      simp [clGo, hc]
    · have hb : (k == NameKind.free) = false := by simpa using hk
      simp only [hb, Bool.false_eq_true, if_false, pure_bind]
      rw [ih]
      simp [clGo, hb]
theorem closureFor_go {sc : Scope} {env : Env} (h : ∀ y ∈ sc.names, y.2 = .free → ∃ c, env.cells.lookup y.1 = some c) : closureFor sc env = pure (clGo env sc.names []) := by
  have e := closureGo (env := env) sc.names [] h
  unfold closureFor
  simp only [bind_pure] at e ⊢
  refine Eq.trans ?_ e
  rfl
theorem clGo_mem {env : Env} : ∀ {names : List (Str × NameKind)} {acc : List (Str × Addr)} {x : Str} {c : Addr}, (clGo env names acc).lookup x = some c → acc.lookup x = some c ∨ ((∃ y ∈ names, y.1 = x ∧ y.2 = .free) ∧ c = (env.cells.lookup x).getD 0)
  | [], acc, x, c, h => .inl h
  | (n, k) :: r, acc, x, c, h => by
    have h : (clGo env r (if k == .free then (n, (env.cells.lookup n).getD 0) :: acc else acc)).lookup x = some c := h
    rcases clGo_mem h with h' | ⟨⟨y, hy, e1, e2⟩, e⟩
    · by_cases hk : k = .free
      · subst hk
        simp only [beq_self_eq_true, if_true, List.lookup_cons] at h'
        by_cases hx : x = n
        · subst hx
          simp at h'
          exact .inr ⟨⟨_, List.mem_cons_self, rfl, rfl⟩, h'.symm⟩
        · have hb : (x == n) = false := by simpa using hx
          rw [hb] at h'
          exact .inl h'
      · have hb : (k == NameKind.free) = false := by simpa using hk
        rw [hb] at h'
        exact .inl h'
    · exact .inr ⟨⟨y, List.mem_cons_of_mem _ hy, e1, e2⟩, e⟩
theorem clGo_has {env : Env} : ∀ {names : List (Str × NameKind)} {acc : List (Str × Addr)} {x : Str}, ((∃ c, acc.lookup x = some c) ∨ ∃ y ∈ names, y.1 = x ∧ y.2 = .free) → ∃ c, (clGo env names acc).lookup x = some c
  | [], acc, x, h => by
    rcases h with h | ⟨y, hy, _⟩
    · exact h
    · cases hy
  | (n, k) :: r, acc, x, h => by
    show ∃ c, (clGo env r (if k == .free then (n, (env.cells.lookup n).getD 0) :: acc else acc)).lookup x = some c
    refine clGo_has ?_
    by_cases hk : k = .free
    · subst hk
      simp only [beq_self_eq_true, if_true, List.lookup_cons]
      by_cases hx : x = n
      · subst hx
        exact .inl ⟨(env.cells.lookup x).getD 0, by simp⟩
      · have hb : (x == n) = false := by simpa using hx
        rw [hb]
        rcases h with h | ⟨y, hy, e1, e2⟩
        · exact .inl h
        · rcases List.mem_cons.mp hy with z | z
          · subst z; exact absurd e1.symm hx
          · exact .inr ⟨y, z, e1, e2⟩
    · have hb : (k == NameKind.free) = false := by simpa using hk
      rw [hb]
      rcases h with h | ⟨y, hy, e1, e2⟩
      · exact .inl h
      · rcases List.mem_cons.mp hy with z | z
        · subst z; exact absurd e2 hk
        · exact .inr ⟨y, z, e1, e2⟩
def cxComp (X : Cx) (own fr : List Str) (sc : Scope) (C : Addr) (s₀ : Shared) (H₀ : Hp) (ex : List Addr) : Cx :=
  { X with N := own ++ fr, s₀ := s₀, H₀ := H₀, env := compEnvC sc (clGo X.env sc.names []) C X.env, outer := X.stack, ex := ex, fn := fun _ => false, pn := [], xe := fun _ _ => False }
def frv (js : List Nat) (σ : St) : St := js.map fun j => (σ[j]?).getD none
abbrev GX := V → Hp → (List V → Prop) → Prop
def gx1 : GX := fun x _ k => k [x]
def gxT (K : PySem.W.Frag) (n : Nat) : GX := fun x H k => ∃ a xs, x = .ref a ∧ SqT K H a xs ∧ xs.length = n ∧ k xs
def tComp (wi : TI) (gx : GX) (tt : TT) (te : TE) (js : List Nat) : TE := fun σ H Q =>
  wi σ H fun J H1 => ∃ W : Nat → Nat → List V → Hp → Prop, (∃ m, W 0 m [] H1) ∧ ∀ i m ys H, W i m ys H →
    (J.stop i H ∧ ys.length ≤ sizeLine ∧ ∀ p, H p = none → Q (.ref p) (upd H p (.lst ys))) ∨
    (J.go i H ∧ ys.length < sizeLine ∧ ∀ x H', J.yld i H x H' → gx x H' fun vs => tt (vs.map some ++ frv js σ) H' fun b H2 =>
      if b = true then te (vs.map some ++ frv js σ) H2 fun y H3 => ∃ m', m' < m ∧ W (i + 1) m' (ys ++ [y]) H3 else ∃ m', m' < m ∧ W (i + 1) m' ys H2)
def PTs (X : Cx) (ifs : List Expr) (t : TT) : Prop :=
  ∀ (pins : List (Addr × Obj)) (s : Shared) (σ : St) (H : Hp) (Q : Bool → Hp → Prop), Inv X pins σ H s → t σ H Q →
    wpAny (model X.prog X.w) X.A (forIn ifs true fun c r => if r = true then do let ok ← isTrue c X.env (eval c X.env); pure (ForInStep.yield ok) else pure (ForInStep.yield r)) (TP X pins σ Q) X.xe s
def tYes : TT := fun _ H Q => Q true H
theorem pts_nil {X : Cx} : PTs X [] tYes := fun pins s σ H Q I h => wpAny_tests_nil ⟨H, I, h⟩
theorem pts_one {X : Cx} {c : Expr} {t : TT} (h : PT X c t) : PTs X [c] t := fun pins s σ H Q I q => wpAny_tests_one (h pins s σ H Q I q)
def PGx (X : Cx) (n : Nat) (tg : Expr) (gx : GX) : Prop :=
  ∀ (pins : List (Addr × Obj)) (s : Shared) (σ fr : St) (H : Hp) (v : V) (u : Value) (Q : List V → Prop), Inv X pins (List.replicate n none ++ fr) H s → RelV v u → gx v H Q →
    wpAny (model X.prog X.w) X.A (assign tg X.env u) (fun _ s' => ∃ vs : List V, vs.length = n ∧ Inv X pins (vs.map some ++ fr) H s' ∧ Q vs) X.xe s
theorem pgx_name {X : Cx} {x : Str} {pos : Pos} (hN : X.N.Nodup) (hi : X.N[0]? = some x) (hx : Loc X.env.scope x) (hf : X.fn x = true ∨ X.env.scope.names.lookup x = some .local) : PGx X 1 (.Name x pos) gx1 := by
  intro pins s σ fr H v u Q I r h
  refine thn (pg_name (i := 0) hN hi hx hf pins s _ H v u (fun σ' H' => σ' = (List.replicate 1 none ++ fr).set 0 (some v) ∧ H' = H) I r ⟨rfl, rfl⟩) fun _ s' ⟨σ', H', I', e1, e2⟩ => ?_
  subst e1; subst e2
  exact ⟨[v], rfl, I', h⟩
end L2
end
section
set_option maxRecDepth 100000
set_option maxHeartbeats 4000000
set_option linter.all false
namespace L2
open PySem PySem.Spec PyProof.Rows
theorem frv_get {js : List Nat} {σ : St} {i : Nat} {v : V} (h : (frv js σ)[i]? = some (some v)) : ∃ j, js[i]? = some j ∧ σ[j]? = some (some v) := by
  unfold frv at h
  rw [List.getElem?_map] at h
  cases e : js[i]? with
  | none => rw [e] at h; cases h
  | some j =>
    rw [e] at h
    refine ⟨j, rfl, ?_⟩
    have h : (σ[j]?).getD none = some v := Option.some.inj h
    cases q : σ[j]? with
    | none => rw [q] at h; cases h
    | some o => rw [q] at h; rw [show o = some v from h]
theorem mem_of_look {α : Type} {x : Str} {k : α} : ∀ {l : List (Str × α)}, l.lookup x = some k → (x, k) ∈ l
  | [], h => by simp at h
  | (n, j) :: r, h => by
    by_cases hx : x = n
    · subst hx
      simp [List.lookup_cons] at h
      subst h
      exact List.mem_cons_self
    · have hb : (x == n) = false := by simpa using hx
      simp only [List.lookup_cons, hb] at h
      exact List.mem_cons_of_mem _ (mem_of_look h)
theorem addr_ne {a b : Nat} (h : a < b) : a ≠ b := Nat.ne_of_lt h
section
variable {X : Cx} {own fr : List Str} {sc : Scope} {js : List Nat} {tg iter elt : Expr} {ifs : List Expr} {pos : Pos} {wi : TI} {gx : GX} {tt : TT} {te : TE}
def FrAt (X : Cx) (fr : List Str) (js : List Nat) : Prop := ∀ (i : Nat) x, fr[i]? = some x → ∃ j, js[i]? = some j ∧ X.N[j]? = some x
theorem comp_ok {pins : List (Addr × Obj)} {σ : St} {H : Hp} {s₂ s₃ : Shared} {it : Addr} {fp : List Addr} {tn : Nat → Heap → Prop} {J : It} (S : CompSc own fr sc X.env.scope) (I : Inv X pins σ H s₂)
    (T : Turn X.prog X.w X.K tg J fp it tn) (st : tn 0 s₂.heap) (hfp : ∀ b ∈ fp, FpOk X pins H b) (e3 : s₃ = { s₂ with heap := s₂.heap.push { cls := .type "list", dict := none, data := .seq ([] : List Value).toArray } }) :
    (cxComp X own fr sc s₃.heap.objs.size s₃ H (s₂.heap.objs.size :: fp)).Ok := by
  have I3 : Inv X pins σ H s₃ := by
    rw [e3]
    exact I.kept (t' := s₂.toks) fun b u e => Heap.get?_push_of_some _ e
  have hsz : s₃.heap.objs.size = s₂.heap.objs.size + 1 := by rw [e3]; exact Heap.size_push ..
  have hlook : ∀ x c, (clGo X.env sc.names []).lookup x = some c → x ∈ fr ∧ X.env.cells.lookup x = some c := fun x c e => by
    rcases clGo_mem e with e | ⟨⟨y, hy, e1, e2⟩, e⟩
    · simp at e
    · have hx : x ∈ fr := e1 ▸ S.free y hy e2
      obtain ⟨c', hc⟩ := I.ok.has x (.inl (S.frl x hx).2)
      rw [hc] at e
      exact ⟨hx, by rw [hc, e]; rfl⟩
  have frm : ∀ b ∈ frs X.stack, b < s₂.heap.objs.size := fun b hb => by
    rcases List.mem_cons.mp (I.stkSub b hb) with e | hb'
    · rw [e]; exact I.lt
    · obtain ⟨_, o, ho, _⟩ := I.ok.funs.mem hb'
      exact Nat.lt_of_lt_of_le (Heap.lt_size ho) I.sz
  have fpl : ∀ b ∈ fp, b < s₂.heap.objs.size := fun b hb => by
    obtain ⟨o, e, _⟩ := T.obj _ _ st b hb
    exact Heap.lt_size e
  have cl : ∀ x c, X.env.cells.lookup x = some c → c < s₂.heap.objs.size := fun x c e => by
    obtain ⟨v, o, ho, _⟩ := I.cell x c e
    exact Heap.lt_size ho
  refine { mod := I.ok.mod, kind := ?_, glob := I.ok.glob, blt := I.ok.blt, above := Nat.le_refl _, inj := ?_, has := ?_, cab := ?_, hd := I.ok.hd, frames := I.ok.frames, stk := .inl rfl, exf := ?_, bs := ?_, bsz := ?_, noex := ?_, exfs := ?_, funs := I3.stack, frf := I3.stkFree }
  · exact S.kind
  · exact fun x y c a b => I.ok.inj x y c (hlook x c a).2 (hlook y c b).2
  · intro x hx
    have hx : (relabel sc X.env).names.lookup x = some .cell ∨ (relabel sc X.env).names.lookup x = some .free := hx
    rw [relabel_lookup] at hx
    refine clGo_has (.inr ?_)
    cases e : sc.names.lookup x with
    | none => rw [e] at hx; simp at hx
    | some k =>
      have hm : (x, k) ∈ sc.names := mem_of_look e
      have hk : k = .free := by
        have nc : k ≠ .cell := S.nocell _ hm
        rw [e] at hx
        simp only [Option.map_some, Option.some.injEq] at hx
        cases k <;> simp_all
      exact ⟨(x, k), hm, rfl, hk⟩
  · exact fun _ _ z => nomatch z
  · intro b hb
    rcases List.mem_cons.mp hb with e | hb
    · subst e
      exact ⟨addr_ne (by show s₂.heap.objs.size < s₃.heap.objs.size; omega), fun x c e => addr_ne (cl x c (hlook x c e).2)⟩
    · have := fpl b hb
      exact ⟨addr_ne (show b < s₃.heap.objs.size from hsz ▸ Nat.lt_succ_of_lt this), fun x c e => (hfp b hb).2.2.2.2.1 x c (hlook x c e).2⟩
  · exact fun b o e => I3.bs b o e
  · show X.base.objs.size ≤ s₃.heap.objs.size
    exact Nat.le_trans I.ok.bsz I3.sz
  · intro b o e hb
    have hb0 : b < X.s₀.heap.objs.size := Heap.lt_size (I.ok.bs b o e).1
    rcases List.mem_cons.mp hb with z | hb
    · subst z
      exact absurd (Nat.lt_of_lt_of_le hb0 I.sz) (Nat.lt_irrefl _)
    · rcases (hfp b hb).2.2.2.1 with z | z
      · exact I.ok.noex b o e z
      · exact absurd (Nat.lt_of_lt_of_le hb0 z) (Nat.lt_irrefl _)
  · intro b hb hf
    have hf : b ∈ frs X.stack := hf
    rcases List.mem_cons.mp hb with z | hb
    · subst z
      exact absurd (frm _ hf) (Nat.lt_irrefl _)
    · rcases List.mem_cons.mp (I.stkSub b hf) with z | z
      · exact (hfp b hb).2.1 z
      · exact (hfp b hb).2.2.1 z
theorem comp_inv {pins : List (Addr × Obj)} {σ : St} {H : Hp} {s₃ s₄ : Shared} {ex : List Addr} {m : Str → Option Value} (S : CompSc own fr sc X.env.scope) (hfr : FrAt X fr js) (hjs : js.length = fr.length) (I3 : Inv X pins σ H s₃)
    (ok : (cxComp X own fr sc s₃.heap.objs.size s₃ H ex).Ok) (hos : s₄.os = s₃.os) (hb : s₄.gens = s₃.gens) (hk : ∀ b o, s₃.heap.get? b = some o → s₄.heap.get? b = some o) (hn : s₄.heap.Ns s₃.heap.objs.size m) :
    Inv (cxComp X own fr sc s₃.heap.objs.size s₃ H ex) [] (List.replicate own.length none ++ frv js σ) H s₄ := by
  have hlook : ∀ x c, (clGo X.env sc.names []).lookup x = some c → x ∈ fr ∧ X.env.cells.lookup x = some c := fun x c e => by
    rcases clGo_mem e with e | ⟨⟨y, hy, e1, e2⟩, e⟩
    · simp at e
    · have hx : x ∈ fr := e1 ▸ S.free y hy e2
      obtain ⟨c', hc⟩ := I3.ok.has x (.inl (S.frl x hx).2)
      rw [hc] at e
      exact ⟨hx, by rw [hc, e]; rfl⟩
  refine { ok := ok, os := hos, bare := by rw [hb]; exact I3.bare, base := Un.kept hk, loc := ⟨m, hn, ?_⟩, cell := ?_, free := I3.hok.fresh (Nat.le_refl _), freeC := fun x c e => I3.freeC x c (hlook x c e).2, pin := ?_, hok := I3.hok.kept hk, len := ?_ }
  · intro i x v e1 e2 e3
    have e1 : (own ++ fr)[i]? = some x := e1
    by_cases hi : i < own.length
    · rw [List.getElem?_append_left (by simpa using hi)] at e2
      rw [List.getElem?_replicate] at e2
      simp [hi] at e2
    · have hi' : own.length ≤ i := Nat.le_of_not_lt hi
      rw [List.getElem?_append_right (by simpa using hi')] at e2
      rw [List.getElem?_append_right hi'] at e1
      rw [List.length_replicate] at e2
      obtain ⟨j, hj, hv⟩ := frv_get e2
      obtain ⟨j', hj', hN⟩ := hfr _ x e1
      rw [hj] at hj'; cases hj'
      have hx : x ∈ fr := List.mem_of_getElem? e1
      obtain ⟨hf, hc⟩ := S.frl x hx
      obtain ⟨m0, hn0, hl⟩ := I3.loc
      obtain ⟨u, r, lk⟩ := hl j x v hN hv (.inr (.inl hc))
      refine ⟨u, r, .inr ⟨.inl ?_, ?_⟩⟩
      · show (relabel sc X.env).names.lookup x = some .cell
        rw [relabel_lookup, hf]
        have : X.env.kindOf x = some .cell := hc
        simp [this, I3.ok.kind]
      · rcases lk with ⟨k, _⟩ | ⟨_, c, ec, ⟨o, ho, hd⟩⟩
        · have k : X.env.scope.names.lookup x = some .local := k
          rw [hc] at k; cases k
        · have hm : (x, NameKind.free) ∈ sc.names := mem_of_look hf
          obtain ⟨c', hc'⟩ := clGo_has (env := X.env) (names := sc.names) (acc := []) (x := x) (.inr ⟨_, hm, rfl, rfl⟩)
          have := (hlook x c' hc').2
          rw [ec] at this; cases this
          exact ⟨c, hc', o, hk c o ho, hd⟩
  · intro x c e
    obtain ⟨v, o, ho, hd⟩ := I3.cell x c (hlook x c e).2
    exact ⟨v, o, hk c o ho, hd⟩
  · intro p hp
    have hp : p ∈ ([] : List (Addr × Obj)) ++ [] := hp
    simp at hp
  · show (List.replicate own.length none ++ frv js σ).length = (own ++ fr).length
    simp [frv, hjs]
theorem comp_weak {Y : Cx} {pins : List (Addr × Obj)} {H : Hp} {s : Shared} {vs : List V} {n : Nat} {f : St} (hl : vs.length = n) (I : Inv Y pins (vs.map some ++ f) H s) : Inv Y pins (List.replicate n none ++ f) H s := by
  refine I.weak (by simp [hl]) fun i v e => ?_
  by_cases hi : i < n
  · rw [List.getElem?_append_left (by simpa using hi), List.getElem?_replicate] at e
    simp [hi] at e
  · rw [List.getElem?_append_right (by simp; omega)] at e ⊢
    simpa [hl] using e
theorem codeAny_compLoop_turn {prog : Program} {w : World} {A : Around} {R : Result → Shared → Prop} {s : Shared} {elt target iter : Expr} {ifs : List Expr} {scope : Scope} {pos : Pos} {it acc : Value} {env : Env} (I : Nat → Shared → Prop)
    (turn : ∀ n s, I n s → wpAny (model prog w) A (pyNext it) (fun r s₁ => match r with
      | none => R (.ok .next) s₁
      | some v => wpAny (model prog w) A (letOwnedTupleGo target it v) (fun _ s₁ => wpAny (model prog w) A (assign target env v) (fun _ s₂ =>
          wpAny (model prog w) A (forIn ifs true fun c r => if r = true then do let ok ← isTrue c env (eval c env); pure (ForInStep.yield ok) else pure (ForInStep.yield r)) (fun ok s₃ =>
            if ok = true then wpAny (model prog w) A (eval elt env) (fun x s₄ =>
              wpAny (model prog w) A (call (.builtin "list.append") [acc, x]) (fun _ s₅ => ∃ m, m < n ∧ I m s₅) (fun _ _ => False) s₄) (fun _ _ => False) s₃
            else ∃ m, m < n ∧ I m s₃) (fun _ _ => False) s₂) (fun _ _ => False) s₁) (fun _ _ => False) s₁) (fun _ _ => False) s)
    (n : Nat) (h : I n s) :
    codeAny (model prog w) A (.compLoop (.ListComp elt [⟨target, iter, ifs, 0⟩] scope pos) 0 it acc env) R s := by
  refine codeAny_loop rfl I (fun n s hI => ?_) n h
  show wpAny _ A ((compTurn (.ListComp elt [⟨target, iter, ifs, 0⟩] scope pos) 0 it acc env).onRaise (fun x => do noteFrame x env; theTreesLotGoes x)) _ _ s
  refine wpAny_noted ?_
  rw [compTurn_list]
  refine wpAny_bind (wpAny_standAt (wpAny_bind (wpAny_mono (turn n s hI) (fun r s₁ h₁ => ?_) fun _ _ h' => h'.elim)))
  cases r with
  | none => exact wpAny_pure h₁
  | some v =>
    refine wpAny_bind (wpAny_mono h₁ (fun _ s₁ h₁ => ?_) fun _ _ h' => h'.elim)
    refine wpAny_bind (wpAny_mono h₁ (fun _ s₂ h₂ => wpAny_bind (wpAny_mono h₂ (fun ok s₃ h₃ => ?_) fun _ _ h' => h'.elim)) fun _ _ h' => h'.elim)
    cases ok with
    | false => exact wpAny_pure ⟨rfl, h₃⟩
    | true =>
      exact wpAny_bind (wpAny_bind (wpAny_mono h₃ (fun x s₄ h₄ => wpAny_bind (wpAny_mono h₄ (fun _ s₅ h₅ => wpAny_pure (wpAny_pure ⟨rfl, h₅⟩)) fun _ _ h' => h'.elim)) fun _ _ h' => h'.elim))
theorem comp_run {pins : List (Addr × Obj)} {σ : St} {H : Hp} {s₂ : Shared} {it : Addr} {fp : List Addr} {tn : Nat → Heap → Prop} {J : It} {RR : Value → Addr → Result → Shared → Prop} {E : Value → Shared → Prop}
    (S : CompSc own fr sc X.env.scope) (hfr : FrAt X fr js) (hjs : js.length = fr.length) (hc : X.calm = true)
    (hg : ∀ C s₀ H₀ ex, PGx (cxComp X own fr sc C s₀ H₀ ex) own.length tg gx) (ht : ∀ C s₀ H₀ ex, PTs (cxComp X own fr sc C s₀ H₀ ex) ifs tt) (he : ∀ C s₀ H₀ ex, PE (cxComp X own fr sc C s₀ H₀ ex) elt te)
    (I : Inv X pins σ H s₂) (T : Turn X.prog X.w X.K tg J fp it tn) (st : tn 0 s₂.heap) (hfp : ∀ b ∈ fp, FpOk X pins H b)
    (W : Nat → Nat → List V → Hp → Prop) (w0 : ∃ m, W 0 m [] H) (Z : List V → Hp → Prop)
    (turn : ∀ i m ys H, W i m ys H → (J.stop i H ∧ Z ys H) ∨
      (J.go i H ∧ ys.length < sizeLine ∧ ∀ x H', J.yld i H x H' → gx x H' fun vs => tt (vs.map some ++ frv js σ) H' fun b H2 =>
        if b = true then te (vs.map some ++ frv js σ) H2 fun y H3 => ∃ m', m' < m ∧ W (i + 1) m' (ys ++ [y]) H3 else ∃ m', m' < m ∧ W (i + 1) m' ys H2))
    (hR : ∀ D C s' H' ys its n m, H' D = none → s'.heap.get? D = some { cls := .type "list", data := .seq its n } → Vals ys its.toList → Z ys H' → s'.heap.Ns C m → FpOk X pins H' D → FpOk X pins H' C → D ≠ C → Inv X pins σ H' s' → RR (.ref D) C (.ok .next) s') :
    wpAny (model X.prog X.w) X.A (newList []) (fun acc s₃ => wpAny (model X.prog X.w) X.A (newFunctionEnv sc X.env.globals (clGo X.env sc.names []) [] X.env.qual none .none (some X.env)) (fun cenv s₄ =>
      codeAny (model X.prog X.w) X.A (.compStart (.ListComp elt [⟨tg, iter, ifs, 0⟩] sc pos) 0 (.ref it) acc { cenv with scope := relabel sc X.env }) (RR acc cenv.locals) s₄) E s₃) E s₂ := by
  refine wpAny_newObj_type (wpAny_newFunctionEnv S.nocell (by intro y hy; simp at hy) (fun h₁ hns₁ hsb₁ => ?_) S.kind)
  dsimp only at hns₁ hsb₁ ⊢
  have ok := comp_ok (own := own) (fr := fr) (s₃ := { s₂ with heap := s₂.heap.push { cls := .type "list", dict := none, data := .seq ([] : List Value).toArray } }) S I T st hfp rfl
  have I3 : Inv X pins σ H { s₂ with heap := s₂.heap.push { cls := .type "list", dict := none, data := .seq ([] : List Value).toArray } } := I.kept (t' := s₂.toks) fun b u e => Heap.get?_push_of_some _ e
  have hD3 : ({ s₂ with heap := s₂.heap.push { cls := .type "list", dict := none, data := .seq ([] : List Value).toArray } } : Shared).heap.get? s₂.heap.objs.size = some { cls := .type "list", dict := none, data := .seq ([] : List Value).toArray } := Heap.get?_push_size _ rfl
  have hs3 : ({ s₂ with heap := s₂.heap.push { cls := .type "list", dict := none, data := .seq ([] : List Value).toArray } } : Shared).heap.objs.size = s₂.heap.objs.size + 1 := Heap.size_push ..
  generalize e3 : ({ s₂ with heap := s₂.heap.push { cls := .type "list", dict := none, data := .seq ([] : List Value).toArray } } : Shared) = s₃ at ok I3 hD3 hs3
  have eh : s₂.heap.push { cls := .type "list", dict := none, data := .seq ([] : List Value).toArray } = s₃.heap := by rw [← e3]
  rw [eh] at hns₁ hsb₁ ⊢
  have old : ∀ b o, s₃.heap.get? b = some o → h₁.get? b = some o := fun b o e => hsb₁.extBut b o (Nat.ne_of_lt (Heap.lt_size e)) (Heap.get?_push_of_some _ e)
  generalize hX' : cxComp X own fr sc s₃.heap.objs.size s₃ H (s₂.heap.objs.size :: fp) = Y at ok
  have Yg : PGx Y own.length tg gx := by rw [← hX']; exact hg _ _ _ _
  have Yt : PTs Y ifs tt := by rw [← hX']; exact ht _ _ _ _
  have Ye : PE Y elt te := by rw [← hX']; exact he _ _ _ _
  have Yp : Y.prog = X.prog := by rw [← hX']; rfl
  have Yw : Y.w = X.w := by rw [← hX']; rfl
  have YK : Y.K = X.K := by rw [← hX']; rfl
  have YA : Y.A = X.A := by rw [← hX']; rfl
  have Yc : Y.calm = true := by rw [← hX']; exact hc
  have Yenv : Y.env = compEnvC sc (clGo X.env sc.names []) s₃.heap.objs.size X.env := by rw [← hX']; rfl
  have Yex : Y.ex = s₂.heap.objs.size :: fp := by rw [← hX']; rfl
  have Yfs : Y.fs = frs X.stack := by rw [← hX']; rfl
  have Ypn : Y.pn = [] := by rw [← hX']; rfl
  have Yxe : Y.xe = fun _ _ => False := by rw [← hX']; rfl
  have Ys : Y.s₀ = s₃ := by rw [← hX']; rfl
  have YH : Y.H₀ = H := by rw [← hX']; rfl
  have hl : Y.env.locals = s₃.heap.objs.size := by rw [Yenv]; rfl
  have loose : ∀ {H' : Hp} b, b ∈ (s₂.heap.objs.size :: fp) → H' b = none → FpOk Y [] H' b := fun {H'} b hb hn => by
    refine ⟨hn, ?_, ?_, .inl (by rw [Yex]; exact hb), ?_, fun p hp => by rw [Ypn] at hp; exact nomatch hp⟩
    · exact (ok.exf b (by rw [Yex]; exact hb)).1
    · exact ok.exfs b (by rw [Yex]; exact hb)
    · exact (ok.exf b (by rw [Yex]; exact hb)).2
  have hDfp : s₂.heap.objs.size ∉ fp := fun z => by
    obtain ⟨o, e, _⟩ := T.obj _ _ st _ z
    exact Nat.lt_irrefl _ (Heap.lt_size e)
  have tn3 : tn 0 s₃.heap := T.keep _ _ _ st fun b hb o e => by rw [← eh]; exact Heap.get?_push_of_some _ e
  have back : ∀ {s' : Shared} {σ' : St} {H' : Hp}, Inv Y [] σ' H' s' → Inv X pins σ H' s' := fun {s' σ' H'} I' => by
    have u := I'.base
    rw [Yfs, Yex, YH, Ys] at u
    have ho : s'.os = s₃.os := by have := I'.os; rw [Ys] at this; exact this
    have hok := I'.hok
    rw [Yp, Yw] at hok
    refine I3.call' ho u hok I'.bare fun b hb => ?_
    rcases List.mem_cons.mp hb with z | z
    · subst z
      refine ⟨.inr I.sz, (addr_ne I.lt).symm, fun x c e => ?_, fun p hp => ?_⟩
      · obtain ⟨v, o, ho, _⟩ := I.cell x c e
        exact addr_ne (Heap.lt_size ho)
      · exact addr_ne (Heap.lt_size (I.pin p hp).1)
    · obtain ⟨_, f1, _, f3, f4, f5⟩ := hfp b z
      exact ⟨f3, f1, f4, f5⟩
  have loop : ∀ s₄ : Shared, s₄ = { s₃ with heap := h₁, toks := s₃.toks + ([] : List (Str × Value)).length } →
      codeAny (model X.prog X.w) X.A (.compLoop (.ListComp elt [⟨tg, iter, ifs, 0⟩] sc pos) 0 (.ref it) (.ref s₂.heap.objs.size) Y.env) (RR (.ref s₂.heap.objs.size) s₃.heap.objs.size) s₄ := by
    rintro s₄ e4
    have I4 : Inv Y [] (List.replicate own.length none ++ frv js σ) H s₄ := by
      rw [← hX']
      refine comp_inv S hfr hjs I3 (by rw [hX']; exact ok) (by rw [e4]) (by rw [e4]) (fun b o e => by rw [e4]; exact old b o e) (m := fun x => ([] : List (Str × Value)).reverse.lookup x) ?_
      rw [e4]; exact hns₁
    obtain ⟨m0, w0⟩ := w0
    refine codeAny_compLoop_turn (fun n s' => ∃ i H' ys its k, Inv Y [] (List.replicate own.length none ++ frv js σ) H' s' ∧ tn i s'.heap ∧ (∀ b ∈ (s₂.heap.objs.size :: fp), H' b = none) ∧
        s'.heap.get? s₂.heap.objs.size = some { cls := .type "list", data := .seq its k } ∧ Vals ys its.toList ∧ W i n ys H') ?_ m0
      ⟨0, H, [], #[], 0, I4, T.keep _ _ _ tn3 fun b hb o e => by rw [e4]; exact old b o e, fun b hb => ?_, ?_, .nil, w0⟩
    · rintro n s5 ⟨i, H5, ys, its, k, I5, st5, fr5, hD5, rv5, w5⟩
      have stat : ∀ {H' : Hp}, (∀ b ∈ (s₂.heap.objs.size :: fp), H' b = none) → ∀ b ∈ fp, FpOk Y [] H' b := fun hn b hb => loose b (List.mem_cons_of_mem _ hb) (hn b (List.mem_cons_of_mem _ hb))
      have statD : ∀ {H' : Hp}, (∀ b ∈ (s₂.heap.objs.size :: fp), H' b = none) → FpOk Y [] H' s₂.heap.objs.size := fun hn => loose _ List.mem_cons_self (hn _ List.mem_cons_self)
      rcases turn i n ys H5 w5 with ⟨stop, z⟩ | ⟨go, hlen, step⟩
      · -- the end
        have I5d := I5.pinned (fp := [s₂.heap.objs.size]) (fun b hb => by rw [List.mem_singleton.mp hb]; exact statD fr5) (fun b hb => by
          rw [List.mem_singleton.mp hb]
          exact ⟨_, hD5, fun v z => by cases z⟩)
        have hfp' : ∀ b ∈ fp, FpOk Y ([] ++ pinsAt [s₂.heap.objs.size] s5.heap) H5 b := fun b hb => by
          obtain ⟨a0, a1, a2, a3, a4, a5⟩ := stat fr5 b hb
          refine ⟨a0, a1, a2, a3, a4, fun p hp q => ?_⟩
          rw [Ypn] at hp
          have hp : p ∈ pinsAt [s₂.heap.objs.size] s5.heap := by simpa using hp
          have := List.mem_singleton.mp (of_pinsAt hp).1
          exact hDfp (by rw [← this, q]; exact hb)
        have dn := T.done Y Yp Yw YK Yc i _ s5 _ H5 (fun _ _ => False) I5d hfp' st5 stop
        rw [YA] at dn
        refine thn dn fun r s6 ⟨hr, I6⟩ => ?_
        subst hr
        have hD6 := (I6.pin (s₂.heap.objs.size, _) (List.mem_append_right _ (List.mem_append_right _ (mem_pinsAt List.mem_cons_self hD5)))).1
        have I6' := I6.unpinned
        have IX := back I6'
        obtain ⟨m6, hn6, _⟩ := I6'.loc
        rw [hl] at hn6
        refine hR s₂.heap.objs.size s₃.heap.objs.size s6 H5 ys its k m6 (fr5 _ List.mem_cons_self) hD6 rv5 z hn6 ?_ ?_ (addr_ne (by omega)) IX
        · exact I.fpOk (Nat.le_refl _) (fr5 _ List.mem_cons_self)
        · refine I.fpOk (by omega) ?_
          have := I6'.free
          rw [hl] at this; exact this
      · -- a turn
        have I5d := I5.pinned (fp := [s₂.heap.objs.size]) (fun b hb => by rw [List.mem_singleton.mp hb]; exact statD fr5) (fun b hb => by
          rw [List.mem_singleton.mp hb]
          exact ⟨_, hD5, fun v z => by cases z⟩)
        have hfp' : ∀ b ∈ fp, FpOk Y ([] ++ pinsAt [s₂.heap.objs.size] s5.heap) H5 b := fun b hb => by
          obtain ⟨a0, a1, a2, a3, a4, a5⟩ := stat fr5 b hb
          refine ⟨a0, a1, a2, a3, a4, fun p hp q => ?_⟩
          rw [Ypn] at hp
          have hp : p ∈ pinsAt [s₂.heap.objs.size] s5.heap := by simpa using hp
          have := List.mem_singleton.mp (of_pinsAt hp).1
          exact hDfp (by rw [← this, q]; exact hb)
        have itm := T.item Y Yp Yw YK Yc i _ s5 _ H5 (fun _ _ => False) I5d hfp' st5 go
        rw [YA] at itm
        refine thn itm fun r s6 ⟨u, hr, h6⟩ => ?_
        subst hr
        refine thn h6 fun _ s7 ⟨x, H7, I7, r7, y7, st7, fr7⟩ => ?_
        have hD7 := (I7.pin (s₂.heap.objs.size, _) (List.mem_append_right _ (List.mem_append_right _ (mem_pinsAt List.mem_cons_self hD5)))).1
        have fD7 := (I7.pin (s₂.heap.objs.size, _) (List.mem_append_right _ (List.mem_append_right _ (mem_pinsAt List.mem_cons_self hD5)))).2.1
        have all7 : ∀ b ∈ (s₂.heap.objs.size :: fp), H7 b = none := fun b hb => (List.mem_cons.mp hb).elim (fun z => by rw [z]; exact fD7) (fr7 b)
        have obj7 : ∀ b ∈ (s₂.heap.objs.size :: fp), ∃ o, s7.heap.get? b = some o ∧ ∀ v, o.data ≠ .cell v := fun b hb => (List.mem_cons.mp hb).elim (fun z => by rw [z]; exact ⟨_, hD7, fun v z => by cases z⟩) (T.obj _ _ st7 b)
        have I7p := I7.unpinned.pinned (fp := s₂.heap.objs.size :: fp) (fun b hb => loose b hb (all7 b hb)) obj7
        have hY := Yg _ s7 (List.replicate own.length none ++ frv js σ) (frv js σ) H7 x u _ I7p r7 (step x H7 y7)
        rw [Yp, Yw, YA, Yxe] at hY
        refine thn hY fun _ s8 ⟨vs, hvs, I8, q8⟩ => ?_
        have hT := Yt _ s8 _ H7 _ I8 q8
        rw [Yp, Yw, YA, Yxe] at hT
        refine thn hT fun b s9 ⟨H9, I9, q9⟩ => ?_
        have keepT : ∀ {σ' : St} {H' : Hp} {s' : Shared}, Inv Y ([] ++ pinsAt (s₂.heap.objs.size :: fp) s7.heap) σ' H' s' → tn (i + 1) s'.heap ∧ (∀ b ∈ (s₂.heap.objs.size :: fp), H' b = none) ∧ s'.heap.get? s₂.heap.objs.size = some { cls := .type "list", data := .seq its k } := fun {σ' H' s'} I' => by
          have pn : ∀ b ∈ (s₂.heap.objs.size :: fp), ∀ o, s7.heap.get? b = some o → s'.heap.get? b = some o ∧ H' b = none := fun b hb o e =>
            let q := I'.pin (b, o) (List.mem_append_right _ (List.mem_append_right _ (mem_pinsAt hb e)))
            ⟨q.1, q.2.1⟩
          refine ⟨T.keep _ _ _ st7 fun b hb o e => (pn b (List.mem_cons_of_mem _ hb) o e).1, fun b hb => ?_, (pn _ List.mem_cons_self _ hD7).1⟩
          obtain ⟨o, e, _⟩ := obj7 b hb
          exact (pn b hb o e).2
        cases b with
        | false =>
          rw [if_neg Bool.false_ne_true] at q9
          show ∃ m, m < n ∧ _
          obtain ⟨m', hm, w9⟩ := q9
          obtain ⟨t9, a9, d9⟩ := keepT I9
          exact ⟨m', hm, i + 1, H9, ys, its, k, comp_weak hvs I9.unpinned, t9, a9, d9, rv5, w9⟩
        | true =>
          rw [if_pos rfl] at q9
          show wpAny _ _ _ _ _ _
          have hE := Ye _ s9 _ H9 _ I9 q9
          rw [Yp, Yw, YA, Yxe] at hE
          refine thn hE fun y sA ⟨v, HA, IA, rA, m', hm, wA⟩ => ?_
          obtain ⟨tA, aA, dA⟩ := keepT IA
          have hle : its.size ≤ sizeLine := by
            have := rv5.length
            have e1 : its.toList.length = its.size := by simp
            omega
          refine wpAny_list_append_plain (hsz := hle) ⟨k, dA⟩ fun hB ⟨kB, dB⟩ sb => ?_
          have IAu := comp_weak hvs IA.unpinned
          obtain ⟨f0, f1, f2, f3, f4, f5⟩ := statD aA
          have IB : Inv Y [] (List.replicate own.length none ++ frv js σ) HA { sA with heap := hB } := IAu.turned (t' := sA.toks) (it := s₂.heap.objs.size) (fun b o hb e => (sb.2 b hb).trans e) f0 f1 f3 f4 f5
          refine ⟨m', hm, i + 1, HA, ys ++ [v], its.push y, kB, IB, T.keep _ _ _ tA fun b hb o e => (sb.2 b (fun z => hDfp (z ▸ hb))).trans e, aA, dB, ?_, wA⟩
          have := Vals.append rv5 (Paired.cons rA Paired.nil)
          simpa using this
    · rcases List.mem_cons.mp hb with z | z
      · rw [z]; exact I.hok.fresh (Nat.le_refl _)
      · exact (hfp b z).1
    · rw [e4]
      exact old _ _ hD3
  have e5 : ({ s₃ with heap := h₁, toks := s₃.toks + ([] : List (Str × Value)).length } : Shared) = { s₂ with heap := h₁, toks := s₂.toks + ([] : List (Str × Value)).length } := by rw [← e3]
  rw [Yenv] at loop
  have L := loop _ rfl
  rw [e5] at L
  refine codeAny_compStart_list L ?_
  have tn4 : tn 0 ({ s₂ with heap := h₁, toks := s₂.toks + ([] : List (Str × Value)).length } : Shared).heap := T.keep _ _ _ tn3 fun b hb o e => old b o e
  exact T.self X.A 0 _ _ _ tn4 L
end
end L2
namespace L2
open PySem PySem.Spec PyProof.Rows
section
variable {X : Cx} {own fr : List Str} {sc : Scope} {js : List Nat} {tg iter elt : Expr} {ifs : List Expr} {pos : Pos} {wi : TI} {gx : GX} {tt : TT} {te : TE}
theorem Inv.track {pins : List (Addr × Obj)} {σ : St} {H : Hp} {s : Shared} {D : Addr} {ys : List V} {its : Array Value} {n : Nat} (I : Inv X pins σ H s) (f : FpOk X pins H D)
    (e : s.heap.get? D = some { cls := .type "list", data := .seq its n }) (r : Vals ys its.toList) (hz : ys.length ≤ sizeLine) : Inv X pins σ (upd H D (.lst ys)) s := by
  obtain ⟨f0, f1, f2, f3, f4, f5⟩ := f
  have ne : ∀ b o, H b = some o → b ≠ D := fun b o q => ne_of_none q f0
  refine I.step (h' := s.heap) (g' := s.gens) (t' := s.toks) (d' := s.drawn) (ch := [D]) (fun b hb => ?_) (fun b o _ _ _ e _ => e) (fun b o _ _ _ e _ => ⟨o.slots, e⟩) (fun b o hb e n => ?_) (fun b o _ e => ⟨o, e⟩) (fun b xs q => ?_) (fun b o u q => ?_) (fun b ps q => ?_) (fun m hm => hm) (fun b o q => ?_) I.bare
  · rw [List.mem_singleton.mp hb]; exact ⟨f3, f1, f4, f5⟩
  · rw [upd_ne (fun z => hb (by simp [z]))]; exact n
  · rw [upd_ne (ne _ _ q)]; exact q
  · rw [upd_ne (ne _ _ q)]; exact q
  · exact ⟨#[], by rw [upd_ne (ne _ _ q), q]; simp⟩
  · by_cases hb : b = D
    · subst hb
      rw [upd_same] at q; cases q
      exact ⟨hz, its.toList, n, r, by rw [e]⟩
    · rw [upd_ne hb] at q
      exact (I.hok b o q).stay (fun c v _ q => q) (fun c q => by rw [upd_ne (ne _ _ q)]; exact q) fun c xs q => by rw [upd_ne (ne _ _ q)]; exact q
theorem pe_comp (S : CompSc own fr sc X.env.scope) (hfr : FrAt X fr js) (hjs : js.length = fr.length) (hc : X.calm = true) (hi : PI X tg iter wi)
    (hg : ∀ C s₀ H₀ ex, PGx (cxComp X own fr sc C s₀ H₀ ex) own.length tg gx) (ht : ∀ C s₀ H₀ ex, PTs (cxComp X own fr sc C s₀ H₀ ex) ifs tt) (he : ∀ C s₀ H₀ ex, PE (cxComp X own fr sc C s₀ H₀ ex) elt te)
    (hs : ∀ x, foldedSetIterable iter X.env x = pure x := by intro _; rfl) : PE X (.ListComp elt [⟨tg, iter, ifs, 0⟩] sc pos) (tComp wi gx tt te js) := by
  intro pins s σ H Q I h
  rw [eval_ListComp]
  have hclos : closureFor sc X.env = pure (clGo X.env sc.names []) := closureFor_go fun y hy e => I.ok.has y.1 (.inl (S.frl _ (S.free y hy e)).2)
  refine wpAny_comprehension_free (use := none) rfl hs hclos S.kind S.locs (thn (hi pins s σ H _ I h) fun v s1 h1 => thn h1 fun itv s2 h2 => ?_)
  obtain ⟨it, fp, tn, J, H2, e, I2, T, st2, f2, W, w0, turn⟩ := h2
  subst e
  refine comp_run (Z := fun ys H' => ys.length ≤ sizeLine ∧ ∀ p, H' p = none → Q (.ref p) (upd H' p (.lst ys))) S hfr hjs hc hg ht he I2 T st2 f2 W w0 turn
    (RR := fun acc C => compPost (model X.prog X.w) X.A X.xe none (EP X pins σ Q) acc C) fun D C s' H' ys its n m hD gD rv z hn fD fC ne IX => ?_
  refine ⟨m, hn, fun h' hs' => ?_⟩
  obtain ⟨c0, c1, c2, c3, c4, c5⟩ := fC
  have I1 : Inv X pins σ H' { s' with heap := h' } := IX.turned (t' := s'.toks) (it := C) (fun b o hb e => (hs'.2 b hb).trans e) c0 c1 c3 c4 c5
  exact ⟨.ref D, upd H' D (.lst ys), I1.track fD ((hs'.2 D ne).trans gD) rv z.1, rfl, z.2 D hD⟩
theorem ps_setC {i : Nat} {y : Str} {py spos : Pos} (hN : X.N.Nodup) (hi' : X.N[i]? = some y) (hy : Loc X.env.scope y)
    (hsw : swapsWith (.ListComp elt [⟨tg, iter, ifs, 0⟩] sc pos) (some (.Name y py)) spos.line X.env = pure true)
    (S : CompSc own fr sc X.env.scope) (hfr : FrAt X fr js) (hjs : js.length = fr.length) (hc : X.calm = true) (hi : PI X tg iter wi)
    (hg : ∀ C s₀ H₀ ex, PGx (cxComp X own fr sc C s₀ H₀ ex) own.length tg gx) (ht : ∀ C s₀ H₀ ex, PTs (cxComp X own fr sc C s₀ H₀ ex) ifs tt) (he : ∀ C s₀ H₀ ex, PE (cxComp X own fr sc C s₀ H₀ ex) elt te)
    (hs : ∀ x, foldedSetIterable iter X.env x = pure x := by intro _; rfl) (hf : X.fn y = true ∨ X.env.scope.names.lookup y = some .local := by first | exact .inl rfl | exact .inr rfl | assumption) :
    PS X (.Assign [.Name y py] (.ListComp elt [⟨tg, iter, ifs, 0⟩] sc pos) spos) (tAsg (tComp wi gx tt te js) (gName i)) := by
  intro pins s σ H D I h
  rw [exec_Assign_Name_used _ _ _ _ hsw]
  refine wpAny_bind (wpAny_standAt (wpAny_bind ?_))
  show wpAny _ _ (do let _ ← comprehension (.ListComp elt [⟨tg, iter, ifs, 0⟩] sc pos) sc X.env _ (newList []) false (eval iter X.env) (some (assign (.Name y py) X.env))) _ _ s
  have hclos : closureFor sc X.env = pure (clGo X.env sc.names []) := closureFor_go fun y hy e => I.ok.has y.1 (.inl (S.frl _ (S.free y hy e)).2)
  refine wpAny_bind (wpAny_mono (wpAny_comprehension_free (use := some (assign (.Name y py) X.env)) (Q := fun _ s' => SP X pins D .next s') rfl hs hclos S.kind S.locs
    (thn (hi pins s σ H _ I h) fun v s1 h1 => thn h1 fun itv s2 h2 => ?_)) (fun _ s' hq => wpAny_pure (wpAny_pure hq)) fun _ _ e => e)
  obtain ⟨it, fp, tn, J, H2, e, I2, T, st2, f2, W, w0, turn⟩ := h2
  subst e
  refine comp_run (Z := fun ys H' => ys.length ≤ sizeLine ∧ ∀ p, H' p = none → D.nx (σ.set i (some (.ref p))) (upd H' p (.lst ys))) S hfr hjs hc hg ht he I2 T st2 f2 W w0 turn
    (RR := fun acc C => compPost (model X.prog X.w) X.A X.xe (some (assign (.Name y py) X.env)) (fun _ s' => SP X pins D .next s') acc C) fun D' C s' H' ys its n m hD gD rv z hn fD fC ne IX => ?_
  have It := IX.track fD gD rv z.1
  have c0' : upd H' D' (.lst ys) C = none := by rw [upd_ne (Ne.symm ne)]; exact fC.1
  have fC' : FpOk X pins (upd H' D' (.lst ys)) C := ⟨c0', fC.2⟩
  obtain ⟨oC, es, ep, hoC, hdC, hr⟩ := id hn
  have Ip := It.pinned (fp := [C]) (fun b hb => by rw [List.mem_singleton.mp hb]; exact fC') (fun b hb => by
    rw [List.mem_singleton.mp hb]
    exact ⟨oC, hoC, fun v q => by rw [hdC] at q; cases q⟩)
  refine thn (pg_name (i := i) hN hi' hy hf _ s' σ _ (.ref D') (.ref D') (fun σ' H'' => σ' = σ.set i (some (.ref D')) ∧ H'' = upd H' D' (.lst ys)) Ip rfl ⟨rfl, rfl⟩) fun _ s5 ⟨σ5, H5, I5, e1, e2⟩ => ?_
  subst e1; subst e2
  have hC5 := (I5.pin (C, oC) (List.mem_append_right _ (List.mem_append_right _ (mem_pinsAt List.mem_cons_self hoC)))).1
  refine ⟨m, ⟨oC, es, ep, hC5, hdC, hr⟩, fun h' hs' => ?_⟩
  obtain ⟨c0, c1, c2, c3, c4, c5⟩ := fC'
  have I6 : Inv X pins (σ.set i (some (.ref D'))) (upd H' D' (.lst ys)) { s5 with heap := h' } := I5.unpinned.turned (t' := s5.toks) (it := C) (fun b o hb e => (hs'.2 b hb).trans e) c0 c1 c3 c4 c5
  exact ⟨_, _, I6, z.2 D' hD⟩
theorem pgx_three {Y : Cx} {x1 x2 x3 : Str} {p1 p2 p3 : Pos} {k : Nat} (hc : Y.calm = true) (hN : Y.N.Nodup) (h1 : Y.N[0]? = some x1) (h2 : Y.N[1]? = some x2) (h3 : Y.N[2]? = some x3) (l1 : Y.env.scope.names.lookup x1 = some .local) (l2 : Y.env.scope.names.lookup x2 = some .local)
    (l3 : Y.env.scope.names.lookup x3 = some .local) : PGx Y 3 (.Tuple [.Name x1 p1, .Name x2 p2, .Name x3 p3] k pos) (gxT Y.K 3) := by
  intro pins s σ f H v u Q I r h
  obtain ⟨a, xs, e, hq, hl, q⟩ := h
  have g := pg_tup (X := Y) (es := [.Name x1 p1, .Name x2 p2, .Name x3 p3]) (k := k) (pos := pos) (n := 3) hc
    (pgs_cons (pg_name (i := 0) hN h1 (.inl l1) (.inr l1)) (pgs_cons (pg_name (i := 1) hN h2 (.inl l2) (.inr l2)) (pgs_cons (pg_name (i := 2) hN h3 (.inl l3) (.inr l3)) pgs_nil)))
  match xs, hl, hq, q with
  | [y1, y2, y3], _, hq, q =>
    refine thn (g pins s _ H v u (fun σ' H' => σ' = [some y1, some y2, some y3] ++ f ∧ H' = H) I r ⟨a, [y1, y2, y3], e, hq, rfl, y1, [y2, y3], rfl, y2, [y3], rfl, y3, [], rfl, rfl, rfl, rfl⟩) fun _ s' ⟨σ', H', I', e1, e2⟩ => ?_
    subst e1; subst e2
    exact ⟨[y1, y2, y3], rfl, I', q⟩
end
theorem comp_by {J : It} {n : Nat} {gx : GX} {tt : TT} {te : TE} {js : List Nat} {σ : St} {H : Hp} {Q : VK} (Pv : Nat → List V → Hp → Prop) (h0 : Pv 0 [] H) (hz : n ≤ sizeLine) (hl : ∀ i ys H, i ≤ n → Pv i ys H → ys.length ≤ i)
    (hgo : ∀ i ys H, i < n → Pv i ys H → J.go i H) (hst : ∀ ys H, Pv n ys H → J.stop n H)
    (hs : ∀ i ys H x H', i < n → Pv i ys H → J.yld i H x H' → gx x H' fun vs => tt (vs.map some ++ frv js σ) H' fun b H2 => if b = true then te (vs.map some ++ frv js σ) H2 fun y H3 => Pv (i + 1) (ys ++ [y]) H3 else Pv (i + 1) ys H2)
    (hd : ∀ ys H, Pv n ys H → ∀ p, H p = none → Q (.ref p) (upd H p (.lst ys))) :
    ∃ W : Nat → Nat → List V → Hp → Prop, (∃ m, W 0 m [] H) ∧ ∀ i m ys H, W i m ys H →
      (J.stop i H ∧ ys.length ≤ sizeLine ∧ ∀ p, H p = none → Q (.ref p) (upd H p (.lst ys))) ∨
      (J.go i H ∧ ys.length < sizeLine ∧ ∀ x H', J.yld i H x H' → gx x H' fun vs => tt (vs.map some ++ frv js σ) H' fun b H2 =>
        if b = true then te (vs.map some ++ frv js σ) H2 fun y H3 => ∃ m', m' < m ∧ W (i + 1) m' (ys ++ [y]) H3 else ∃ m', m' < m ∧ W (i + 1) m' ys H2) := by
  refine ⟨fun i m ys H => m = n - i ∧ i ≤ n ∧ Pv i ys H, ⟨n, by simp, Nat.zero_le _, h0⟩, ?_⟩
  rintro i m ys H ⟨rfl, hi, p⟩
  have hy := hl i ys H hi p
  by_cases hlt : i < n
  · refine .inr ⟨hgo i ys H hlt p, by omega, fun x H' y => ?_⟩
    have e : ∀ ys H, (∃ m', m' < n - i ∧ m' = n - (i + 1) ∧ i + 1 ≤ n ∧ Pv (i + 1) ys H) = Pv (i + 1) ys H := fun ys H => propext ⟨fun ⟨_, _, _, _, q⟩ => q, fun q => ⟨n - (i + 1), by omega, rfl, hlt, q⟩⟩
    simp only [e]
    exact hs i ys H x H' hlt p y
  · have e : i = n := by omega
    subst e
    exact .inl ⟨hst ys H p, by omega, hd ys H p⟩
end L2
end
section
set_option maxRecDepth 100000
set_option maxHeartbeats 4000000
set_option linter.all false
namespace L2
open PySem PySem.Spec PyProof.Rows
structure ScX (X : Cx) : Prop where
  nd : X.N.Nodup
  loc : ∀ x ∈ X.N, Loc X.env.scope x
  nb : ∀ x ∈ X.N, (x == ("__debug__" : Str)) = false ∧ (x == ("__classdict__" : Str)) = false
theorem Loc.vis {sc : Scope} {x : Str} (h : Loc sc x) : Vis sc x := h.elim .inl fun z => .inr (.inl z)
def tV (i : Nat) : TE := fun σ H Q => match σ[i]? with
  | some (some v) => Q v H
  | _ => False
theorem tV_var {i : Nat} {σ : St} {H : Hp} {Q : VK} (h : tV i σ H Q) : tVar i σ H Q := by
  unfold tV at h
  split at h
  · rename_i v e; exact ⟨v, e, h⟩
  · exact h.elim
theorem PE.mono {X : Cx} {e : Expr} {t t' : TE} (h : PE X e t) (m : ∀ σ H Q, t' σ H Q → t σ H Q) : PE X e t' := fun pins s σ H Q I q => h pins s σ H Q I (m σ H Q q)
theorem PT.mono {X : Cx} {e : Expr} {t t' : TT} (h : PT X e t) (m : ∀ σ H Q, t' σ H Q → t σ H Q) : PT X e t' := fun pins s σ H Q I q => h pins s σ H Q I (m σ H Q q)
theorem nv {X : Cx} (S : ScX X) (i : Nat) {x : Str} {pos : Pos} (hN : X.N[i]? = some x := by rfl) : PE X (.Name x pos) (tV i) :=
  have m : x ∈ X.N := List.mem_of_getElem? hN
  (pe_var hN (S.loc x m).vis (S.nb x m).1 (S.nb x m).2).mono fun _ _ _ => tV_var
section
variable {X : Cx} {a b c : Expr} {ta tb tc : TE} {pos : Pos}
def rAdd2 : R2 := fun x y H Q => match x, y with
  | .int i, .int j => Q (.int (i + j)) H
  | .str i, .str j => i.length + j.length ≤ sizeLine ∧ Q (.str (i ++ j)) H
  | .ref l, .ref m => ∃ xs zs, H l = some (.lst xs) ∧ H m = some (.lst zs) ∧ xs.length + zs.length ≤ sizeLine ∧ ∀ p, H p = none → Q (.ref p) (upd H p (.lst (xs ++ zs)))
  | _, _ => False
theorem OpR.mono {f : Value → Value → Sem Value} {r r' : R2} (h : OpR X f r) (m : ∀ x y H Q, r' x y H Q → r x y H Q) : OpR X f r' := fun pins s σ H x y v u Q I rx ry q => h pins s σ H x y v u Q I rx ry (m x y H Q q)
theorem o_add : OpR X (binaryOp .Add) rAdd2 := (op_add.or (op_add_str.or op_cat)).mono fun x y H Q h => by
  match x, y, h with
  | .int i, .int j, h => exact .inl ⟨i, j, rfl, rfl, h⟩
  | .str i, .str j, h => exact .inr (.inl ⟨i, j, rfl, rfl, h.1, h.2⟩)
  | .ref l, .ref m, ⟨xs, zs, h1, h2, h3, h4⟩ => exact .inr (.inr ⟨l, m, xs, zs, rfl, rfl, h1, h2, h3, h4⟩)
def rInt2 (C : Int → Int → Prop) (g : Int → Int → V) : R2 := fun x y H Q => match x, y with
  | .int i, .int j => C i j ∧ Q (g i j) H
  | _, _ => False
def rInt0 (g : Int → Int → V) : R2 := fun x y H Q => match x, y with
  | .int i, .int j => Q (g i j) H
  | _, _ => False
theorem rInt2_rI {C : Int → Int → Prop} {g : Int → Int → V} {x y : V} {H : Hp} {Q : VK} (h : rInt2 C g x y H Q) : rI C g x y H Q := by
  match x, y, h with
  | .int i, .int j, h => exact ⟨i, j, rfl, rfl, h.1, h.2⟩
theorem rInt0_rI {g : Int → Int → V} {x y : V} {H : Hp} {Q : VK} (h : rInt0 g x y H Q) : rI0 g x y H Q := by
  match x, y, h with
  | .int i, .int j, h => exact ⟨i, j, rfl, rfl, h⟩
theorem o_sub : OpR X (binaryOp .Sub) (rInt0 fun i j => .int (i - j)) := op_sub.mono fun _ _ _ _ => rInt0_rI
theorem op_fdivB : OpR X (binaryOp .FloorDiv) (rI (fun _ j => 0 < j ∧ j.natAbs.log2 < 9000) fun i j => .int (i / j)) := opI fun i j _ _ _ _ _ hc q => by
  have e : i / j = i.fdiv j := (Int.fdiv_eq_ediv_of_nonneg _ (Int.le_of_lt hc.1)).symm
  rw [e] at q
  exact floordiv_int (by omega) q (.inl (PyProof.noPylong_of_log2 hc.2))
theorem o_fdiv : OpR X (binaryOp .FloorDiv) (rInt2 (fun _ j => 0 < j ∧ j.natAbs.log2 < 9000) fun i j => .int (i / j)) := op_fdivB.mono fun _ _ _ _ => rInt2_rI
theorem o_mod : OpR X (binaryOp .Mod) (rInt2 (fun _ j => 0 < j) fun i j => .int (i % j)) := op_mod.mono fun _ _ _ _ => rInt2_rI
def rMul2 : R2 := fun x y H Q => match x, y with
  | .int i, .int j => CMul i j ∧ Q (.int (i * j)) H
  | .ref l, .int k => ∃ xs, H l = some (.lst xs) ∧ (-(2 ^ 63) ≤ k ∧ k < 2 ^ 63 ∧ xs.length * k.toNat ≤ sizeLine) ∧ ∀ p, H p = none → Q (.ref p) (upd H p (.lst (List.replicate k.toNat xs).flatten))
  | _, _ => False
theorem o_mul : OpR X (binaryOp .Mult) rMul2 := (op_mul.or op_rep).mono fun x y H Q h => by
  match x, y, h with
  | .int i, .int j, h => exact .inl ⟨i, j, rfl, rfl, h.1, h.2⟩
  | .ref l, .int k, ⟨xs, h1, h2, h4⟩ => exact .inr ⟨l, k, xs, rfl, rfl, h1, h2.1, h2.2.1, h2.2.2, h4⟩
theorem o_lt : OpR X (compareOp .Lt) (rInt0 fun i j => .bl (decide (i < j))) := op_lt.mono fun _ _ _ _ => rInt0_rI
theorem o_le : OpR X (compareOp .LtE) (rInt0 fun i j => .bl (decide (i ≤ j))) := op_le.mono fun _ _ _ _ => rInt0_rI
theorem o_gt : OpR X (compareOp .Gt) (rInt0 fun i j => .bl (decide (j < i))) := op_gt.mono fun _ _ _ _ => rInt0_rI
theorem o_is : OpR X (compareOp .Is) (fun x y H Q => y = .non ∧ Q (.bl (decide (x = .non))) H) := op_isN
def isB (x : V) (H' : Hp) (Q : Bool → Hp → Prop) : Prop := match x with
  | .bl k => Q k H'
  | _ => False
def tTst (t : TE) : TT := fun σ H Q => t σ H fun x H' => isB x H' Q
theorem tTst_eq (t : TE) : tTst t = tTest t := by
  funext σ H Q
  unfold tTst tTest
  congr 1
  funext x H'
  refine propext ⟨fun q => ?_, fun ⟨k, e, q⟩ => by subst e; exact q⟩
  match x, q with
  | .bl k, q => exact ⟨k, rfl, q⟩
theorem pt_of {op : CmpOp} {r : R2} (ho : OpR X (compareOp op) r) (ha : PE X a ta) (hb : PE X b tb) (hm : behindInMarks op b = false := by first | exact nomark _ | rfl) : PT X (.Compare a [op] [b] pos) (tTst (tOp r ta tb)) := by
  rw [tTst_eq]
  exact pt_cmpR ho ha hb hm
theorem pe_of {op : CmpOp} {r : R2} (ho : OpR X (compareOp op) r) (ha : PE X a ta) (hb : PE X b tb) (hm : behindInMarks op b = false := by first | exact nomark _ | rfl) : PE X (.Compare a [op] [b] pos) (tOp r ta tb) := pe_cmpR ho ha hb hm
end
end L2
end
section
set_option maxRecDepth 100000
set_option maxHeartbeats 4000000
set_option linter.all false
namespace L2
open PySem PySem.Spec PyProof.Rows
section
variable {X : Cx} {a b c e : Expr} {es : List Expr} {ta tb tc te : TE} {pos p : Pos} {x : Str} {t : TA}
theorem pn (S : ScX X) (i : Nat) {x : Str} {pos : Pos} (hN : X.N[i]? = some x := by rfl) (hf : X.fn x = true := by rfl) : PG X (.Name x pos) (gName i) :=
  pg_name S.nd hN (S.loc x (List.mem_of_getElem? hN)) (.inl hf)
theorem ps_st (S : ScX X) (i : Nat) {x : Str} {e : Expr} {te : TE} {pos pos' : Pos} (he : PE X e te) (hN : X.N[i]? = some x := by rfl) (hf : X.fn x = true := by rfl) (hs : swapsWith e (some (.Name x pos')) pos.line X.env = pure false := by rfl) :
    PS X (.Assign [.Name x pos'] e pos) (tAsg te (gName i)) := ps_set S.nd hN (S.loc x (List.mem_of_getElem? hN)) he hs (.inl hf)
theorem ps_au (S : ScX X) (i : Nat) {x : Str} {e : Expr} {te : TE} {op : Operator} {ti : TIp} {pos pos' : Pos} (he : PE X e te) (ho : PIp X op ti) (hN : X.N[i]? = some x := by rfl) (hf : X.fn x = true := by rfl) :
    PS X (.AugAssign (.Name x pos') op e pos) (tAug i te ti) := ps_aug S.nd hN (S.loc x (List.mem_of_getElem? hN)) he ho (.inl hf)
def rTru (K : PySem.W.Frag) (x : V) (H : Hp) (Q : Bool → Hp → Prop) : Prop := match x with
  | .bl k => Q k H
  | .int i => Q (i != 0) H
  | .non => Q false H
  | x => ∃ k, TruV K x H k ∧ Q k H
def tTru (K : PySem.W.Frag) (t : TE) : TT := fun σ H Q => t σ H fun x H' => rTru K x H' Q
theorem tTru_eq (K : PySem.W.Frag) (t : TE) : tTru K t = (fun σ H Q => t σ H fun x H' => ∃ k, TruV K x H' k ∧ Q k H') := by
  funext σ H Q
  unfold tTru
  congr 1
  funext x H'
  unfold rTru
  cases x with
  | bl k => exact propext ⟨fun q => ⟨k, rfl, q⟩, fun ⟨k', e, q⟩ => by have e : k' = k := e; subst e; exact q⟩
  | int i => exact propext ⟨fun q => ⟨_, rfl, q⟩, fun ⟨k', e, q⟩ => by have e : k' = (i != 0) := e; subst e; exact q⟩
  | non => exact propext ⟨fun q => ⟨_, rfl, q⟩, fun ⟨k', e, q⟩ => by have e : k' = false := e; subst e; exact q⟩
  | _ => rfl
theorem pt_tr {K : PySem.W.Frag} (hK : X.K = K := by rfl) (ha : PE X a ta) (he : ∀ whole, isTrue a X.env whole = (do let v ← whole; standAt a.pos; holding [v] (truthy v)) := by intro _; rfl) : PT X a (tTru K ta) := by
  subst hK
  rw [tTru_eq]
  exact pt_truth ha he
def rIx2 (K : PySem.W.Frag) : R2 := fun x y H Q => match x, y with
  | .ref p, .int i => ∃ xs v, (SqL K H p xs ∨ SqT K H p xs) ∧ atI xs i = some v ∧ Q v H
  | .str z, .int i => z.length ≤ sizeLine ∧ ∃ c, atI z.cps.toList i = some c ∧ Q (.str ⟨#[c]⟩) H
  | _, _ => False
theorem IxR.mono {r r' : R2} (h : IxR X r) (m : ∀ x y H Q, r' x y H Q → r x y H Q) : IxR X r' := fun value slice pins s σ H x y v u Q I rx ry q => h value slice pins s σ H x y v u Q I rx ry (m x y H Q q)
theorem o_ix {K : PySem.W.Frag} (hK : X.K = K := by rfl) : IxR X (rIx2 K) := ix_seq.mono fun x y H Q h => by
  subst hK
  match x, y, h with
  | .ref p, .int i, ⟨xs, v, hq, hv, q⟩ =>
    rcases hq with hq | hq
    · exact .inl ⟨p, xs, i, v, rfl, rfl, hq, hv, q⟩
    · exact .inr (.inl ⟨p, xs, i, v, rfl, rfl, hq, hv, q⟩)
  | .str z, .int i, ⟨hz, c, hc, q⟩ => exact .inr (.inr ⟨z, i, c, rfl, rfl, hz, hc, q⟩)
def flatN : V → Bool
  | .non => true
  | .int _ => true
  | .str _ => true
  | _ => false
structure Cal (P : Program) (w : World) (K : PySem.W.Frag) (mg : Str → Option Value) (base : Heap) (k : Nat) (x : Str) (ps : List Str) (sp : Sp) : Prop where
  ex : ∃ (f : Addr) (fd : FuncData), FnOk P w K mg base CX0 k f fd ps sp ∧ mg x = some (.ref f) ∧ PySem.W.keepIn K (.ref f) = true ∧ Binds K fd ps []
def tSp (sp : Sp) (t : TA) : TE := fun σ H Q => t σ H fun vs H1 => sp vs H1 Q E0
theorem tSp_eq (sp : Sp) (t : TA) : tSp sp t = tCall sp [] E0 t := by
  funext σ H Q
  unfold tSp tCall
  simp only [List.append_nil]
theorem c_call {k : Nat} {ps : List Str} {sp : Sp} (c : Cal X.prog X.w X.K X.mg X.base k x ps sp) (hr : Room k X.A) (hg : Gl X x) (ha : PA X (e :: es) t) (hdb : (x == ("__debug__" : Str)) = false := by decide)
    (he : starEach (e :: es) X.env = (false, eval e X.env) :: starEach es X.env := by rfl) (hpl : (backTo pos (starEach es X.env)).any (·.1) = false := by rfl) : PE X (.Call (.Name x p) (e :: es) [] pos) (tSp sp t) := by
  obtain ⟨f, fd, F, hm, hk, hb⟩ := c.ex
  rw [tSp_eq]
  exact pe_call F hr hg hm hk hb .nil pass0 ha hdb he hpl
structure Mkr (P : Program) (w : World) (K : PySem.W.Frag) (mg : Str → Option Value) (base : Heap) (k : Nat) (x : Str) (C : Addr) (ps : List Str) (sp : Sp) : Prop where
  ex : ∃ (f : Addr) (fd : FuncData), Mk K C f ∧ FnOk P w K mg base CX0 k f fd ps sp ∧ Binds K fd ps []
  mg : mg x = some (.ref C)
def tMk (C : Addr) (sp : Sp) (t : TA) : TE := fun σ H Q => t σ H fun vs H1 => ∀ x dx, H1 x = none → H1 dx = none → dx ≠ x →
  sp (.ref x :: vs) (upd (upd H1 dx (.own x)) x (.ins C dx [])) (fun v H2 => v = .non ∧ Q (.ref x) H2) E0
theorem tMk_eq (C : Addr) (sp : Sp) (t : TA) : tMk C sp t = tMake C sp [] E0 t := by
  funext σ H Q
  unfold tMk tMake
  simp only [List.append_nil]
theorem c_make {k : Nat} {ps : List Str} {C : Addr} {sp : Sp} (c : Mkr X.prog X.w X.K X.mg X.base k x C ps sp) (hr : Room (k + 1) X.A) (hg : Gl X x) (ha : PA X (e :: es) t) (hdb : (x == ("__debug__" : Str)) = false := by decide)
    (he : starEach (e :: es) X.env = (false, eval e X.env) :: starEach es X.env := by rfl) (hpl : (backTo pos (starEach es X.env)).any (·.1) = false := by rfl) : PE X (.Call (.Name x p) (e :: es) [] pos) (tMk C sp t) := by
  obtain ⟨f, fd, M, F, hb⟩ := c.ex
  rw [tMk_eq]
  exact pe_make M F hr hg c.mg hb .nil pass0 ha hdb he hpl
theorem c_make0 {k : Nat} {ps : List Str} {C : Addr} {sp : Sp} (c : Mkr X.prog X.w X.K X.mg X.base k x C ps sp) (hr : Room (k + 1) X.A) (hg : Gl X x) (hdb : (x == ("__debug__" : Str)) = false := by decide) : PE X (.Call (.Name x p) [] [] pos) (tMk C sp tNil) := by
  obtain ⟨f, fd, M, F, hb⟩ := c.ex
  rw [tMk_eq]
  exact pe_make0 M F hr hg c.mg hb .nil pass0 hdb
def Its (z : Str) : It := ⟨fun i _ => i < z.cps.size, fun i H v H' => H' = H ∧ ∃ c, z.cps[i]? = some c ∧ v = .str ⟨#[c]⟩, fun i _ => i = z.cps.size⟩
theorem turn_str {P : Program} {w : World} {K : PySem.W.Frag} {tg : Expr} (z : Str) (tk : Tok) (it : Addr) (ty : String) (hty : ty = "str_ascii_iterator" ∨ ty = "str_iterator") : Turn P w K tg (Its z) [it] it (fun i h => h.IsStrIter it ty z tk i) where
  mem := by simp
  obj := fun i h st b hb => by
    have e : b = it := by simpa using hb
    subst e
    obtain ⟨o, e, c, d⟩ := st
    exact ⟨o, e, fun v z => by rw [d] at z; cases z⟩
  keep := fun i h h' st k => let ⟨o, ho, r⟩ := st; ⟨o, k it (by simp) o ho, r⟩
  item := by
    intro X hP hw hK hc i pins s σ H E I hf st hg
    subst hP hw hK
    obtain ⟨f0, f1, f2, f3, f4, f5⟩ := hf it (by simp)
    have W : Walks X.prog X.w X.A it [it] [it] z.cps.size (SignAt z) (fun i h => h.IsStrIter it ty z tk i) := by
      rcases hty with e | e
      · subst e; exact Walks.strAscii (I.ok.hd hc) it z tk
      · subst e; exact Walks.strWide (I.ok.hd hc) it z tk
    refine W.item i s _ _ hg st fun v h' tk' hv st' kk => ?_
    obtain ⟨c, t, hc', rfl⟩ := hv
    have I1 : Inv X pins σ H { s with heap := h', toks := tk' } := I.turned (fun b o hb e => kk b o (by simpa using hb) e) f0 f1 f3 f4 f5
    obtain ⟨o, e, cl, d⟩ := id st'
    refine ⟨_, rfl, go_of (s := { s with heap := h', toks := tk' }) e cl d (by rcases hty with e | e <;> subst e <;> decide) ⟨.str ⟨#[c]⟩, H, I1, ⟨t, rfl⟩, ⟨rfl, c, hc', rfl⟩, st', fun b hb => (hf b hb).1⟩⟩
  done := by
    intro X hP hw hK hc i pins s σ H E I hf st hg
    subst hP hw hK
    have hg : i = z.cps.size := hg
    subst hg
    obtain ⟨f0, f1, f2, f3, f4, f5⟩ := hf it (by simp)
    have W : Walks X.prog X.w X.A it [it] [it] z.cps.size (SignAt z) (fun i h => h.IsStrIter it ty z tk i) := by
      rcases hty with e | e
      · subst e; exact Walks.strAscii (I.ok.hd hc) it z tk
      · subst e; exact Walks.strWide (I.ok.hd hc) it z tk
    exact W.done s _ _ st fun h' tk' kk => ⟨rfl, I.turned (fun b o hb e => kk b o (by simpa using hb) e) f0 f1 f3 f4 f5⟩
  self := fun A i s Q E st h => by
    rcases hty with e | e
    · subst e; exact wpAny_pyIter_striter_ascii st h
    · subst e; exact wpAny_pyIter_striter_wide st h
def iVal (K : PySem.W.Frag) (te : TE) : TI := fun σ H R => te σ H fun x H1 => match x with
  | .ref a => ∃ xs, (SqL K H1 a xs ∧ R (Itl K a) H1) ∨ (SqT K H1 a xs ∧ R (Itt K a) H1)
  | .str z => R (Its z) H1
  | _ => False
theorem i_val {K : PySem.W.Frag} (hK : X.K = K := by rfl) {tg : Expr} (he : PE X e te) : PI X tg e (iVal K te) := by
  subst hK
  intro pins s σ H R I h
  have hor : PI X tg e (fun σ H R => te σ H fun x H1 => match x with
      | .ref a => ∃ xs, (SqL X.K H1 a xs ∧ R (Itl X.K a) H1) ∨ (SqT X.K H1 a xs ∧ R (Itt X.K a) H1)
      | .str z => R (Its z) H1
      | _ => False) := by
    intro pins s σ H R I h
    refine thn (he pins s σ H _ I h) fun v s1 ⟨x, H1, I1, r1, q1⟩ => ?_
    match x, r1, q1 with
    | .ref a, r1, ⟨xs, q⟩ =>
      cases r1
      rcases q with ⟨hq, q⟩ | ⟨hq, q⟩
      · obtain ⟨its, rv, pl, hz⟩ := I1.list hq
        refine wpAny_pyIter_list pl.isList ?_
        have I2 : Inv X pins σ H1 { s1 with heap := s1.heap.push { cls := .type "list_iterator", data := .fields #[.ref a, .int 0 0] } } := I1.kept (t' := s1.toks) fun b u e => Heap.get?_push_of_some _ e
        exact ⟨s1.heap.objs.size, [s1.heap.objs.size], _, Itl X.K a, H1, rfl, I2, turn_list a s1.heap.objs.size, ⟨_, Heap.get?_push_size _ rfl, rfl, rfl⟩, fun b hb => by
          rw [List.mem_singleton.mp hb]; exact I1.fpOk (Nat.le_refl _) (I1.hok.fresh (Nat.le_refl _)), q⟩
      · obtain ⟨its, rv, pl, hz⟩ := I1.tuple hq
        refine wpAny_pyIter_tuple pl ?_
        have I2 : Inv X pins σ H1 { s1 with heap := s1.heap.push { cls := .type "tuple_iterator", data := .fields #[.ref a, .int 0 0] } } := I1.kept (t' := s1.toks) fun b u e => Heap.get?_push_of_some _ e
        exact ⟨s1.heap.objs.size, [s1.heap.objs.size], _, Itt X.K a, H1, rfl, I2, turn_tuple a s1.heap.objs.size, ⟨_, Heap.get?_push_size _ rfl, rfl, rfl⟩, fun b hb => by
          rw [List.mem_singleton.mp hb]; exact I1.fpOk (Nat.le_refl _) (I1.hok.fresh (Nat.le_refl _)), q⟩
    | .str z, r1, q =>
      obtain ⟨tk, rfl⟩ := r1
      have fin : ∀ (o : Obj) (ty : String), (ty = "str_ascii_iterator" ∨ ty = "str_iterator") → o = { cls := .type ty, data := .fields #[.str z tk, .int 0 0] } → PIE X pins σ tg R (.ref s1.heap.objs.size) { s1 with heap := s1.heap.push o } := fun o ty hty ho => by
        have I2 : Inv X pins σ H1 { s1 with heap := s1.heap.push o } := I1.kept (t' := s1.toks) fun b u e => Heap.get?_push_of_some _ e
        exact ⟨s1.heap.objs.size, [s1.heap.objs.size], _, Its z, H1, rfl, I2, turn_str z tk s1.heap.objs.size ty hty, ⟨_, Heap.get?_push_size _ (by rw [ho]; rfl), by rw [ho], by rw [ho]; rfl⟩, fun b hb => by
          rw [List.mem_singleton.mp hb]; exact I1.fpOk (Nat.le_refl _) (I1.hok.fresh (Nat.le_refl _)), q⟩
      cases ha : z.cps.all (· < 128)
      · exact wpAny_pyIter_wide ha (fin _ "str_iterator" (.inr rfl) rfl)
      · exact wpAny_pyIter_ascii ha (fin _ "str_ascii_iterator" (.inl rfl) rfl)
  exact hor pins s σ H R I h
def iRg1 (ta : TA) : TI := fun σ H R => ta σ H fun vs H1 => match vs with
  | [.int j] => (-(2 ^ 62) ≤ j ∧ j < 2 ^ 62) ∧ R (Itr 0 j.toNat) H1
  | _ => False
theorem iRg1_eq (ta : TA) : ∀ σ H R, iRg1 ta σ H R = iRng1 ta σ H R := by
  intro σ H R
  unfold iRg1 iRng1
  congr 1
  funext vs H1
  refine propext ⟨fun q => ?_, fun ⟨j, e, h1, h2, q⟩ => by subst e; exact ⟨⟨h1, h2⟩, q⟩⟩
  match vs, q with
  | [.int j], ⟨⟨h1, h2⟩, q⟩ => exact ⟨j, rfl, h1, h2, q⟩
theorem i_range1 {tg : Expr} (hg : Gl X "range") (hm : X.mg "range" = none) (ha : PA X [a] t) (hs : starEach [a] X.env = [(false, eval a X.env)] := by rfl) : PI X tg (.Call (.Name "range" p) [a] [] pos) (iRg1 t) := by
  intro pins s σ H R I h
  rw [iRg1_eq] at h
  exact pi_range1 hg hm ha hs pins s σ H R I h
end
theorem for_by {J : It} {n : Nat} {g : TG} {tb : TS} {D : Ends} {σ : St} {H : Hp} (Pv : Nat → St → Hp → Prop) (h0 : Pv 0 σ H) (hgo : ∀ i σ H, i < n → Pv i σ H → J.go i H) (hst : ∀ σ H, Pv n σ H → J.stop n H)
    (hs : ∀ i σ H x H', i < n → Pv i σ H → J.yld i H x H' → g x σ H' fun σ2 H2 => tb { D with nx := Pv (i + 1), ct := Pv (i + 1), bk := D.nx } σ2 H2) (hd : ∀ σ H, Pv n σ H → D.nx σ H) :
    ∃ W : Nat → Nat → St → Hp → Prop, (∃ m, W 0 m σ H) ∧ ∀ i m σ H, W i m σ H →
      (J.stop i H ∧ D.nx σ H) ∨ (J.go i H ∧ ∃ N : St → Hp → Prop, (∀ σ' H', N σ' H' → ∃ m', m' < m ∧ W (i + 1) m' σ' H') ∧ ∀ x H', J.yld i H x H' → g x σ H' fun σ2 H2 => tb { D with nx := N, ct := N, bk := D.nx } σ2 H2) := by
  refine ⟨fun i m σ H => m = n - i ∧ i ≤ n ∧ Pv i σ H, ⟨n, by simp, Nat.zero_le _, h0⟩, ?_⟩
  rintro i m σ H ⟨rfl, hi, p⟩
  by_cases hlt : i < n
  · exact .inr ⟨hgo i σ H hlt p, Pv (i + 1), fun σ' H' p' => ⟨n - (i + 1), by omega, rfl, hlt, p'⟩, fun x H' y => hs i σ H x H' hlt p y⟩
  · have e : i = n := by omega
    subst e
    exact .inl ⟨hst σ H p, hd σ H p⟩
end L2
end
section
set_option maxRecDepth 100000
set_option maxHeartbeats 4000000
set_option linter.all false
namespace L2
open PySem PySem.Spec PyProof.Rows
section
variable {X : Cx} {a b c e o : Expr} {es : List Expr} {ta tb tc te to : TE} {pos p apos cpos : Pos} {x : Str} {t : TA}
theorem CallR.mono {f : Value} {r r' : List V → Hp → VK → Prop} (h : CallR X f r) (m : ∀ xs H Q, r' xs H Q → r xs H Q) : CallR X f r' := fun pins s σ H xs us Q I rx q => h pins s σ H xs us Q I rx (m xs H Q q)
def rAll : List V → Hp → VK → Prop := fun xs H Q => match xs with
  | [.ref l] => ∃ bs : List Bool, H l = some (.lst (bs.map V.bl)) ∧ Q (.bl (bs.all id)) H
  | _ => False
theorem rangeAll (bs : List Bool) : ((List.range bs.length).all fun i => (bs[i]?).getD true) = bs.all id := by
  rw [Bool.eq_iff_iff, List.all_eq_true, List.all_eq_true]
  constructor
  · intro h b hb
    obtain ⟨i, hi, e⟩ := List.mem_iff_getElem.mp hb
    have := h i (by simpa using hi)
    simpa [hi, e] using this
  · intro h i hi
    have hi : i < bs.length := by simpa using hi
    simpa [hi] using h bs[i] (List.getElem_mem hi)
theorem call_all (hc : X.calm = true) : CallR X (.builtin "all") rAll := by
  intro pins s σ H xs us Q I r h
  match xs, h with
  | [.ref l], ⟨bs, hl, q⟩ =>
    obtain ⟨u, rfl, ru⟩ := vals1 r
    cases ru
    obtain ⟨z, its, n, rv, hlen, e⟩ := I.lstM hl
    have hIs : s.heap.IsList l its.toArray := ⟨_, e, rfl, _, rfl⟩
    have hlt : l < s.heap.objs.size := Heap.lt_size e
    refine call_all_walk (wpAny_pyIter_list hIs ?_)
    refine ⟨s.heap.objs.size, [s.heap.objs.size, l], [s.heap.objs.size], its.toArray.size, _, _, fun i => (bs[i]?).getD true, rfl, Walks.list (A := X.A.in1) (I.ok.hd hc) _ l (Nat.ne_of_lt hlt) its.toArray,
      ⟨⟨_, Heap.get?_push_size _ rfl, rfl, rfl⟩, hIs.push _⟩, fun i v s' Q' E' hP hQ => ?_, fun h' tk hk => ?_⟩
    · have hP : its[i]? = some v := by simpa using hP
      have hi : i < its.length := (List.getElem?_eq_some_iff.mp hP).1
      have hib : i < bs.length := by rw [List.length_map] at hlen; omega
      obtain ⟨v', e', r'⟩ := Vals.get (i := i) (x := .bl bs[i]) rv (by simp [hib])
      rw [hP] at e'; cases e'
      have r' : v = Value.bool bs[i] := r'
      subst r'
      simp only [List.getElem?_eq_getElem hib, Option.getD_some] at hQ
      exact wpAny_truthy_bool hQ
    · have e2 : its.toArray.size = bs.length := by rw [List.length_map] at hlen; simpa using hlen.symm
      rw [e2, rangeAll]
      have hk' : ∀ b x, s.heap.get? b = some x → h'.get? b = some x := fun b x e => hk b x (fun hm => by rw [List.mem_singleton.mp hm] at e; exact Nat.lt_irrefl _ (Heap.lt_size e)) (Heap.get?_push_of_some _ e)
      exact ⟨.bl (bs.all id), H, I.kept hk', rfl, q⟩
def rLen (K : PySem.W.Frag) : List V → Hp → VK → Prop := fun xs H Q => match xs with
  | [.str z] => z.length ≤ sizeLine ∧ Q (.int z.length) H
  | [.ref p] => (∃ ys, (SqL K H p ys ∨ SqT K H p ys) ∧ Q (.int ys.length) H) ∨ ∃ kvs, H p = some (.dK kvs) ∧ Q (.int kvs.length) H
  | _ => False
theorem call_len2 : CallR X (.builtin "len") (rLen X.K) := (call_len_str.or (call_len_seq.or call_lenD)).mono fun xs H Q h => by
  match xs, h with
  | [.str z], h => exact .inl ⟨z, rfl, h.1, h.2⟩
  | [.ref p], .inl ⟨ys, h1, h2⟩ => exact .inr (.inl ⟨p, ys, rfl, h1, h2⟩)
  | [.ref p], .inr ⟨kvs, h1, h2⟩ => exact .inr (.inr ⟨p, kvs, rfl, h1, h2⟩)
def rStr : List V → Hp → VK → Prop := fun xs H Q => match xs with
  | [.int i] => i.natAbs.log2 < 1920 ∧ Q (.str (toString i)) H
  | _ => False
theorem call_str2 : CallR X (.type "str") rStr := call_str_int.mono fun xs H Q h => by
  match xs, h with
  | [.int i], h => exact ⟨i, rfl, h.1, h.2⟩
def rMin : List V → Hp → VK → Prop := fun xs H Q => match xs with
  | [.int i, .int j] => Q (.int (if j < i then j else i)) H
  | _ => False
theorem k_all (hc : X.calm = true) (hg : Gl X "all") (hm : X.mg "all" = none) (ha : PA X (e :: es) t) (he : starEach (e :: es) X.env = (false, eval e X.env) :: starEach es X.env := by rfl) (hpl : (backTo pos (starEach es X.env)).any (·.1) = false := by rfl) :
    PE X (.Call (.Name "all" p) (e :: es) [] pos) (tCB rAll t) := pe_callB (call_all hc) hg hm boot_all ha (by decide) (by decide) he hpl
theorem k_len {K : PySem.W.Frag} (hK : X.K = K := by rfl) (hg : Gl X "len") (hm : X.mg "len" = none) (ha : PA X (e :: es) t) (he : starEach (e :: es) X.env = (false, eval e X.env) :: starEach es X.env := by rfl) (hpl : (backTo pos (starEach es X.env)).any (·.1) = false := by rfl) :
    PE X (.Call (.Name "len" p) (e :: es) [] pos) (tCB (rLen K) t) := by
  subst hK
  exact pe_callB call_len2 hg hm boot_len ha (by decide) (by decide) he hpl
theorem bb_str : bootBuiltins "str" = some (.type "str") := by decide +kernel
theorem bb_int : bootBuiltins "int" = some (.type "int") := by decide +kernel
theorem bb_list : bootBuiltins "list" = some (.type "list") := by decide +kernel
theorem bb_isinstance : bootBuiltins "isinstance" = some (.builtin "isinstance") := by decide +kernel
theorem k_str (hg : Gl X "str") (hm : X.mg "str" = none) (ha : PA X (e :: es) t) (he : starEach (e :: es) X.env = (false, eval e X.env) :: starEach es X.env := by rfl) (hpl : (backTo pos (starEach es X.env)).any (·.1) = false := by rfl) :
    PE X (.Call (.Name "str" p) (e :: es) [] pos) (tCB rStr t) := pe_callTy call_str2 hg hm bb_str ha (by decide) (by decide) he hpl
def rPartition : V → List V → Hp → VK → Prop := fun x xs H Q => match x, xs with
  | .str z, [.str y] => ((y.length == 0) = false ∧ z.length ≤ sizeLine) ∧ ∀ p, H p = none → Q (.ref p) (upd H p (.tup [.str (Txt.partition z y).1, .str (Txt.partition z y).2.1, .str (Txt.partition z y).2.2]))
  | _, _ => False
end
end L2
end
section
set_option maxRecDepth 100000
set_option maxHeartbeats 4000000
set_option linter.all false
namespace L2
open PySem PySem.Spec PyProof.Rows
section
variable {X : Cx} {a b c e o : Expr} {es : List Expr} {ta tb tc te to : TE} {pos p apos cpos : Pos} {x m : Str} {t : TA}
def rEq2 (K : PySem.W.Frag) : R2 := fun x y H Q => match x, y with
  | .ref p, .ref q => ∃ ns ms : List Int, SqL K H p (ns.map V.int) ∧ SqL K H q (ms.map V.int) ∧ Q (.bl (decide (ns = ms))) H
  | x, y => scal x y = true ∧ Q (.bl (decide (x = y))) H
def rNe2 (K : PySem.W.Frag) : R2 := fun x y H Q => match x, y with
  | .ref p, .ref q => ∃ ns ms : List Int, SqL K H p (ns.map V.int) ∧ SqL K H q (ms.map V.int) ∧ Q (.bl (!decide (ns = ms))) H
  | x, y => scal x y = true ∧ Q (.bl (!decide (x = y))) H
theorem o_eq {K : PySem.W.Frag} (hK : X.K = K := by rfl) (hu : X.A.units + 64 < cLine) : OpR X (compareOp .Eq) (rEq2 K) := by
  subst hK
  intro pins s σ H x y v u Q I rx ry h
  by_cases hr : (∃ p, x = .ref p) ∧ ∃ q, y = .ref q
  · obtain ⟨⟨p, rfl⟩, q, rfl⟩ := hr
    obtain ⟨ns, ms, h1, h2, hq⟩ := h
    cases rx; cases ry
    obtain ⟨i1, r1, p1, z1⟩ := I.list h1
    obtain ⟨i2, r2, p2, z2⟩ := I.list h2
    exact PySem.W.ke_eq_ints (xs := i1) (ys := i2) p1.isList p2.isList (intsAre_of r1) (intsAre_of r2) hu ⟨.bl (decide (ns = ms)), H, I, rfl, hq⟩
  · have h' : rEq x y H Q := by
      unfold rEq2 at h
      split at h
      · rename_i p q; exact absurd ⟨⟨p, rfl⟩, q, rfl⟩ hr
      · exact h
    exact op_eq pins s σ H x y v u Q I rx ry h'
theorem o_ne {K : PySem.W.Frag} (hK : X.K = K := by rfl) (hu : X.A.units + 64 < cLine) : OpR X (compareOp .NotEq) (rNe2 K) := by
  subst hK
  intro pins s σ H x y v u Q I rx ry h
  by_cases hr : (∃ p, x = .ref p) ∧ ∃ q, y = .ref q
  · obtain ⟨⟨p, rfl⟩, q, rfl⟩ := hr
    obtain ⟨ns, ms, h1, h2, hq⟩ := h
    cases rx; cases ry
    obtain ⟨i1, r1, p1, z1⟩ := I.list h1
    obtain ⟨i2, r2, p2, z2⟩ := I.list h2
    exact PySem.W.ke_ne_ints (xs := i1) (ys := i2) p1.isList p2.isList (intsAre_of r1) (intsAre_of r2) hu ⟨.bl (!decide (ns = ms)), H, I, rfl, hq⟩
  · have h' : rNe x y H Q := by
      unfold rNe2 at h
      split at h
      · rename_i p q; exact absurd ⟨⟨p, rfl⟩, q, rfl⟩ hr
      · exact h
    exact op_ne pins s σ H x y v u Q I rx ry h'
def rIn2 (K : PySem.W.Frag) (neg : Bool) : R2 := fun x y H Q => match x, y with
  | .str y, .str z => ∃ c, y = ⟨#[c]⟩ ∧ Q (.bl (xor neg (decide (c ∈ z.cps.toList)))) H
  | x, .ref p => ∃ xs, (SqL K H p xs ∨ SqT K H p xs) ∧ flatV x = true ∧ xs.all flatV = true ∧ Q (.bl (if neg then !inV x xs else inV x xs)) H
  | _, _ => False
theorem o_in {K : PySem.W.Frag} (hK : X.K = K := by rfl) : OpR X (compareOp .In) (rIn2 K false) := (op_in_str.or op_in_seq).mono fun x y H Q h => by
  subst hK
  unfold rIn2 at h
  split at h
  · rename_i y z
    obtain ⟨c, rfl, h⟩ := h
    refine .inl ⟨_, z, rfl, rfl, ?_⟩
    rw [PySem.StrLaws.found_one]
    simpa using h
  · rename_i _ _ p
    obtain ⟨xs, h1, h2, h3, h4⟩ := h
    exact .inr ⟨p, xs, rfl, h1, h2, h3, h4⟩
  · exact h.elim
theorem o_notin {K : PySem.W.Frag} (hK : X.K = K := by rfl) : OpR X (compareOp .NotIn) (rIn2 K true) := (op_notin_str.or op_notIn_seq).mono fun x y H Q h => by
  subst hK
  unfold rIn2 at h
  split at h
  · rename_i y z
    obtain ⟨c, rfl, h⟩ := h
    refine .inl ⟨_, z, rfl, rfl, ?_⟩
    rw [PySem.StrLaws.found_one]
    simpa using h
  · rename_i _ _ p
    obtain ⟨xs, h1, h2, h3, h4⟩ := h
    exact .inr ⟨p, xs, rfl, h1, h2, h3, h4⟩
  · exact h.elim
def rInt : List V → Hp → VK → Prop := fun xs H Q => match xs with
  | [.str z] => ∃ n, (PySem.intText? z = some n ∧ z.length ≤ 640) ∧ Q (.int n) H
  | _ => False
theorem call_int2 : CallR X (.type "int") rInt := by
  intro pins s σ H xs us Q I r h
  match xs, h with
  | [.str z], ⟨n, ⟨h1, h2⟩, q⟩ =>
    obtain ⟨u, rfl, ru⟩ := vals1 r
    obtain ⟨t, rfl⟩ := ru
    exact PySem.W.KIN.call_text h1 h2 ⟨.int n, H, I.tok _, ⟨_, rfl⟩, q⟩
theorem k_int (hg : Gl X "int") (hm : X.mg "int" = none) (ha : PA X (e :: es) t) (he : starEach (e :: es) X.env = (false, eval e X.env) :: starEach es X.env := by rfl) (hpl : (backTo pos (starEach es X.env)).any (·.1) = false := by rfl) :
    PE X (.Call (.Name "int" p) (e :: es) [] pos) (tCB rInt t) := pe_callTy call_int2 hg hm bb_int ha (by decide) (by decide) he hpl
def clsV : V → Value
  | .ref q => .ref q
  | .ty n => .type n
  | _ => .none
def rIsi (K : PySem.W.Frag) : List V → Hp → VK → Prop := fun xs H Q => match xs with
  | [x, .ref q] => ∃ t b, TyOf K H x t ∧ PySem.W.kitOne K t (.ref q) = some b ∧ Q (.bl b) H
  | [x, .ty n] => ∃ t b, TyOf K H x t ∧ PySem.W.kitOne K t (.type n) = some b ∧ Q (.bl b) H
  | _ => False
theorem g_ty {n : String} (hg : Gl X x) (hm : X.mg x = none) (hv : bootBuiltins x = some (.type n)) (hn : x ≠ "__name__" := by decide) (hd : (x == ("__debug__" : Str)) = false := by decide) : PE X (.Name x pos) (tC (.ty n)) := pe_bltn hg hm hv rfl hn hd
theorem g_val {v : V} {u : Value} (hg : Gl X x) (hm : X.mg x = some u) (r : RelV v u) (hd : (x == ("__debug__" : Str)) = false := by decide) : PE X (.Name x pos) (tC v) := pe_glob hg hm r hd
structure Mth (P : Program) (w : World) (K : PySem.W.Frag) (mg : Str → Option Value) (base : Heap) (k : Nat) (C : Addr) (m : Str) (sp : Sp) : Prop where
  ex : ∃ (f : Addr) (fd : FuncData) (ps : List Str), Meth K C m f ∧ FnOk P w K mg base CX0 k f fd ps sp ∧ Binds K fd ps []
  cl : Cls K C
def tMt (MS : Addr → Sp → Prop) (m : Str) (ta : TE) (t : TA) : TE := fun σ H Q => ta σ H fun x H1 => match x with
  | .ref q => ∃ C dx fs sp, H1 q = some (.ins C dx fs) ∧ fs.lookup m = none ∧ MS C sp ∧ t σ H1 fun vs H2 => sp (.ref q :: vs) H2 Q E0
  | _ => False
theorem m_call {pl : Sem Bool} (k : Nat) (hr : Room k X.A) {MS : Addr → Sp → Prop} (hMS : ∀ C sp, MS C sp → Mth X.prog X.w X.K X.mg X.base k C m sp) (he : PE X o ta) (ha : PA X (e :: es) t)
    (hst : starEach (e :: es) X.env = (false, eval e X.env) :: starEach es X.env := by rfl) (hpl : (backTo pos (starEach es X.env)).any (·.1) = false := by rfl)
    (ht : eval (.Call (.Attribute o m apos) (e :: es) [] pos) X.env = (do
      let ov ← eval o X.env
      standAt apos.atName
      let (f, first) ← holding [ov] (getMethod ov m pl)
      callWith pos f first (backTo pos (starEach (e :: es) X.env)) (backToKw pos (keywordEach [] X.env))) := by rfl) :
    PE X (.Call (.Attribute o m apos) (e :: es) [] pos) (tMt MS m ta t) := by
  intro pins s σ H Q I h
  refine PySem.W.methodCall_KW (pl := pl) (thn (he pins s σ H _ I h) fun u s1 ⟨x, H1, I1, rx, q⟩ => ?_) ht
  match x, rx, q with
  | .ref a, rx, ⟨C, dx, fs, sp, ea, l, M, q⟩ =>
    obtain rfl : u = Value.ref a := rx
    obtain ⟨⟨f, fd, ps, hm, F, hb⟩, Mcl⟩ := hMS C sp M
    refine getmeth_ok I1 ea Mcl hm l ?_
    refine PySem.W.callWith_K (first := [.ref a]) (h₀ := X.base) I.ok.mod.kin hm.kp (thn (ha pos pins s1 σ H1 _ I1 q) fun us s2 ⟨vs, H2, I2, r, q2⟩ => ⟨I2.kIn, ?_⟩) hst hpl
    exact run_fn (us := .ref a :: us) (vs := .ref a :: vs) F hr hb (.nil : Vals [] []) pass0 I2 (.cons rfl r) (by simpa using q2)
theorem m_call0 {pl : Sem Bool} (k : Nat) (hr : Room k X.A) {MS : Addr → Sp → Prop} (hMS : ∀ C sp, MS C sp → Mth X.prog X.w X.K X.mg X.base k C m sp) (he : PE X o ta)
    (ht : eval (.Call (.Attribute o m apos) [] [] pos) X.env = (do
      let ov ← eval o X.env
      standAt apos.atName
      let (f, first) ← holding [ov] (getMethod ov m pl)
      callWith pos f first (backTo pos (starEach [] X.env)) (backToKw pos (keywordEach [] X.env))) := by rfl) :
    PE X (.Call (.Attribute o m apos) [] [] pos) (tMt MS m ta tNil) := by
  intro pins s σ H Q I h
  refine PySem.W.methodCall_KW (pl := pl) (thn (he pins s σ H _ I h) fun u s1 ⟨x, H1, I1, rx, q⟩ => ?_) ht
  match x, rx, q with
  | .ref a, rx, ⟨C, dx, fs, sp, ea, l, M, q⟩ =>
    obtain rfl : u = Value.ref a := rx
    obtain ⟨⟨f, fd, ps, hm, F, hb⟩, Mcl⟩ := hMS C sp M
    refine getmeth_ok I1 ea Mcl hm l ?_
    exact PySem.W.callWith_K0 (first := [.ref a]) I1.kIn hm.kp (run_fn (us := [.ref a]) (vs := [.ref a]) F hr hb (.nil : Vals [] []) pass0 I1 (.cons rfl .nil) q)
theorem pe_fd {f : Str} {K : PySem.W.Frag} (hK : X.K = K := by rfl) (he : PE X e ta) (hb : attributeBase e f X.env (eval e X.env) = eval e X.env := by rfl) : PE X (.Attribute e f pos) (tFld K ta f) := by
  subst hK
  exact pe_fld he hb
theorem ps_fd {f : Str} {value : Expr} {tv : TE} {pos' : Pos} {K : PySem.W.Frag} (hK : X.K = K := by rfl) (ha : PE X o ta) (hv : PE X value tv) (hs : swapsWith value (some (.Attribute o f pos')) pos.line X.env = pure false := by rfl) : PS X (.Assign [.Attribute o f pos'] value pos) (sFld K ta tv f) := by
  subst hK
  exact ps_fld ha hv hs
structure ClsFn (P : Program) (w : World) (K : PySem.W.Frag) (mg : Str → Option Value) (base : Heap) (k : Nat) (x m : Str) (ps : List Str) (sp : Sp) : Prop where
  ex : ∃ (C f : Addr) (fd : FuncData), mg x = some (.ref C) ∧ PySem.W.specialIn K (.ref C) "__getattribute__" = some (some (.builtin "type.__getattribute__")) ∧ PySem.W.readsIn K C (.type "type") = true ∧
    PySem.W.findCls K (.ref C) (.type "type") m = some (.val (.ref f)) ∧ PySem.W.handedIn (.ref f) = true ∧ PySem.W.keepIn K (.ref f) = true ∧ FnOk P w K mg base CX0 k f fd ps sp ∧ Binds K fd ps []
theorem b_call {pl : Sem Bool} {k : Nat} {ps : List Str} {sp : Sp} (c : ClsFn X.prog X.w X.K X.mg X.base k x m ps sp) (hr : Room k X.A) (hg : Gl X x) (ha : PA X (e :: es) t) (hdb : (x == ("__debug__" : Str)) = false := by decide)
    (hst : starEach (e :: es) X.env = (false, eval e X.env) :: starEach es X.env := by rfl) (hpl : (backTo pos (starEach es X.env)).any (·.1) = false := by rfl)
    (ht : eval (.Call (.Attribute (.Name x p) m apos) (e :: es) [] pos) X.env = (do
      let ov ← eval (.Name x p) X.env
      standAt apos.atName
      let (f, first) ← holding [ov] (getMethod ov m pl)
      callWith pos f first (backTo pos (starEach (e :: es) X.env)) (backToKw pos (keywordEach [] X.env))) := by rfl) :
    PE X (.Call (.Attribute (.Name x p) m apos) (e :: es) [] pos) (tSp sp t) := by
  intro pins s σ H Q I h
  obtain ⟨C, f, fd, hm, h1, h2, h3, h4, hk, F, hb⟩ := c.ex
  refine PySem.W.methodCall_KW (pl := pl) (ld_glob I hg hm ?_ hdb) ht
  refine PySem.W.method_cls I.kIn h1 (PySem.W.cls_value I.kIn h2 h3 h4 ?_)
  have I1 := I.tok (s.toks + 1)
  refine PySem.W.callWith_K (first := []) (h₀ := X.base) I.ok.mod.kin hk (thn (ha pos pins _ σ H _ I1 h) fun us s2 ⟨vs, H2, I2, r, q2⟩ => ⟨I2.kIn, ?_⟩) hst hpl
  exact run_fn F hr hb (.nil : Vals [] []) pass0 I2 r (by simpa using q2)
theorem mt_partition : MtR X "str.partition" rPartition := by
  intro pins s σ H x xs v us Q I rx rv h
  match x, xs, rx, rv, h with
  | .str z, [.str y], rx, rv, ⟨⟨hy, hz⟩, q⟩ =>
    obtain ⟨tz, rfl⟩ := rx
    obtain ⟨u, rfl, ru⟩ := rv.one
    obtain ⟨ty, rfl⟩ := ru
    refine call_meets F.slot_str_partition (typeIs_str _ _ _) F.entry_str_partition (F.args_str_partition_2 _ _) (meets_str_partition z y tz ty hy hz) ?_
    have hq := q s.heap.objs.size (I.hok.fresh (Nat.le_refl _))
    unfold Txt.partition at hq
    have lay : ∀ (p1 p2 p3 : Str) (t1 t2 t3 : Tok) (tk : Nat), Q (.ref s.heap.objs.size) (upd H s.heap.objs.size (.tup [.str p1, .str p2, .str p3])) →
        EP X pins σ Q (.ref s.heap.objs.size) { s with toks := tk, heap := s.heap.push { cls := .type "tuple", data := .seq [.str p1 t1, .str p2 t2, .str p3 t3].toArray } } := fun p1 p2 p3 t1 t2 t3 tk hq => by
      refine ⟨.ref s.heap.objs.size, _, I.laid (a := s.heap.objs.size) (o := .tup [.str p1, .str p2, .str p3]) (fun b u e => Heap.get?_push_of_some _ e) (Nat.le_refl _) ⟨by show 3 ≤ sizeLine; decide, [.str p1 t1, .str p2 t2, .str p3 t3], .cons ⟨t1, rfl⟩ (.cons ⟨t2, rfl⟩ (.cons ⟨t3, rfl⟩ .nil)), ?_⟩, rfl, hq⟩
      exact ⟨_, Heap.get?_push_size _ rfl, rfl, _, rfl⟩
    cases ho : Builtin.Str.occurrences z y 0 z.length 1 with
    | nil => rw [ho] at hq; exact lay _ _ _ _ _ _ _ hq
    | cons i r => rw [ho] at hq; exact lay _ _ _ _ _ _ _ hq
def bmS (r : V → List V → Hp → VK → Prop) (t : TA) (x : V) (σ : St) (H1 : Hp) (Q : VK) : Prop := match x with
  | .str z => t σ H1 fun xs H2 => r (.str z) xs H2 Q
  | _ => False
theorem e_bmSS (r : V → List V → Hp → VK → Prop) (t : TA) (z : Str) {σ : St} {H1 : Hp} {Q : VK} : bmS r t (.str z) σ H1 Q = t σ H1 fun xs H2 => r (.str z) xs H2 Q := rfl
def tBmS (r : V → List V → Hp → VK → Prop) (to : TE) (t : TA) : TE := fun σ H Q => to σ H fun x H1 => bmS r t x σ H1 Q
theorem tBmS_bm (K : PySem.W.Frag) (r : V → List V → Hp → VK → Prop) (to : TE) (t : TA) : tBmS r to t = fun σ H Q => to σ H fun x H1 => ((∃ z, x = .str z) ∧ tyV K "str" x H1) ∧ t σ H1 fun xs H2 => r x xs H2 Q := by
  funext σ H Q
  unfold tBmS
  congr 1
  funext x H1
  cases x <;> first | (refine propext ⟨fun q => ⟨⟨⟨_, rfl⟩, rfl⟩, q⟩, fun q => q.2⟩) | (refine propext ⟨fun q => q.elim, fun ⟨⟨⟨z, e⟩, _⟩, _⟩ => by cases e⟩)
theorem m_partition (ho : PE X o to) (ha : PA X (e :: es) t) (hbase : attributeBase o "partition" X.env (eval o X.env) = eval o X.env := by rfl)
    (hfew : ((backTo cpos (starEach (e :: es) X.env)).all (fun x => !x.1) && (backToKw cpos (keywordEach [] X.env)).all (fun x => x.1.isSome)
      && decide ((e :: es).length + ([] : List Keyword).length + (if ([] : List Keyword).isEmpty then 0 else 1) < 30)) = true := by rfl)
    (hline : (apos.endLine == cpos.line) = true := by rfl) (hs : starEach (e :: es) X.env = (false, eval e X.env) :: starEach es X.env := by rfl) (hplain : (backTo cpos (starEach es X.env)).any (·.1) = false := by rfl) :
    PE X (.Call (.Attribute o "partition" apos) (e :: es) [] cpos) (tBmS rPartition to t) := by
  intro pins s σ H Q I h
  rw [tBmS_bm X.K] at h
  exact pe_bm F.plainAttrs_str F.slot_str_partition F.type_str_partition mt_partition (to := fun σ H Q => to σ H fun x H1 => Q x H1) ho ha hbase hfew hline hs hplain pins s σ H Q I (by
    have e : (fun x H1 => ((∃ z, x = V.str z) ∧ tyV X.K "str" x H1) ∧ t σ H1 fun xs H2 => rPartition x xs H2 Q) = (fun x H1 => tyV X.K "str" x H1 ∧ t σ H1 fun xs H2 => rPartition x xs H2 Q) := by
      funext x H1
      refine propext ⟨fun q => ⟨q.1.2, q.2⟩, fun q => ⟨⟨?_, q.1⟩, q.2⟩⟩
      cases x with
      | str z => exact ⟨z, rfl⟩
      | int i => exact absurd q.1 (by show ¬ ("str" = "int"); decide)
      | ref p => exact absurd q.1 (by rintro (⟨z, _⟩ | ⟨z, _⟩ | ⟨z, _⟩ | ⟨z, _⟩) <;> exact absurd z (by decide))
      | _ => exact q.1.elim
    rw [e] at h
    exact h)
end
end L2
end
section
set_option maxRecDepth 100000
set_option maxHeartbeats 4000000
set_option linter.all false
namespace L2
open PySem PySem.Spec PyProof.Rows
structure FnSc (N ps gs : List Str) (sc : Scope) : Prop where
  S : FnScope N ps sc
  loc : ∀ x ∈ N, sc.names.lookup x = some .local ∨ sc.names.lookup x = some .cell
  nb : ∀ x ∈ N, (x == ("__debug__" : Str)) = false ∧ (x == ("__classdict__" : Str)) = false
  gl : ∀ x ∈ gs, sc.names.lookup x = some .globalImplicit
section
variable {N ps gs : List Str} {sc : Scope} {CX : CXT} {P : Program} {w : World} {K : PySem.W.Frag} {mg : Str → Option Value} {base : Heap} {qual : Str} {f : Addr} {cd : Value} {A : Around} {outer : List Env} {s : Shared} {H : Hp} {E : XK}
theorem FnSc.sx (S : FnSc N ps gs sc) : ScX (cxOf CX P w K mg base N qual sc f cd A outer s H E).nox := ⟨S.S.nd, S.loc, S.nb⟩
theorem FnSc.gx (S : FnSc N ps gs sc) (i : Nat) {x : Str} (h : gs[i]? = some x) : Gl (cxOf CX P w K mg base N qual sc f cd A outer s H E).nox x := S.gl x (List.mem_of_getElem? h)
end
section
variable {X : Cx} {own fr gs : List Str} {sc : Scope} {js : List Nat} {tg iter elt : Expr} {ifs : List Expr} {pos : Pos} {wi : TI} {gx : GX} {tt : TT} {te : TE} {C : Addr} {s₀ : Shared} {H₀ : Hp} {ex : List Addr}
theorem CompSc.own_l (S : CompSc own fr sc X.env.scope) {x : Str} (h : x ∈ own) : (cxComp X own fr sc C s₀ H₀ ex).env.scope.names.lookup x = some .local := by
  show (relabel sc X.env).names.lookup x = some .local
  rw [relabel_lookup, S.ownl x h]
  rfl
theorem CompSc.fr_c (S : CompSc own fr sc X.env.scope) (hk : X.env.scope.kind = .function) {x : Str} (h : x ∈ fr) : (cxComp X own fr sc C s₀ H₀ ex).env.scope.names.lookup x = some .cell := by
  show (relabel sc X.env).names.lookup x = some .cell
  have h2 : X.env.kindOf x = some .cell := (S.frl x h).2
  rw [relabel_lookup, (S.frl x h).1]
  simp [h2, hk]
theorem CompSc.sx (S : CompSc own fr sc X.env.scope) (hk : X.env.scope.kind = .function) (nb : ∀ x ∈ own ++ fr, (x == ("__debug__" : Str)) = false ∧ (x == ("__classdict__" : Str)) = false) : ScX (cxComp X own fr sc C s₀ H₀ ex) :=
  ⟨S.nd, fun x hx => (List.mem_append.mp hx).elim (fun h => .inl (S.own_l h)) (fun h => .inr (S.fr_c hk h)), nb⟩
theorem comp_gl {x : Str} (h : sc.names.lookup x = some .globalImplicit) : Gl (cxComp X own fr sc C s₀ H₀ ex) x := by
  show (relabel sc X.env).names.lookup x = some .globalImplicit
  rw [relabel_lookup, h]
  rfl
theorem fr_at (h : js.map (fun j => X.N[j]?) = fr.map some) : FrAt X fr js ∧ js.length = fr.length := by
  have hl : js.length = fr.length := by
    have := congrArg List.length h
    simpa using this
  refine ⟨fun i x e => ?_, hl⟩
  have e2 : (js.map (fun j => X.N[j]?))[i]? = some (some x) := by
    rw [h, List.getElem?_map, e]; rfl
  rw [List.getElem?_map] at e2
  cases q : js[i]? with
  | none => rw [q] at e2; cases e2
  | some j => rw [q] at e2; exact ⟨j, rfl, Option.some.inj e2⟩
theorem pe_cp (S : CompSc own fr sc X.env.scope) (hfr : js.map (fun j => X.N[j]?) = fr.map some) (hc : X.calm = true) (hi : PI X tg iter wi)
    (hg : ∀ C s₀ H₀ ex, PGx (cxComp X own fr sc C s₀ H₀ ex) own.length tg gx) (ht : ∀ C s₀ H₀ ex, PTs (cxComp X own fr sc C s₀ H₀ ex) ifs tt) (he : ∀ C s₀ H₀ ex, PE (cxComp X own fr sc C s₀ H₀ ex) elt te)
    (hs : ∀ x, foldedSetIterable iter X.env x = pure x := by intro _; rfl) : PE X (.ListComp elt [⟨tg, iter, ifs, 0⟩] sc pos) (tComp wi gx tt te js) :=
  pe_comp S (fr_at hfr).1 (fr_at hfr).2 hc hi hg ht he hs
theorem ps_cp (SX : ScX X) (i : Nat) {y : Str} {py spos : Pos} (S : CompSc own fr sc X.env.scope) (hfr : js.map (fun j => X.N[j]?) = fr.map some) (hc : X.calm = true) (hi : PI X tg iter wi)
    (hg : ∀ C s₀ H₀ ex, PGx (cxComp X own fr sc C s₀ H₀ ex) own.length tg gx) (ht : ∀ C s₀ H₀ ex, PTs (cxComp X own fr sc C s₀ H₀ ex) ifs tt) (he : ∀ C s₀ H₀ ex, PE (cxComp X own fr sc C s₀ H₀ ex) elt te)
    (hN : X.N[i]? = some y := by rfl) (hf : X.fn y = true := by rfl) (hsw : swapsWith (.ListComp elt [⟨tg, iter, ifs, 0⟩] sc pos) (some (.Name y py)) spos.line X.env = pure true := by rfl)
    (hs : ∀ x, foldedSetIterable iter X.env x = pure x := by intro _; rfl) :
    PS X (.Assign [.Name y py] (.ListComp elt [⟨tg, iter, ifs, 0⟩] sc pos) spos) (tAsg (tComp wi gx tt te js) (gName i)) :=
  ps_setC SX.nd hN (SX.loc y (List.mem_of_getElem? hN)) hsw S (fr_at hfr).1 (fr_at hfr).2 hc hi hg ht he hs (.inl hf)
theorem pg1 {x : Str} (S : CompSc [x] fr sc X.env.scope) : ∀ C s₀ H₀ ex, PGx (cxComp X [x] fr sc C s₀ H₀ ex) 1 (.Name x pos) gx1 := fun C s₀ H₀ ex =>
  pgx_name S.nd rfl (.inl (S.own_l (by simp))) (.inr (S.own_l (by simp)))
theorem pg3 {K : PySem.W.Frag} (hK : X.K = K := by rfl) {x1 x2 x3 : Str} {p1 p2 p3 : Pos} {k : Nat} (hc : X.calm = true) (S : CompSc [x1, x2, x3] fr sc X.env.scope) : ∀ C s₀ H₀ ex, PGx (cxComp X [x1, x2, x3] fr sc C s₀ H₀ ex) 3 (.Tuple [.Name x1 p1, .Name x2 p2, .Name x3 p3] k pos) (gxT K 3) := fun C s₀ H₀ ex => by
  subst hK
  exact pgx_three (Y := cxComp X [x1, x2, x3] fr sc C s₀ H₀ ex) hc S.nd rfl rfl rfl (S.own_l (by simp)) (S.own_l (by simp)) (S.own_l (by simp))
end
end L2
namespace L2
open PySem
def kidE : Expr → Nat → Expr
  | .Call f as _ _, i => (f :: as).getD i f
  | .BinOp a _ b _, i => [a, b].getD i a
  | .Compare a _ bs _, i => (a :: bs).getD i a
  | .BoolOp _ vs _, i => vs.getD i (.Constant .none 0 ⟨0, 0, 0, 0⟩)
  | .UnaryOp _ a _, _ => a
  | .IfExp t a b _, i => [t, a, b].getD i a
  | .Subscript a b _, i => [a, b].getD i a
  | .Attribute a _ _, _ => a
  | .Tuple es _ _, i => es.getD i (.Constant .none 0 ⟨0, 0, 0, 0⟩)
  | .List es _, i => es.getD i (.Constant .none 0 ⟨0, 0, 0, 0⟩)
  | e, _ => e
def kidS : Stmt → Nat → Expr
  | .Return (some e) _, _ => e
  | .Expr e _, _ => e
  | .Assign ts e _, i => (e :: ts).getD i e
  | .AugAssign t _ e _, i => [e, t].getD i e
  | .If t _ _ _, _ => t
  | .While t _ _ _, _ => t
  | .For tg it _ _ _, i => [it, tg].getD i it
  | _, _ => .Constant .none 0 ⟨0, 0, 0, 0⟩
def kidSS : Stmt → Nat → Stmt
  | .If _ a b _, i => (a ++ b).getD i (.Pass ⟨0, 0, 0, 0⟩)
  | .While _ a _ _, i => a.getD i (.Pass ⟨0, 0, 0, 0⟩)
  | .For _ _ a _ _, i => a.getD i (.Pass ⟨0, 0, 0, 0⟩)
  | .Try a _ _ _ _, i => a.getD i (.Pass ⟨0, 0, 0, 0⟩)
  | s, _ => s
def scopeOf : Expr → Scope
  | .ListComp _ _ sc _ => sc
  | _ => { kind := .function, names := [], isGenerator := false, isCoroutine := false }
def bodyAt (s : Stmt) (i : Nat) : Stmt := (defBody s).getD i (.Pass ⟨0, 0, 0, 0⟩)
end L2
namespace L2
open PySem
theorem tComp_by {wi : TI} {gx : GX} {tt : TT} {te : TE} {js : List Nat} {σ : St} {H H1 : Hp} {Q : VK} (J : It) (n : Nat) (hw : ∀ R : It → Hp → Prop, R J H1 → wi σ H R) (Pv : Nat → List V → Hp → Prop) (h0 : Pv 0 [] H1) (hz : n ≤ sizeLine)
    (hl : ∀ i ys H, i ≤ n → Pv i ys H → ys.length ≤ i) (hgo : ∀ i ys H, i < n → Pv i ys H → J.go i H) (hst : ∀ ys H, Pv n ys H → J.stop n H)
    (hs : ∀ i ys H x H', i < n → Pv i ys H → J.yld i H x H' → gx x H' fun vs => tt (vs.map some ++ frv js σ) H' fun b H2 => if b = true then te (vs.map some ++ frv js σ) H2 fun y H3 => Pv (i + 1) (ys ++ [y]) H3 else Pv (i + 1) ys H2)
    (hd : ∀ ys H, Pv n ys H → ∀ p, H p = none → Q (.ref p) (upd H p (.lst ys))) : tComp wi gx tt te js σ H Q :=
  hw _ (comp_by Pv h0 hz hl hgo hst hs hd)
end L2
namespace L2
open PySem PySem.Spec PyProof.Rows
def litV : Expr → Option V
  | .Constant (.int i) _ _ => some (.int i)
  | .Constant (.str x) _ _ => some (.str x)
  | _ => none
def litVs : List Expr → Option (List V)
  | [] => some []
  | e :: es => match litV e, litVs es with
    | some v, some vs => some (v :: vs)
    | _, _ => none
def tLits (vs : List V) : TA := fun _ H Q => Q vs H
theorem pa_lits {X : Cx} : ∀ {es : List Expr} {vs : List V}, litVs es = some vs → PA X es (tLits vs)
  | [], vs, h => by
    cases h
    exact fun pos pins s σ H Q I q => pa_nil pos pins s σ H Q I q
  | e :: es, vs, h => by
    unfold litVs at h
    split at h
    · rename_i v vs' hv hvs
      cases h
      have ih := pa_lits (X := X) hvs
      have hs : starEach (e :: es) X.env = (false, eval e X.env) :: starEach es X.env := by
        cases e <;> first | rfl | (simp [litV] at hv)
      have he : PE X e (tC v) := by
        unfold litV at hv
        split at hv
        · cases hv; exact pe_int
        · cases hv; exact pe_str
        · cases hv
      exact fun pos pins s σ H Q I q => pa_cons he ih hs pos pins s σ H Q I q
    · cases h
end L2
namespace L2
open PySem PySem.Spec PyProof.Rows
def litT : Expr → Option (List V)
  | .Tuple es _ _ => litVs es
  | _ => none
theorem pe_litT {X : Cx} {e : Expr} {vs : List V} (h : litT e = some vs) : PE X e (tTup (tLits vs)) := by
  cases e <;> first | exact pe_tup (pa_lits h) | cases h
end L2
namespace L2
open PySem
theorem pe_id {X : Cx} {e : Expr} {t : TE} (h : PE X e t) : PE X e t := h
end L2
end
section
set_option maxRecDepth 100000
set_option maxHeartbeats 4000000
set_option linter.all false
namespace L2
open PySem
section
variable {t u : TS} {D : Ends} {σ : St} {H : Hp} {Q : VK} {QB : Bool → Hp → Prop} {K : PySem.W.Frag} {te ta tb : TE} {i j n : Int} {k l : Bool} {x y : Str} {a b : Addr} {v : V}
theorem e_tst (te : TE) (QB : Bool → Hp → Prop) : tTst te σ H QB = te σ H fun x H' => isB x H' QB := rfl
theorem e_isB : isB (.bl k) H QB = QB k H := rfl
theorem e_tru (te : TE) : tTru K te σ H QB = te σ H fun x H' => rTru K x H' QB := rfl
theorem e_truB : rTru K (.bl k) H QB = QB k H := rfl
theorem e_truI : rTru K (.int i) H QB = QB (i != 0) H := rfl
theorem e_truN : rTru K .non H QB = QB false H := rfl
theorem e_eqI : rEq2 K (.int i) (.int j) H Q = Q (.bl (decide (i = j))) H := by
  show (scal (.int i) (.int j) = true ∧ Q (.bl (decide (V.int i = V.int j))) H) = _
  rw [show decide (V.int i = V.int j) = decide (i = j) from by simp]
  exact propext ⟨fun h => h.2, fun h => ⟨rfl, h⟩⟩
theorem e_eqS : rEq2 K (.str x) (.str y) H Q = Q (.bl (decide (x = y))) H := by
  show (scal (.str x) (.str y) = true ∧ Q (.bl (decide (V.str x = V.str y))) H) = _
  rw [show decide (V.str x = V.str y) = decide (x = y) from by simp]
  exact propext ⟨fun h => h.2, fun h => ⟨rfl, h⟩⟩
theorem e_neI : rNe2 K (.int i) (.int j) H Q = Q (.bl (!decide (i = j))) H := by
  show (scal (.int i) (.int j) = true ∧ Q (.bl (!decide (V.int i = V.int j))) H) = _
  rw [show decide (V.int i = V.int j) = decide (i = j) from by simp]
  exact propext ⟨fun h => h.2, fun h => ⟨rfl, h⟩⟩
theorem e_neS : rNe2 K (.str x) (.str y) H Q = Q (.bl (!decide (x = y))) H := by
  show (scal (.str x) (.str y) = true ∧ Q (.bl (!decide (V.str x = V.str y))) H) = _
  rw [show decide (V.str x = V.str y) = decide (x = y) from by simp]
  exact propext ⟨fun h => h.2, fun h => ⟨rfl, h⟩⟩
theorem e_eqNI : rEq2 K .non (.int j) H Q = Q (.bl false) H := by
  show (scal .non (.int j) = true ∧ Q (.bl (decide (V.non = V.int j))) H) = _
  exact propext ⟨fun h => by simpa using h.2, fun h => ⟨rfl, by simpa using h⟩⟩
theorem e_i0 (g : Int → Int → V) : rInt0 g (.int i) (.int j) H Q = Q (g i j) H := rfl
theorem e_i2 (C : Int → Int → Prop) (g : Int → Int → V) : rInt2 C g (.int i) (.int j) H Q = (C i j ∧ Q (g i j) H) := rfl
theorem e_addI : rAdd2 (.int i) (.int j) H Q = Q (.int (i + j)) H := rfl
theorem e_addS : rAdd2 (.str x) (.str y) H Q = (x.length + y.length ≤ sizeLine ∧ Q (.str (x ++ y)) H) := rfl
theorem e_mulI : rMul2 (.int i) (.int j) H Q = (CMul i j ∧ Q (.int (i * j)) H) := rfl
theorem e_ixL : rIx2 K (.ref a) (.int i) H Q = ∃ xs v, (SqL K H a xs ∨ SqT K H a xs) ∧ atI xs i = some v ∧ Q v H := rfl
theorem e_ixS : rIx2 K (.str x) (.int i) H Q = (x.length ≤ sizeLine ∧ ∃ c, atI x.cps.toList i = some c ∧ Q (.str ⟨#[c]⟩) H) := rfl
theorem e_lenS : rLen K [.str x] H Q = (x.length ≤ sizeLine ∧ Q (.int x.length) H) := rfl
theorem e_strI : rStr [.int i] H Q = (i.natAbs.log2 < 1920 ∧ Q (.str (toString i)) H) := rfl
theorem e_intS : rInt [.str x] H Q = ∃ n, (PySem.intText? x = some n ∧ x.length ≤ 640) ∧ Q (.int n) H := rfl
theorem e_min : rMin [.int i, .int j] H Q = Q (.int (if j < i then j else i)) H := rfl
end
end L2
end
section
set_option maxRecDepth 100000
set_option maxHeartbeats 4000000
set_option linter.all false
namespace L2
open PySem PySem.Spec PyProof.Rows
section
variable {X : Cx} {a b c e o : Expr} {es : List Expr} {ta tb tc te to : TE} {pos p apos cpos : Pos} {x m : Str} {t : TA}
def keyV : V → Option Key
  | .int i => some (.inl i)
  | .str z => some (.inr z)
  | _ => none
theorem keyV_kV {v : V} {k : Key} (h : keyV v = some k) : v = kV k := by
  cases v <;> cases h <;> rfl
def rIxD : R2 := fun x y H Q => match x with
  | .ref p => ∃ kvs k v, H p = some (.dK kvs) ∧ keyV y = some k ∧ valV kvs k = some v ∧ Q v H
  | _ => False
theorem ix_dict (hu : X.A.units + 64 < cLine) : IxR X rIxD := by
  intro value slice pins s σ H x y v u Q I rx ry h hs
  match x, rx, h with
  | .ref p, rx, ⟨kvs, k, z, hp, hk, hv, q⟩ =>
    cases rx
    have ek := keyV_kV hk
    subst ek
    have g : DGet H p (kV k) (some z) := .inl ⟨kvs, k, .inl hp, rfl, hv.symm⟩
    exact tail_any (dict_typeIs I g) PySem.F.slot_dict_getitem.lookup (d_getItem (by omega) I g ry fun w' s3 I3 rw' => ⟨z, H, I3, rw', q⟩) hs
def rIx3 (K : PySem.W.Frag) : R2 := fun x y H Q => match x, y with
  | .ref p, .int i => (∃ xs v, (SqL K H p xs ∨ SqT K H p xs) ∧ atI xs i = some v ∧ Q v H) ∨ ∃ kvs v, H p = some (.dK kvs) ∧ valV kvs (.inl i) = some v ∧ Q v H
  | .ref p, .str z => ∃ kvs v, H p = some (.dK kvs) ∧ valV kvs (.inr z) = some v ∧ Q v H
  | .str z, .int i => z.length ≤ sizeLine ∧ ∃ c, atI z.cps.toList i = some c ∧ Q (.str ⟨#[c]⟩) H
  | _, _ => False
theorem o_ix3 {K : PySem.W.Frag} (hK : X.K = K := by rfl) (hu : X.A.units + 64 < cLine) : IxR X (rIx3 K) := (IxR.or (o_ix rfl) (ix_dict hu)).mono fun x y H Q h => by
  subst hK
  match x, y, h with
  | .ref p, .int i, .inl h => exact .inl h
  | .ref p, .int i, .inr ⟨kvs, v, h1, h2, q⟩ => exact .inr ⟨kvs, _, v, h1, rfl, h2, q⟩
  | .ref p, .str z, ⟨kvs, v, h1, h2, q⟩ => exact .inr ⟨kvs, _, v, h1, rfl, h2, q⟩
  | .str z, .int i, h => exact .inl h
def rSet3 : V → V → V → Hp → (Hp → Prop) → Prop := fun o i v H Q => match o, i with
  | .ref p, .int k => (∃ xs j, H p = some (.lst xs) ∧ ixN xs.length k = some j ∧ Q (upd H p (.lst (xs.set j v)))) ∨ ∃ kvs, H p = some (.dK kvs) ∧ kvs.length < sizeLine ∧ Q (upd H p (.dK (putK kvs (.inl k) v)))
  | .ref p, .str z => ∃ kvs, H p = some (.dK kvs) ∧ kvs.length < sizeLine ∧ Q (upd H p (.dK (putK kvs (.inr z) v)))
  | _, _ => False
theorem set_dict (hu : X.A.units + 64 < cLine) {pins : List (Addr × Obj)} {s : Shared} {σ : St} {H : Hp} {p : Addr} {k : Key} {kvs : List (Key × V)} {v : V} {iv u : Value} {Q : Hp → Prop} (I : Inv X pins σ H s) (ri : RelV (kV k) iv) (rv : RelV v u)
    (hp : H p = some (.dK kvs)) (hl : kvs.length < sizeLine) (q : Q (upd H p (.dK (putK kvs k v)))) : wpAny (model X.prog X.w) X.A (setItem (.ref p) iv u) (fun _ s' => ∃ H', Inv X pins σ H' s' ∧ Q H') X.xe s :=
  d_setItem (by omega) I (DPut.k hp hl) ri rv fun s' I' => ⟨_, I', q⟩
theorem o_set3 (hu : X.A.units + 64 < cLine) : PSet X rSet3 := by
  intro pins s σ H o i v ov iv u Q I ro ri rv h
  match o, i, ro, ri, h with
  | .ref p, .int k, ro, ri, .inl ⟨xs, j, h1, h2, q⟩ => exact set_list pins s σ H (.ref p) (.int k) v ov iv u Q I ro ri rv ⟨p, xs, k, j, rfl, rfl, h1, h2, q⟩
  | .ref p, .int k, ro, ri, .inr ⟨kvs, h1, h2, q⟩ =>
    cases ro
    exact set_dict hu (k := .inl k) I ri rv h1 h2 q
  | .ref p, .str z, ro, ri, ⟨kvs, h1, h2, q⟩ =>
    cases ro
    exact set_dict hu (k := .inr z) I ri rv h1 h2 q
def rGet3 : V → V → Hp → VK → Prop := fun o i H Q => match o with
  | .ref p => ∃ kvs k v, H p = some (.dK kvs) ∧ keyV i = some k ∧ valV kvs k = some v ∧ Q v H
  | _ => False
theorem o_get3 (hu : X.A.units + 64 < cLine) : PGet X rGet3 := by
  intro pins s σ H o i ov iv Q I ro ri h
  match o, ro, h with
  | .ref p, ro, ⟨kvs, k, v, h1, h2, h3, q⟩ =>
    cases ro
    have ek := keyV_kV h2
    subst ek
    exact d_getItem (by omega) I (.inl ⟨kvs, k, .inl h1, rfl, h3.symm⟩) ri fun w' s' I' rw' => ⟨v, H, I', rw', q⟩
def rIn3 (K : PySem.W.Frag) (neg : Bool) : R2 := fun x y H Q => match y with
  | .str z => ∃ c, x = .str ⟨#[c]⟩ ∧ Q (.bl (xor neg (decide (c ∈ z.cps.toList)))) H
  | .ref p => (∃ xs, (SqL K H p xs ∨ SqT K H p xs) ∧ flatV x = true ∧ xs.all flatV = true ∧ Q (.bl (if neg then !inV x xs else inV x xs)) H) ∨ ∃ kvs k, H p = some (.dK kvs) ∧ keyV x = some k ∧ Q (.bl (if neg then !(valV kvs k).isSome else (valV kvs k).isSome)) H
  | _ => False
theorem in_dict (hu : X.A.units + 64 < cLine) : OpR X (compareOp .In) (fun x y H Q => ∃ p kvs k, y = .ref p ∧ H p = some (.dK kvs) ∧ keyV x = some k ∧ Q (.bl (valV kvs k).isSome) H) := by
  intro pins s σ H x y v u Q I rx ry h
  obtain ⟨p, kvs, k, rfl, h1, h2, q⟩ := h
  cases ry
  have ek := keyV_kV h2
  subst ek
  exact d_in (by omega) I (.inl ⟨kvs, k, .inl h1, rfl, rfl⟩) rx fun s' I' => ⟨.bl _, H, I', rfl, q⟩
theorem notin_dict (hu : X.A.units + 64 < cLine) : OpR X (compareOp .NotIn) (fun x y H Q => ∃ p kvs k, y = .ref p ∧ H p = some (.dK kvs) ∧ keyV x = some k ∧ Q (.bl (!(valV kvs k).isSome)) H) := by
  intro pins s σ H x y v u Q I rx ry h
  obtain ⟨p, kvs, k, rfl, h1, h2, q⟩ := h
  cases ry
  have ek := keyV_kV h2
  subst ek
  exact d_notIn (by omega) I (.inl ⟨kvs, k, .inl h1, rfl, rfl⟩) rx fun s' I' => ⟨.bl _, H, I', rfl, q⟩
theorem o_in3 {K : PySem.W.Frag} (hK : X.K = K := by rfl) (hu : X.A.units + 64 < cLine) : OpR X (compareOp .In) (rIn3 K false) := (OpR.or (o_in rfl) (in_dict hu)).mono fun x y H Q h => by
  subst hK
  match y, h with
  | .str z, ⟨c, e, q⟩ => subst e; exact .inl ⟨c, rfl, q⟩
  | .ref p, .inl ⟨xs, h1, h2, h3, q⟩ => cases x <;> exact .inl ⟨xs, h1, h2, h3, q⟩
  | .ref p, .inr ⟨kvs, k, h1, h2, q⟩ => exact .inr ⟨p, kvs, k, rfl, h1, h2, q⟩
theorem o_notin3 {K : PySem.W.Frag} (hK : X.K = K := by rfl) (hu : X.A.units + 64 < cLine) : OpR X (compareOp .NotIn) (rIn3 K true) := (OpR.or (o_notin rfl) (notin_dict hu)).mono fun x y H Q h => by
  subst hK
  match y, h with
  | .str z, ⟨c, e, q⟩ => subst e; exact .inl ⟨c, rfl, q⟩
  | .ref p, .inl ⟨xs, h1, h2, h3, q⟩ => cases x <;> exact .inl ⟨xs, h1, h2, h3, q⟩
  | .ref p, .inr ⟨kvs, k, h1, h2, q⟩ => exact .inr ⟨p, kvs, k, rfl, h1, h2, q⟩
def lmR (K : PySem.W.Frag) (r : V → List V → Hp → VK → Prop) (t : TA) (x : V) (σ : St) (H1 : Hp) (Q : VK) : Prop := match x with
  | .ref p => (∃ xs, SqL K H1 p xs) ∧ t σ H1 fun xs H2 => r (.ref p) xs H2 Q
  | _ => False
theorem e_lmR (K : PySem.W.Frag) (r : V → List V → Hp → VK → Prop) (t : TA) (p : Addr) {σ : St} {H1 : Hp} {Q : VK} : lmR K r t (.ref p) σ H1 Q = ((∃ xs, SqL K H1 p xs) ∧ t σ H1 fun xs H2 => r (.ref p) xs H2 Q) := rfl
def tLm (K : PySem.W.Frag) (r : V → List V → Hp → VK → Prop) (to : TE) (t : TA) : TE := fun σ H Q => to σ H fun x H1 => lmR K r t x σ H1 Q
theorem tLm_eq (K : PySem.W.Frag) (r : V → List V → Hp → VK → Prop) (to : TE) (t : TA) : tLm K r to t = tBM K "list" r to t := by
  funext σ H Q
  unfold tLm tBM
  congr 1
  funext x H1
  unfold lmR
  cases x with
  | ref p =>
    refine propext ⟨fun ⟨h, q⟩ => ⟨.inl ⟨rfl, h⟩, q⟩, fun ⟨h, q⟩ => ⟨?_, q⟩⟩
    rcases h with ⟨_, h⟩ | ⟨z, _⟩ | ⟨z, _⟩ | ⟨z, _⟩
    · exact h
    · exact absurd z (by decide)
    · exact absurd z (by decide)
    · exact absurd z (by decide)
  | str z => exact propext ⟨fun h => h.elim, fun ⟨h, _⟩ => absurd h (by show ¬ ("list" = "str"); decide)⟩
  | int z => exact propext ⟨fun h => h.elim, fun ⟨h, _⟩ => absurd h (by show ¬ ("list" = "int"); decide)⟩
  | _ => exact propext ⟨fun h => h.elim, fun ⟨h, _⟩ => h.elim⟩
def rApp : V → List V → Hp → VK → Prop := fun x vs H Q => match x, vs with
  | .ref l, [y] => ∃ xs, H l = some (.lst xs) ∧ xs.length < sizeLine ∧ Q .non (upd H l (.lst (xs ++ [y])))
  | _, _ => False
theorem mt_app : MtR X "list.append" rApp := by
  intro pins s σ H x xs v us Q I rx rv h
  match x, xs, rx, rv, h with
  | .ref l, [y], rx, rv, ⟨xs, h1, h2, q⟩ => exact mt_append pins s σ H (.ref l) [y] v us Q I rx rv ⟨l, xs, y, rfl, rfl, h1, h2, q⟩
def rExt : V → List V → Hp → VK → Prop := fun x vs H Q => match x, vs with
  | .ref l, [.ref b] => ∃ xs zs, H l = some (.lst xs) ∧ H b = some (.lst zs) ∧ xs.length + zs.length ≤ sizeLine ∧ Q .non (upd H l (.lst (xs ++ zs)))
  | _, _ => False
theorem mt_ext : MtR X "list.extend" rExt := by
  intro pins s σ H x xs v us Q I rx rv h
  match x, xs, rx, rv, h with
  | .ref l, [.ref b], rx, rv, ⟨xs, zs, h1, h2, h3, q⟩ => exact mt_extend pins s σ H (.ref l) [.ref b] v us Q I rx rv ⟨l, b, xs, zs, rfl, rfl, h1, h2, h3, q⟩
theorem m_append {K : PySem.W.Frag} (hK : X.K = K := by rfl) (ho : PE X o to) (ha : PA X (e :: es) t) (hbase : attributeBase o "append" X.env (eval o X.env) = eval o X.env := by rfl)
    (hfew : ((backTo cpos (starEach (e :: es) X.env)).all (fun x => !x.1) && (backToKw cpos (keywordEach [] X.env)).all (fun x => x.1.isSome)
      && decide ((e :: es).length + ([] : List Keyword).length + (if ([] : List Keyword).isEmpty then 0 else 1) < 30)) = true := by rfl)
    (hline : (apos.endLine == cpos.line) = true := by rfl) (hs : starEach (e :: es) X.env = (false, eval e X.env) :: starEach es X.env := by rfl) (hplain : (backTo cpos (starEach es X.env)).any (·.1) = false := by rfl) :
    PE X (.Call (.Attribute o "append" apos) (e :: es) [] cpos) (tLm K rApp to t) := by
  subst hK
  rw [tLm_eq]
  exact pe_bm F.plainAttrs_list F.slot_list_append F.type_list_append mt_app ho ha hbase hfew hline hs hplain
theorem m_extend {K : PySem.W.Frag} (hK : X.K = K := by rfl) (ho : PE X o to) (ha : PA X (e :: es) t) (hbase : attributeBase o "extend" X.env (eval o X.env) = eval o X.env := by rfl)
    (hfew : ((backTo cpos (starEach (e :: es) X.env)).all (fun x => !x.1) && (backToKw cpos (keywordEach [] X.env)).all (fun x => x.1.isSome)
      && decide ((e :: es).length + ([] : List Keyword).length + (if ([] : List Keyword).isEmpty then 0 else 1) < 30)) = true := by rfl)
    (hline : (apos.endLine == cpos.line) = true := by rfl) (hs : starEach (e :: es) X.env = (false, eval e X.env) :: starEach es X.env := by rfl) (hplain : (backTo cpos (starEach es X.env)).any (·.1) = false := by rfl) :
    PE X (.Call (.Attribute o "extend" apos) (e :: es) [] cpos) (tLm K rExt to t) := by
  subst hK
  rw [tLm_eq]
  exact pe_bm F.plainAttrs_list F.slot_list_extend F.type_list_extend mt_ext ho ha hbase hfew hline hs hplain
def rSplit : V → List V → Hp → VK → Prop := fun x xs H Q => match x, xs with
  | .str z, [.str y] => ((y.length == 0) = false ∧ z.length + 2 ≤ sizeLine) ∧ ∀ p, H p = none → Q (.ref p) (upd H p (.lst ((Txt.split z y).map V.str)))
  | _, _ => False
theorem vals_strs : ∀ (l : List (Str × Tok)), Vals (l.map fun p => V.str p.1) (strValues l)
  | [] => .nil
  | (z, t) :: r => .cons ⟨t, rfl⟩ (vals_strs r)
theorem mt_split : MtR X "str.split" rSplit := by
  intro pins s σ H x xs v us Q I rx rv h
  match x, xs, rx, rv, h with
  | .str z, [.str y], rx, rv, ⟨⟨hy, hz⟩, q⟩ =>
    obtain ⟨tz, rfl⟩ := rx
    obtain ⟨u, rfl, ru⟩ := rv.one
    obtain ⟨ty, rfl⟩ := ru
    have hn : (Builtin.Str.partsBetween z (Builtin.Str.occurrences z y 0 z.length (z.length + 1)) y.length).length ≤ sizeLine := by
      have e1 := StrLaws.occ_length_le z y 0 z.length (z.length + 1)
      rw [length_partsBetween]; omega
    have hl : (Txt.split z y).length ≤ sizeLine := by
      unfold Txt.split
      split
      · show 1 ≤ sizeLine; decide
      · split
        · show 1 ≤ sizeLine; decide
        · exact hn
    have fin : ∀ (l : List (Str × Tok)) (k : Nat), l.map (·.1) = Txt.split z y → EP X pins σ Q (.ref s.heap.objs.size) { s with toks := k, heap := s.heap.push { cls := .type "list", data := .seq (strValues l).toArray } } := fun l k e => by
      have hv : Vals ((Txt.split z y).map V.str) (strValues l) := by
        rw [← e, List.map_map]
        exact vals_strs l
      exact ⟨.ref s.heap.objs.size, _, I.lnew (t' := k) hv (by rw [List.length_map]; exact hl), rfl, q _ I.fresh⟩
    cases h1 : (decide (z.length < y.length) || decide (Builtin.Str.strKind z < Builtin.Str.strKind y))
    · cases hf : (Builtin.Str.occurrences z y 0 z.length (z.length + 1)).isEmpty
      · refine call_meets F.slot_str_split (typeIs_str _ _ _) F.entry_str_split (F.args_str_split_2 _ _) (meets_str_split_sep z y tz ty h1 hy hf (by omega) hn) ?_
        show wants _ _ _ { s with toks := _, heap := s.heap.push { cls := .type "list", data := .seq (strsFrom s.toks (Builtin.Str.partsBetween z (Builtin.Str.occurrences z y 0 z.length (z.length + 1)) y.length)).toArray } }
        rw [strsFrom_eq]
        exact fin (numbered s.toks _) _ ((numbered_texts _ _).trans ((if_neg (ne_true_of_eq_false h1)).trans (if_neg (ne_true_of_eq_false hf))).symm)
      · exact call_meets F.slot_str_split (typeIs_str _ _ _) F.entry_str_split (F.args_str_split_2 _ _) (meets_str_split_not_found z y tz ty h1 hy hf)
          (fin [(z, tz)] s.toks ((if_neg (ne_true_of_eq_false h1)).trans (if_pos hf)).symm)
    · exact call_meets F.slot_str_split (typeIs_str _ _ _) F.entry_str_split (F.args_str_split_2 _ _) (meets_str_split_cannot_occur z y tz ty h1)
        (fin [(z, tz)] s.toks (if_pos h1).symm)
def rJoin (K : PySem.W.Frag) : V → List V → Hp → VK → Prop := fun x xs H Q => match x, xs with
  | .str z, [.ref p] => ∃ ys : List Str, SqL K H p (ys.map V.str) ∧ (ys.map (·.length)).sum + ys.length * z.length ≤ 16777216 ∧ Q (.str (Txt.join z ys)) H
  | _, _ => False
theorem strsAre_of {ys : List Str} : ∀ {us : List Value}, Vals (ys.map V.str) us → StrsAre us ys := by
  induction ys with
  | nil => intro us r; rw [List.map_nil] at r; cases r; exact .nil
  | cons y r ih =>
    intro us rr
    rw [List.map_cons] at rr
    cases rr with
    | cons h t =>
      obtain ⟨tk, rfl⟩ := h
      exact .cons _ _ (ih t)
theorem mt_join {K : PySem.W.Frag} (hK : X.K = K) : MtR X "str.join" (rJoin K) := by
  subst hK
  intro pins s σ H x xs v us Q I rx rv h
  match x, xs, rx, rv, h with
  | .str z, [.ref p], rx, rv, ⟨ys, hq, hz, q⟩ =>
    obtain ⟨tz, rfl⟩ := rx
    obtain ⟨u, rfl, ru⟩ := rv.one
    cases ru
    obtain ⟨its, r, pl, _⟩ := I.list hq
    exact join_list pl.isList (strsAre_of (by simpa using r)) hz fun t' k => ⟨.str _, H, I.tok k, ⟨t', rfl⟩, q⟩
theorem e_bmS_ty (r : V → List V → Hp → VK → Prop) (to : TE) (t : TA) (K : PySem.W.Frag) : tBmS r to t = tBM K "str" r to t := by
  rw [tBmS_bm K]
  funext σ H Q
  unfold tBM
  congr 1
  funext x H1
  refine propext ⟨fun q => ⟨q.1.2, q.2⟩, fun q => ⟨⟨?_, q.1⟩, q.2⟩⟩
  cases x with
  | str z => exact ⟨z, rfl⟩
  | int i => exact absurd q.1 (by show ¬ ("str" = "int"); decide)
  | ref p => exact absurd q.1 (by rintro (⟨z, _⟩ | ⟨z, _⟩ | ⟨z, _⟩ | ⟨z, _⟩) <;> exact absurd z (by decide))
  | _ => exact q.1.elim
theorem m_split (ho : PE X o to) (ha : PA X (e :: es) t) (hbase : attributeBase o "split" X.env (eval o X.env) = eval o X.env := by rfl)
    (hfew : ((backTo cpos (starEach (e :: es) X.env)).all (fun x => !x.1) && (backToKw cpos (keywordEach [] X.env)).all (fun x => x.1.isSome)
      && decide ((e :: es).length + ([] : List Keyword).length + (if ([] : List Keyword).isEmpty then 0 else 1) < 30)) = true := by rfl)
    (hline : (apos.endLine == cpos.line) = true := by rfl) (hs : starEach (e :: es) X.env = (false, eval e X.env) :: starEach es X.env := by rfl) (hplain : (backTo cpos (starEach es X.env)).any (·.1) = false := by rfl) :
    PE X (.Call (.Attribute o "split" apos) (e :: es) [] cpos) (tBmS rSplit to t) := by
  rw [e_bmS_ty _ _ _ X.K]
  exact pe_bm F.plainAttrs_str F.slot_str_split F.type_str_split mt_split ho ha hbase hfew hline hs hplain
theorem m_join {K : PySem.W.Frag} (hK : X.K = K := by rfl) (ho : PE X o to) (ha : PA X (e :: es) t) (hbase : attributeBase o "join" X.env (eval o X.env) = eval o X.env := by rfl)
    (hfew : ((backTo cpos (starEach (e :: es) X.env)).all (fun x => !x.1) && (backToKw cpos (keywordEach [] X.env)).all (fun x => x.1.isSome)
      && decide ((e :: es).length + ([] : List Keyword).length + (if ([] : List Keyword).isEmpty then 0 else 1) < 30)) = true := by rfl)
    (hline : (apos.endLine == cpos.line) = true := by rfl) (hs : starEach (e :: es) X.env = (false, eval e X.env) :: starEach es X.env := by rfl) (hplain : (backTo cpos (starEach es X.env)).any (·.1) = false := by rfl) :
    PE X (.Call (.Attribute o "join" apos) (e :: es) [] cpos) (tBmS (rJoin K) to t) := by
  rw [e_bmS_ty _ _ _ X.K]
  exact pe_bm F.plainAttrs_str F.slot_str_join F.type_str_join (mt_join hK) ho ha hbase hfew hline hs hplain
end
end L2
end
section
set_option maxRecDepth 100000
set_option maxHeartbeats 4000000
set_option linter.all false
namespace L2
open PySem PySem.Spec PyProof.Rows
section
variable {X : Cx} {a b c e o : Expr} {es : List Expr} {ta tb tc te to : TE} {pos p apos cpos : Pos} {x m : Str} {t : TA}
def rList (K : PySem.W.Frag) : List V → Hp → VK → Prop := fun xs H Q => match xs with
  | [.ref p] => (∃ ys, (SqL K H p ys ∨ SqT K H p ys) ∧ ∀ l, H l = none → Q (.ref l) (upd H l (.lst ys))) ∨ ∃ kvs, H p = some (.dK kvs) ∧ ∀ l, H l = none → Q (.ref l) (upd H l (.lst (kvs.map fun kv => kV kv.1)))
  | _ => False
theorem keyIs_rel {k : Key} {v : Value} (h : keyIs k v = true) : RelV (kV k) v := by
  rcases keyIs_shape h with ⟨i, t, rfl, rfl⟩ | ⟨z, t, rfl, rfl⟩
  · exact ⟨t, rfl⟩
  · exact ⟨t, rfl⟩
theorem vals_of {xs : List V} {us : List Value} (hl : xs.length = us.length) (h : ∀ (j : Nat) x u, xs[j]? = some x → us[j]? = some u → RelV x u) : Vals xs us := by
  induction xs generalizing us with
  | nil => cases us with
    | nil => exact .nil
    | cons u r => cases hl
  | cons x r ih => cases us with
    | nil => cases hl
    | cons u q => exact .cons (h 0 x u rfl rfl) (ih (Nat.succ.inj hl) fun j y w hy hw => h (j + 1) y w (by simpa using hy) (by simpa using hw))
theorem paired_at {kvs : List (Key × V)} {vs : List (Key × Value)} (rel : KV kvs vs) : ∀ {j : Nat} {kv : Key × V} {k : Key} {y : Value}, kvs[j]? = some kv → vs[j]? = some (k, y) → kv.1 = k := by
  unfold KV at rel
  induction rel with
  | nil => intro j kv k y h _; simp at h
  | cons r t ih =>
    intro j kv k y h1 h2
    cases j with
    | zero =>
      simp at h1 h2
      subst h1
      rw [r.1, h2]
    | succ j => exact ih (by simpa using h1) (by simpa using h2)
theorem call_list_dict (hc : X.calm = true) : CallR X (.type "list") (fun xs H Q => ∃ p kvs, xs = [.ref p] ∧ H p = some (.dK kvs) ∧ ∀ l, H l = none → Q (.ref l) (upd H l (.lst (kvs.map fun kv => kV kv.1)))) := by
  intro pins s σ H xs us Q I r h
  obtain ⟨p, kvs, rfl, hp, q⟩ := h
  obtain ⟨u, rfl, ru⟩ := vals1 r
  cases ru
  obtain ⟨z, hd, vs, rel, dd⟩ := I.hok p _ hp
  obtain ⟨ep, hat⟩ := dd.dictAt
  have hlen : vs.length = kvs.length := rel.length.symm
  refine PySem.W.kdl_call (PySem.W.kdl_dict (knd := mixKind X.prog X.w) (kvs := vs) (ep := ep) hd) (I.ok.hd hc) hat (by omega) fun h' tk acc' c' hk hD hacc => ?_
  have hv : Vals (kvs.map fun kv => kV kv.1) acc'.toList := by
    refine vals_of (by rw [List.length_map]; have h1 := hacc.1; have e : acc'.toList.length = acc'.size := by simp
                       omega) fun j x u hx hu => ?_
    obtain ⟨k, y, hy, hky⟩ := hacc.2 j u (by rw [← Array.getElem?_toList]; exact hu)
    rw [List.getElem?_map] at hx
    cases hkv : kvs[j]? with
    | none => rw [hkv] at hx; cases hx
    | some kv =>
      rw [hkv] at hx
      cases hx
      have e := paired_at rel hkv hy
      show RelV (kV kv.1) u
      rw [e]
      exact keyIs_rel hky
  refine ⟨.ref s.heap.objs.size, _, I.laid (a := s.heap.objs.size) (o := .lst (kvs.map fun kv => kV kv.1)) (t' := tk) hk (Nat.le_refl _) ⟨by rw [List.length_map]; exact z, acc'.toList, c', hv, ?_⟩, rfl, q _ I.fresh⟩
  rw [hD]
theorem call_list2 {K : PySem.W.Frag} (hK : X.K = K) (hc : X.calm = true) : CallR X (.type "list") (rList K) := (call_list_of.or (call_list_dict hc)).mono fun xs H Q h => by
  subst hK
  match xs, h with
  | [.ref p], .inl ⟨ys, h1, h2⟩ => exact .inl ⟨p, ys, rfl, h1, h2⟩
  | [.ref p], .inr ⟨kvs, h1, h2⟩ => exact .inr ⟨p, kvs, rfl, h1, h2⟩
theorem k_list {K : PySem.W.Frag} (hc : X.calm = true) (hK : X.K = K := by rfl) (hg : Gl X "list") (hm : X.mg "list" = none) (ha : PA X (e :: es) t) (he : starEach (e :: es) X.env = (false, eval e X.env) :: starEach es X.env := by rfl)
    (hpl : (backTo pos (starEach es X.env)).any (·.1) = false := by rfl) : PE X (.Call (.Name "list" p) (e :: es) [] pos) (tCB (rList K) t) := pe_callTy (call_list2 hK hc) hg hm bb_list ha (by decide) (by decide) he hpl
end
end L2
end
section
set_option maxRecDepth 100000
set_option maxHeartbeats 4000000
set_option linter.all false
namespace L2
open PySem PySem.Spec PyProof.Rows
section
variable {X : Cx} {a b c e o : Expr} {es : List Expr} {ta tb tc te to : TE} {pos p apos cpos : Pos} {x m : Str} {t : TA}
def rSl2 (K : PySem.W.Frag) : V → Option Int → Option Int → Hp → VK → Prop := fun x lo hi H Q => match x with
  | .str z => z.length ≤ sizeLine ∧ Q (.str (Txt.slice z lo hi)) H
  | .ref a => ∃ xs, SqL K H a xs ∧ ∀ p, H p = none → Q (.ref p) (upd H p (.lst (cutV xs lo hi)))
  | _ => False
theorem SlR.mono {r r' : V → Option Int → Option Int → Hp → VK → Prop} (h : SlR X r) (m : ∀ x lo hi H Q, r' x lo hi H Q → r x lo hi H Q) : SlR X r' :=
  fun pins s σ H x v vl vu lo hi sl Q I rx hs pl pu q => h pins s σ H x v vl vu lo hi sl Q I rx hs pl pu (m x lo hi H Q q)
theorem part_of {v : Value} {o : Option Int} (h : IsPart v o) : ∃ l : Option (Int × Tok), v = partValue l ∧ l.map (·.1) = o := by
  cases h with
  | none => exact ⟨none, rfl, rfl⟩
  | int i t => exact ⟨some (i, t), rfl, rfl⟩
theorem slice_len (z : Str) (lo hi : Option Int) (h : z.length ≤ sizeLine) : (Txt.slice z lo hi).length ≤ sizeLine := Nat.le_trans (Txt.slice_le ..) h
theorem sl_str : SlR X (fun x lo hi H Q => ∃ z, x = .str z ∧ z.length ≤ sizeLine ∧ Q (.str (Txt.slice z lo hi)) H) := by
  intro pins s σ H x v vl vu lo hi sl Q I rx hs pl pu h
  obtain ⟨z, rfl, hz, q⟩ := h
  obtain ⟨t, rfl⟩ := rx
  obtain ⟨l, rfl, rfl⟩ := part_of pl
  obtain ⟨u, rfl, rfl⟩ := part_of pu
  refine ⟨"str", _, slot_str_getitem.lookup, typeIs_str s z t, ?_⟩
  refine wpAny_getItem_str_slice (l := l) (u := u) (st := none) hs rfl ?_
  have hl := slice_len z (l.map (·.1)) (u.map (·.1)) hz
  unfold sliceMade
  split
  · rename_i e
    have e1 : Txt.slice z (l.map (·.1)) (u.map (·.1)) = z := if_pos e
    rw [e1] at q
    exact ⟨.str z, H, I, ⟨_, rfl⟩, q⟩
  · rename_i e
    have e1 : Txt.slice z (l.map (·.1)) (u.map (·.1)) = ⟨(List.filterMap (fun x => z.cps[x]?) (slicePicked z l u none)).toArray⟩ := if_neg e
    rw [e1] at q hl
    exact ⟨hl, .str _, H, I.tok _, ⟨_, rfl⟩, q⟩
theorem o_sl2 {K : PySem.W.Frag} (hK : X.K = K := by rfl) : SlR X (rSl2 K) := by
  subst hK
  refine (sl_str.or sl_list).mono fun x lo hi H Q h => ?_
  match x, h with
  | .str z, ⟨h1, h2⟩ => exact .inl ⟨z, rfl, h1, h2⟩
  | .ref a, ⟨xs, h1, h2⟩ => exact .inr ⟨a, xs, rfl, h1, h2⟩
def repS (z : Str) (n : Int) : Str := if n < 1 then Str.empty else if (n == 1 || z.length == 0) = true then z else ⟨List.foldl (fun x1 x2 => x1 ++ x2) #[] (List.replicate n.toNat z.cps)⟩
theorem op_rep_str : OpR X (binaryOp .Mult) (fun x y H Q => ∃ z n, x = .str z ∧ y = .int n ∧ n < 2 ^ 16 ∧ z.length < 2 ^ 8 ∧ -(2 ^ 63) ≤ n ∧ Q (.str (repS z n)) H) := by
  intro pins s σ H x y v u Q I rx ry h
  obtain ⟨z, n, rfl, rfl, h1, h2, h3, q⟩ := h
  obtain ⟨t, rfl⟩ := rx
  obtain ⟨t', rfl⟩ := ry
  have hb : z.length * n.toNat ≤ 2 ^ 24 := by
    have : z.length * n.toNat ≤ 2 ^ 8 * 2 ^ 16 := Nat.mul_le_mul (by omega) (by omega)
    omega
  refine P.mul_str (by
    have e1 : decide (n < -(2 ^ 63 : Int)) = false := decide_eq_false (by omega)
    have e2 : decide (n ≥ 2 ^ 63) = false := decide_eq_false (by omega)
    rw [e1, e2, Bool.or_false]) (fun hn _ => by
      have : (2 ^ 16 : Int) ≤ (2 ^ 63 - 1) / n := by
        apply Int.le_ediv_of_mul_le (by omega)
        omega
      omega) (fun hn _ => by
      unfold Builtin.Str.tooLong
      exact decide_eq_false (by have : (2:Nat)^24 ≤ sizeLine := by decide
                                omega)) ?_
  unfold repS at q
  by_cases h : n < 1
  · rw [if_pos h] at q ⊢
    exact ⟨by decide, .str _, H, I.tok _, ⟨_, rfl⟩, q⟩
  · rw [if_neg h] at q ⊢
    by_cases h' : (n == 1 || z.length == 0) = true
    · rw [if_pos h'] at q ⊢
      exact ⟨.str z, H, I, ⟨_, rfl⟩, q⟩
    · rw [if_neg h'] at q ⊢
      refine ⟨?_, .str _, H, I.tok _, ⟨_, rfl⟩, q⟩
      have key : ∀ (k : Nat) (acc : Array Nat), (List.foldl (fun x1 x2 => x1 ++ x2) acc (List.replicate k z.cps)).size = acc.size + k * z.cps.size := by
        intro k
        induction k with
        | zero => intro acc; simp
        | succ k ih =>
          intro acc
          rw [List.replicate_succ, List.foldl_cons, ih, Array.size_append, Nat.succ_mul]
          omega
      show (List.foldl (fun x1 x2 => x1 ++ x2) #[] (List.replicate n.toNat z.cps)).size ≤ sizeLine
      rw [key, Array.size_empty, Nat.zero_add, Nat.mul_comm]
      exact Nat.le_trans hb (by decide)
def rMul3 : R2 := fun x y H Q => match x, y with
  | .str z, .int n => (n < 2 ^ 16 ∧ z.length < 2 ^ 8 ∧ -(2 ^ 63) ≤ n) ∧ Q (.str (repS z n)) H
  | x, y => rMul2 x y H Q
theorem o_mul3 : OpR X (binaryOp .Mult) rMul3 := (o_mul.or op_rep_str).mono fun x y H Q h => by
  unfold rMul3 at h
  split at h
  · exact .inr ⟨_, _, rfl, rfl, h.1.1, h.1.2.1, h.1.2.2, h.2⟩
  · exact .inl h
theorem e_mulS {z : Str} {n : Int} {H : Hp} {Q : VK} : rMul3 (.str z) (.int n) H Q = ((n < 2 ^ 16 ∧ z.length < 2 ^ 8 ∧ -(2 ^ 63) ≤ n) ∧ Q (.str (repS z n)) H) := rfl
theorem e_mulI3 {i j : Int} {H : Hp} {Q : VK} : rMul3 (.int i) (.int j) H Q = (CMul i j ∧ Q (.int (i * j)) H) := rfl
end
end L2
end
section
set_option maxRecDepth 100000
set_option maxHeartbeats 4000000
set_option linter.all false
namespace L2
open PySem PySem.Spec PyProof.Rows
def Ite (K : PySem.W.Frag) (a : Addr) : It :=
  ⟨fun i H => ∃ xs x, SqL K H a xs ∧ xs[i]? = some x, fun i H v H' => ∃ T x, H T = none ∧ v = .ref T ∧ (∀ xs, SqL K H a xs → xs[i]? = some x) ∧ H' = upd H T (.tup [.int i, x]), fun i H => ∃ xs, SqL K H a xs ∧ xs.length ≤ i⟩
theorem not_freed {h : Heap} {a : Addr} {o : Obj} (e : h.get? a = some o) : o.isFreed = false := by
  unfold Heap.get? at e
  unfold Obj.isFreed
  split at e
  · cases e
  · rename_i hn
    split
    · exact absurd e (hn _ _ _)
    · rfl
theorem turn_enum {P : Program} {w : World} {K : PySem.W.Frag} {elts : List Expr} {kk : Nat} {tpos : Pos} (a e it : Addr) (hne : e ≠ it) :
    Turn P w K (.Tuple elts kk tpos) (Ite K a) [e, it] e (fun i h => (∃ old, IsEnum h e it (i : Nat) old) ∧ h.IsListIter it a i) where
  mem := by simp
  obj := fun i h st b hb => by
    obtain ⟨⟨old, h1⟩, o, h2, h3, h4⟩ := st
    rcases List.mem_cons.mp hb with rfl | hb
    · exact ⟨_, h1, fun v z => by
        have z' : Data.fields _ = Data.cell v := z
        cases z'⟩
    · rw [List.mem_singleton.mp hb]
      exact ⟨o, h2, fun v z => by rw [h4] at z; cases z⟩
  keep := fun i h h' st k => by
    obtain ⟨⟨old, h1⟩, o, h2, h3⟩ := st
    exact ⟨⟨old, k e (by simp) _ h1⟩, o, k it (by simp) o h2, h3⟩
  item := by
    intro X hP hw hK hc i pins s σ H E I hf st hg
    subst hP hw hK
    obtain ⟨xs, x, hq, hx⟩ := hg
    obtain ⟨its, rv, p, hz⟩ := I.list hq
    obtain ⟨u, hu, ru⟩ := rv.get hx
    obtain ⟨⟨old, h1⟩, h2⟩ := st
    have fe := hf e (by simp)
    have fi := hf it (by simp)
    refine wpAny_pyNext_enum_item h1 h2 p.isList (x := u) (by simpa using hu) hne fun h' e1 e2 e3 e4 e5 => ?_
    refine ⟨_, rfl, wpAny_letOwnedTupleGo_enum e1 fun h'' e6 sb => ?_⟩
    obtain ⟨oi, q1, q2, q3⟩ := e2
    have lte := Heap.lt_size h1
    have lti : it < s.heap.objs.size := by obtain ⟨o, ho, _⟩ := h2; exact Heap.lt_size ho
    have IA : Inv X pins σ H { s with heap := s.heap.update e (fun _ => { cls := .type "enumerate", data := .fields #[.none, .bool false, .ref it, rawInt ((i : Int) + 1), .none, u] }), toks := s.toks } :=
      I.turned (fun b o hb ho => (Heap.get?_update_other _ _ (Ne.symm hb)).trans ho) fe.1 fe.2.1 fe.2.2.2.1 fe.2.2.2.2.1 fe.2.2.2.2.2
    have IB : Inv X pins σ H { s with heap := (s.heap.update e (fun _ => { cls := .type "enumerate", data := .fields #[.none, .bool false, .ref it, rawInt ((i : Int) + 1), .none, u] })).update it (fun _ => oi), toks := s.toks } :=
      IA.turned (fun b o hb ho => (Heap.get?_update_other _ _ (Ne.symm hb)).trans ho) fi.1 fi.2.1 fi.2.2.2.1 fi.2.2.2.2.1 fi.2.2.2.2.2
    have szB : ((s.heap.update e (fun _ => { cls := .type "enumerate", data := .fields #[.none, .bool false, .ref it, rawInt ((i : Int) + 1), .none, u] })).update it (fun _ => oi)).objs.size = s.heap.objs.size := by rw [Heap.size_update, Heap.size_update]
    have hT : s.heap.objs.size ≠ e := Nat.ne_of_gt lte
    have kB : ∀ b ob, ((s.heap.update e (fun _ => { cls := .type "enumerate", data := .fields #[.none, .bool false, .ref it, rawInt ((i : Int) + 1), .none, u] })).update it (fun _ => oi)).get? b = some ob → h''.get? b = some ob := by
      intro b ob hb
      by_cases z1 : b = it
      · subst z1
        have ho : (s.heap.update e (fun _ => { cls := .type "enumerate", data := .fields #[.none, .bool false, .ref b, rawInt ((i : Int) + 1), .none, u] })).get? b = s.heap.get? b := Heap.get?_update_other _ _ hne
        obtain ⟨o, ho', _⟩ := h2
        rw [Heap.get?_update_self _ (ho.trans ho') (not_freed q1)] at hb
        rw [sb.2 b (Ne.symm hne), q1]; exact hb
      · rw [Heap.get?_update_other _ _ (Ne.symm z1)] at hb
        by_cases z2 : b = e
        · subst z2
          rw [Heap.get?_update_self _ h1 rfl] at hb
          rw [e6]; exact hb
        · rw [Heap.get?_update_other _ _ (Ne.symm z2)] at hb
          rw [sb.2 b z2]; exact e5 b ob z2 z1 hb
    have fresh : H s.heap.objs.size = none := I.hok.fresh (Nat.le_refl _)
    refine ⟨.ref s.heap.objs.size, upd H s.heap.objs.size (.tup [.int i, x]), IB.laid (h' := h'') (t' := s.toks + 1) kB (by rw [szB]; exact Nat.le_refl _) ⟨by show 2 ≤ sizeLine; decide, [.int i s.toks, u], .cons ⟨_, rfl⟩ (.cons ru .nil), ?_⟩, rfl, ⟨s.heap.objs.size, x, fresh, rfl, fun ys hy => by rw [I.list_inj hy hq]; exact hx, rfl⟩, ⟨⟨u, e6⟩, oi, (sb.2 it (Ne.symm hne)).trans q1, q2, q3⟩, fun b hb => ?_⟩
    · exact ⟨_, (sb.2 _ hT).trans e3, rfl, _, rfl⟩
    · have : b ≠ s.heap.objs.size := by
        rcases List.mem_cons.mp hb with rfl | hb
        · exact Nat.ne_of_lt lte
        · rw [List.mem_singleton.mp hb]; exact Nat.ne_of_lt lti
      rw [upd_ne this]; exact (hf b hb).1
  done := by
    intro X hP hw hK hc i pins s σ H E I hf st hg
    subst hP hw hK
    obtain ⟨xs, hq, hx⟩ := hg
    obtain ⟨its, rv, p, hz⟩ := I.list hq
    obtain ⟨⟨old, h1⟩, h2⟩ := st
    obtain ⟨f0, f1, f2, f3, f4, f5⟩ := hf it (by simp)
    have hl := rv.length
    exact wpAny_pyNext_enum_end (I.ok.hd hc) h1 h2 p.isList (by simp; omega) fun h' eb => ⟨rfl, I.turned (t' := s.toks) (fun b o hb e => eb b o hb e) f0 f1 f3 f4 f5⟩
  self := fun _ _ _ _ _ st h => let ⟨⟨_, h1⟩, _⟩ := st; wpAny_pyIter_enum h1 h
section
variable {X : Cx} {a : Expr} {t : TA} {p pos tpos : Pos} {elts : List Expr} {kk : Nat}
def iEnum (K : PySem.W.Frag) (ta : TA) : TI := fun σ H R => ta σ H fun vs H1 => match vs with
  | [.ref a] => (∃ xs, SqL K H1 a xs) ∧ R (Ite K a) H1
  | _ => False
theorem i_enum {K : PySem.W.Frag} (hK : X.K = K := by rfl) (hg : Gl X "enumerate") (hm : X.mg "enumerate" = none) (ha : PA X [a] t) (hs : starEach [a] X.env = [(false, eval a X.env)] := by rfl) : PI X (.Tuple elts kk tpos) (.Call (.Name "enumerate" p) [a] [] pos) (iEnum K t) := by
  subst hK
  intro pins s σ H R I h
  refine Call_ (ld_blt I hg hm boot_enumerate (PyProof.Rows.callWith_type1 (thn (ha pos pins s σ H _ I h) fun us s1 ⟨vs, H1, I1, r1, q1⟩ => ?_) hs rfl))
  match vs, r1, q1 with
  | [.ref a], r1, ⟨⟨xs, hq⟩, q⟩ =>
    obtain ⟨u, rfl, ru⟩ := vals1 r1
    cases ru
    obtain ⟨its, rv, pl, hz⟩ := I1.list hq
    refine call_enumerate_list pl.isList fun h' e1 e2 e3 e4 => wpAny_pyIter_enum e1 ?_
    have I2 : Inv X pins σ H1 { s1 with heap := h' } := I1.kept (t' := s1.toks) e4
    exact ⟨s1.heap.objs.size + 1, [s1.heap.objs.size + 1, s1.heap.objs.size], _, Ite X.K a, H1, rfl, I2, turn_enum a _ _ (Nat.succ_ne_self _), ⟨⟨_, e1⟩, e2⟩, fun b hb => by
      have hb' : s1.heap.objs.size ≤ b := by
        rcases List.mem_cons.mp hb with rfl | hb
        · exact Nat.le_succ _
        · rw [List.mem_singleton.mp hb]; exact Nat.le_refl _
      exact I1.fpOk hb' (I1.hok.fresh hb'), q⟩
end
end L2
end
section
set_option maxRecDepth 100000
set_option maxHeartbeats 4000000
set_option linter.all false
namespace L2
open PySem PySem.Spec PyProof.Rows
mutual
inductive DV (K : PySem.W.Frag) (H : Hp) : V → PyData → Prop
  | non : DV K H .non .none
  | bl (b : Bool) : DV K H (.bl b) (.bool b)
  | int (i : Int) : DV K H (.int i) (.int i)
  | str (z : Str) : DV K H (.str z) (.str z)
  | lst {a : Addr} {xs : List V} {ds : List PyData} : SqL K H a xs → DVs K H xs ds → DV K H (.ref a) (.list ds)
  | tup {a : Addr} {xs : List V} {ds : List PyData} : SqT K H a xs → DVs K H xs ds → DV K H (.ref a) (.tuple ds)
inductive DVs (K : PySem.W.Frag) (H : Hp) : List V → List PyData → Prop
  | nil : DVs K H [] []
  | cons {x : V} {xs : List V} {d : PyData} {ds : List PyData} : DV K H x d → DVs K H xs ds → DVs K H (x :: xs) (d :: ds)
end
section
variable {X : Cx} {pins : List (Addr × Obj)} {s : Shared} {σ : St} {H : Hp}
theorem DV.reads (I : Inv X pins σ H s) {x : V} {d : PyData} (h : DV X.K H x d) : ∀ v, RelV x v → ∃ as, Reads s.heap v d as := by
  refine DV.rec (motive_1 := fun x d _ => ∀ v, RelV x v → ∃ as, Reads s.heap v d as) (motive_2 := fun xs ds _ => ∀ vs, Vals xs vs → ∃ as, ReadsAll s.heap vs ds as) ?_ ?_ ?_ ?_ ?_ ?_ ?_ ?_ h
  · intro v r; cases r; exact ⟨_, .none⟩
  · intro b v r; cases r; exact ⟨_, .bool b⟩
  · intro i v r; obtain ⟨t, rfl⟩ := r; exact ⟨_, .int i t⟩
  · intro z v r; obtain ⟨t, rfl⟩ := r; exact ⟨_, .str z t⟩
  · intro a xs ds hq _ ih v r
    cases r
    obtain ⟨its, rv, pl, hz⟩ := I.list hq
    obtain ⟨as, hr⟩ := ih its rv
    obtain ⟨o, h1, h2, n, h3⟩ := pl.isList
    exact ⟨_, .list h1 h2 h3 hr⟩
  · intro a xs ds hq _ ih v r
    cases r
    obtain ⟨its, rv, pl, hz⟩ := I.tuple hq
    obtain ⟨as, hr⟩ := ih its rv
    obtain ⟨o, h1, h2, n, h3⟩ := pl
    exact ⟨_, .tuple h1 h2 h3 hr⟩
  · intro vs r; cases r; exact ⟨_, .nil⟩
  · intro x xs d ds _ _ ih1 ih2 vs r
    cases r with
    | cons r1 r2 =>
      obtain ⟨as, h1⟩ := ih1 _ r1
      obtain ⟨bs, h2⟩ := ih2 _ r2
      exact ⟨_, .cons h1 h2⟩
end
section
variable {X : Cx}
def rEq3 (K : PySem.W.Frag) : R2 := fun x y H Q => match x, y with
  | .ref p, .ref q => ∃ d e, DV K H (.ref p) d ∧ DV K H (.ref q) e ∧ (SeqAt.shaped d = true ∧ SeqAt.shaped e = true) ∧ Q (.bl (d.eqv e)) H
  | x, y => scal x y = true ∧ Q (.bl (decide (x = y))) H
def rNe3 (K : PySem.W.Frag) : R2 := fun x y H Q => match x, y with
  | .ref p, .ref q => ∃ d e, DV K H (.ref p) d ∧ DV K H (.ref q) e ∧ (SeqAt.shaped d = true ∧ SeqAt.shaped e = true) ∧ Q (.bl (!d.eqv e)) H
  | x, y => scal x y = true ∧ Q (.bl (!decide (x = y))) H
theorem o_eq3 {K : PySem.W.Frag} (hK : X.K = K := by rfl) (hu : X.A.units + 64 < cLine) : OpR X (compareOp .Eq) (rEq3 K) := by
  subst hK
  intro pins s σ H x y v u Q I rx ry h
  by_cases hr : (∃ p, x = .ref p) ∧ ∃ q, y = .ref q
  · obtain ⟨⟨p, rfl⟩, q, rfl⟩ := hr
    obtain ⟨d, e, h1, h2, ⟨s1, s2⟩, hq⟩ := h
    obtain ⟨as, r1⟩ := h1.reads I _ rx
    obtain ⟨bs, r2⟩ := h2.reads I _ ry
    exact eq_dataH r1 r2 s1 s2 hu ⟨.bl (d.eqv e), H, I, rfl, hq⟩
  · have h' : rEq x y H Q := by
      unfold rEq3 at h
      split at h
      · rename_i p q; exact absurd ⟨⟨p, rfl⟩, q, rfl⟩ hr
      · exact h
    exact op_eq pins s σ H x y v u Q I rx ry h'
theorem o_ne3 {K : PySem.W.Frag} (hK : X.K = K := by rfl) (hu : X.A.units + 64 < cLine) : OpR X (compareOp .NotEq) (rNe3 K) := by
  subst hK
  intro pins s σ H x y v u Q I rx ry h
  by_cases hr : (∃ p, x = .ref p) ∧ ∃ q, y = .ref q
  · obtain ⟨⟨p, rfl⟩, q, rfl⟩ := hr
    obtain ⟨d, e, h1, h2, ⟨s1, s2⟩, hq⟩ := h
    obtain ⟨as, r1⟩ := h1.reads I _ rx
    obtain ⟨bs, r2⟩ := h2.reads I _ ry
    exact ne_dataH r1 r2 s1 s2 hu ⟨.bl (!d.eqv e), H, I, rfl, hq⟩
  · have h' : rNe x y H Q := by
      unfold rNe3 at h
      split at h
      · rename_i p q; exact absurd ⟨⟨p, rfl⟩, q, rfl⟩ hr
      · exact h
    exact op_ne pins s σ H x y v u Q I rx ry h'
variable {K : PySem.W.Frag} {H : Hp} {Q : VK} {x y : Str} {i j : Int} {a b : Addr}
theorem e_neI3 : rNe3 K (.int i) (.int j) H Q = Q (.bl (!decide (i = j))) H := by
  unfold rNe3; simp [scal]
theorem e_neS3 : rNe3 K (.str x) (.str y) H Q = Q (.bl (!decide (x = y))) H := by
  unfold rNe3; simp [scal]
theorem e_neL3 : rNe3 K (.ref a) (.ref b) H Q = ∃ d e, DV K H (.ref a) d ∧ DV K H (.ref b) e ∧ (SeqAt.shaped d = true ∧ SeqAt.shaped e = true) ∧ Q (.bl (!d.eqv e)) H := rfl
end
end L2
end
section
set_option maxRecDepth 100000
set_option maxHeartbeats 4000000
set_option linter.all false
namespace L2
open PySem PySem.Spec PyProof.Rows
section
variable {X : Cx} {a b c e o : Expr} {es : List Expr} {ta tb tc te to : TE} {pos p apos cpos : Pos} {x m : Str} {t : TA}
def isC : V → Bool
  | .ref _ => true
  | .ty _ => true
  | _ => false
def rIsi3 (K : PySem.W.Frag) : List V → Hp → VK → Prop := fun xs H Q => match xs with
  | [x, .ref q] => (∃ t b, TyOf K H x t ∧ PySem.W.kitOne K t (.ref q) = some b ∧ Q (.bl b) H) ∨ ∃ cs C b, H q = some (.tup cs) ∧ cs.all isC = true ∧ TyOf K H x (.ref C) ∧ PySem.W.kitAny K (.ref C) (cs.map clsV) = some b ∧ Q (.bl b) H
  | [x, .ty n] => ∃ t b, TyOf K H x t ∧ PySem.W.kitOne K t (.type n) = some b ∧ Q (.bl b) H
  | _ => False
theorem cls_vals : ∀ {cs : List V} {us : List Value}, Vals cs us → cs.all isC = true → us = cs.map clsV
  | [], [], .nil, _ => rfl
  | c :: cs, u :: us, .cons r rr, h => by
    rw [List.all_cons, Bool.and_eq_true] at h
    rw [List.map_cons, cls_vals rr h.2]
    congr 1
    cases c with
    | ref q => exact r
    | ty n => exact r
    | _ => exact absurd h.1 (by simp [isC])
theorem isinst_tup {pins : List (Addr × Obj)} {σ : St} {H : Hp} {s : Shared} {A : Around} {E : Value → Shared → Prop} {Q : Value → Shared → Prop} {b : Bool} {x : V} {u : Value} {C q : Addr} {its : List Value} (I : Inv X pins σ H s) (rx : RelV x u)
    (ty : TyOf X.K H x (.ref C)) (ht : IsTup s.heap q its.toArray) (e : PySem.W.kitAny X.K (.ref C) its = some b) (h : ∀ tk, Q (.bool b) { s with toks := tk }) : wpAny (model X.prog X.w) A (call (.builtin "isinstance") [u, .ref q]) Q E s := by
  obtain ⟨⟨oc, od, oda, osl⟩, h1, h2, n, h3⟩ := ht
  cases h2
  cases h3
  generalize hC : Value.ref C = t at ty e
  cases ty with
  | @ins a C' dx fs ea cl ha hn htk hm =>
    cases rx
    obtain ⟨mA, O, _⟩ := ins_get I.hok ea
    obtain ⟨od', J, _⟩ := O.look
    exact PySem.W.kia_tup (PySem.W.kitx_own (cl.get _) cl.hd ha hn htk hm) I.kIn J h1 e (fun z => nomatch z) h
  | _ => cases hC
theorem call_isi3 : CallR X (.builtin "isinstance") (rIsi3 X.K) := by
  intro pins s σ H xs us Q I r h
  match xs, h with
  | [x, .ref q], .inl ⟨t, b, h1, h2, hq⟩ =>
    obtain ⟨u, w', rfl, ru, rw'⟩ := vals2 r
    cases rw'
    exact isinst_ok I ru h1 h2 fun tk => ⟨.bl b, H, I.tok _, rfl, hq⟩
  | [x, .ref q], .inr ⟨cs, C, b, h0, h1, h2, h3, hq⟩ =>
    obtain ⟨u, w', rfl, ru, rw'⟩ := vals2 r
    cases rw'
    obtain ⟨z, its, rv, ht⟩ := I.hok q _ h0
    rw [← cls_vals rv h1] at h3
    exact isinst_tup I ru h2 ht h3 fun tk => ⟨.bl b, H, I.tok _, rfl, hq⟩
  | [x, .ty n], ⟨t, b, h1, h2, hq⟩ =>
    obtain ⟨u, w', rfl, ru, rw'⟩ := vals2 r
    cases rw'
    exact isinst_ok I ru h1 h2 fun tk => ⟨.bl b, H, I.tok _, rfl, hq⟩
theorem k_isinstance3 {K : PySem.W.Frag} (hK : X.K = K := by rfl) (hg : Gl X "isinstance") (hm : X.mg "isinstance" = none) (ha : PA X (e :: es) t) (he : starEach (e :: es) X.env = (false, eval e X.env) :: starEach es X.env := by rfl)
    (hpl : (backTo pos (starEach es X.env)).any (·.1) = false := by rfl) : PE X (.Call (.Name "isinstance" p) (e :: es) [] pos) (tCB (rIsi3 K) t) := by
  subst hK
  exact pe_callB call_isi3 hg hm bb_isinstance ha (by decide) (by decide) he hpl
end
end L2
end
section
set_option maxRecDepth 100000
set_option maxHeartbeats 4000000
set_option linter.all false
namespace L2
open PySem PySem.Spec PyProof.Rows
section
variable {X : Cx} {a b : Expr} {t : TA} {p pos : Pos}
def iRg2 (ta : TA) : TI := fun σ H R => ta σ H fun vs H1 => match vs with
  | [.int i, .int j] => (-(2 ^ 62) ≤ i ∧ i < 2 ^ 62 ∧ -(2 ^ 62) ≤ j ∧ j < 2 ^ 62) ∧ R (Itr i (j - i).toNat) H1
  | _ => False
theorem iRg2_eq (ta : TA) : ∀ σ H R, iRg2 ta σ H R = iRng2 ta σ H R := by
  intro σ H R
  unfold iRg2 iRng2
  congr 1
  funext vs H1
  refine propext ⟨fun q => ?_, fun ⟨i, j, e, h1, q⟩ => by subst e; exact ⟨h1, q⟩⟩
  match vs, q with
  | [.int i, .int j], ⟨h1, q⟩ => exact ⟨i, j, rfl, h1, q⟩
theorem i_range2 {tg : Expr} (hg : Gl X "range") (hm : X.mg "range" = none) (ha : PA X [a, b] t) (hs : starEach [a, b] X.env = [(false, eval a X.env), (false, eval b X.env)] := by rfl) (hs2 : starEach [b] X.env = [(false, eval b X.env)] := by rfl) :
    PI X tg (.Call (.Name "range" p) [a, b] [] pos) (iRg2 t) := by
  intro pins s σ H R I h
  rw [iRg2_eq] at h
  exact pi_range2 hg hm ha hs hs2 pins s σ H R I h
end
end L2
end
section
set_option linter.all false
namespace TX
def splitC (c : Nat) : List Nat → List (List Nat)
  | [] => [[]]
  | x :: xs => if x = c then [] :: splitC c xs else match splitC c xs with
    | [] => [[x]]
    | h :: t => (x :: h) :: t
def joinC (sep : List Nat) : List (List Nat) → List Nat
  | [] => []
  | [a] => a
  | a :: b :: r => a ++ sep ++ joinC sep (b :: r)
theorem splitC_ne (c : Nat) (l : List Nat) : splitC c l ≠ [] := by
  cases l with
  | nil => simp [splitC]
  | cons x xs =>
    unfold splitC
    split
    · simp
    · split <;> simp
theorem splitC_no {c : Nat} : ∀ {l : List Nat}, c ∉ l → splitC c l = [l]
  | [], _ => rfl
  | x :: xs, h => by
    have hx : x ≠ c := fun e => h (by simp [e])
    have ih := splitC_no (c := c) (l := xs) fun e => h (by simp [e])
    unfold splitC
    rw [if_neg hx, ih]
theorem splitC_cons (c x : Nat) (xs : List Nat) : splitC c (x :: xs) = if x = c then [] :: splitC c xs else match splitC c xs with
    | [] => [[x]]
    | h :: t => (x :: h) :: t := rfl
theorem splitC_app {c : Nat} : ∀ (l r : List Nat), splitC c (l ++ c :: r) = splitC c l ++ splitC c r
  | [], r => by
    show splitC c (c :: r) = [[]] ++ splitC c r
    rw [splitC_cons, if_pos rfl]; rfl
  | x :: xs, r => by
    have ih := splitC_app (c := c) xs r
    show splitC c (x :: (xs ++ c :: r)) = _
    rw [splitC_cons, splitC_cons]
    by_cases hx : x = c
    · rw [if_pos hx, if_pos hx, ih]; rfl
    · rw [if_neg hx, if_neg hx, ih]
      cases h : splitC c xs with
      | nil => exact absurd h (splitC_ne c xs)
      | cons a b => rfl
theorem splitC_join {c : Nat} : ∀ {ws : List (List Nat)}, ws ≠ [] → (∀ w ∈ ws, c ∉ w) → splitC c (joinC [c] ws) = ws
  | [], h, _ => absurd rfl h
  | [a], _, h => splitC_no (h a (by simp))
  | a :: b :: r, _, h => by
    have ih := splitC_join (c := c) (ws := b :: r) (by simp) fun w hw => h w (by simp [hw])
    show splitC c (a ++ [c] ++ joinC [c] (b :: r)) = _
    rw [List.append_assoc, List.singleton_append, splitC_app, ih, splitC_no (h a (by simp))]
    rfl
def wordsC (l : List Nat) : List (List Nat) := (splitC 32 l).filter fun w => w ≠ []
theorem wordsC_app (l r : List Nat) : wordsC (l ++ 32 :: r) = wordsC l ++ wordsC r := by
  unfold wordsC
  rw [splitC_app, List.filter_append]
theorem wordsC_nil : wordsC [] = [] := by decide
theorem wordsC_one {w : List Nat} (h : w ≠ []) (h2 : 32 ∉ w) : wordsC w = [w] := by
  unfold wordsC
  rw [splitC_no h2]
  simp [h]
theorem wordsC_lead : ∀ (n : Nat) (l : List Nat), wordsC (List.replicate n 32 ++ l) = wordsC l
  | 0, l => rfl
  | n + 1, l => by
    have e : List.replicate (n + 1) 32 ++ l = [] ++ 32 :: (List.replicate n 32 ++ l) := by simp [List.replicate_succ]
    rw [e, wordsC_app, wordsC_nil, wordsC_lead n l]
    rfl
theorem wordsC_blank (n : Nat) : wordsC (List.replicate n 32) = [] := by
  have := wordsC_lead n []
  rw [List.append_nil] at this
  rw [this, wordsC_nil]
theorem wordsC_tail (n : Nat) (l : List Nat) : wordsC (l ++ List.replicate n 32) = wordsC l := by
  cases n with
  | zero => simp
  | succ n => rw [List.replicate_succ, wordsC_app, wordsC_blank, List.append_nil]
theorem wordsC_join (g : Nat) : ∀ {ws : List (List Nat)}, (∀ w ∈ ws, w ≠ [] ∧ 32 ∉ w) → wordsC (joinC (List.replicate (g + 1) 32) ws) = ws
  | [], _ => wordsC_nil
  | [a], h => wordsC_one (h a (by simp)).1 (h a (by simp)).2
  | a :: b :: r, h => by
    have ih := wordsC_join g (ws := b :: r) fun w hw => h w (by simp [hw])
    show wordsC (a ++ List.replicate (g + 1) 32 ++ joinC (List.replicate (g + 1) 32) (b :: r)) = _
    rw [List.append_assoc]
    have e : List.replicate (g + 1) 32 ++ joinC (List.replicate (g + 1) 32) (b :: r) = 32 :: (List.replicate g 32 ++ joinC (List.replicate (g + 1) 32) (b :: r)) := by
      rw [List.replicate_succ]; rfl
    rw [e, wordsC_app, wordsC_lead, ih, wordsC_one (h a (by simp)).1 (h a (by simp)).2]
    rfl
theorem wordsC_all (a g b : Nat) {ws : List (List Nat)} (h : ∀ w ∈ ws, w ≠ [] ∧ 32 ∉ w) : wordsC (List.replicate a 32 ++ joinC (List.replicate (g + 1) 32) ws ++ List.replicate b 32) = ws := by
  rw [wordsC_tail, wordsC_lead, wordsC_join g h]
theorem joinC_mem {sep : List Nat} {c : Nat} : ∀ {ws : List (List Nat)}, c ∈ joinC sep ws → c ∈ sep ∨ ∃ w ∈ ws, c ∈ w
  | [], h => by cases h
  | [a], h => .inr ⟨a, by simp, h⟩
  | a :: b :: r, h => by
    have h : c ∈ a ++ sep ++ joinC sep (b :: r) := h
    rcases List.mem_append.mp h with h | h
    · rcases List.mem_append.mp h with h | h
      · exact .inr ⟨a, by simp, h⟩
      · exact .inl h
    · rcases joinC_mem h with h | ⟨w, hw, h⟩
      · exact .inl h
      · exact .inr ⟨w, by simp [hw], h⟩
theorem joinC_len {sep : List Nat} : ∀ {ws : List (List Nat)}, (joinC sep ws).length ≤ (ws.map List.length).sum + ws.length * sep.length
  | [] => by simp [joinC]
  | [a] => by simp [joinC]
  | a :: b :: r => by
    have ih := joinC_len (sep := sep) (ws := b :: r)
    show (a ++ sep ++ joinC sep (b :: r)).length ≤ _
    rw [List.length_append, List.length_append, List.map_cons, List.sum_cons, List.length_cons (a := a), Nat.succ_mul]
    omega
end TX
end
section
set_option linter.all false
namespace TX
section
variable {α : Type} [DecidableEq α]
def lf (done : List α) (l : List (α × α)) (n : α) : Nat := l.countP fun d => decide (d.2 = n ∧ d.1 ∉ done)
theorem lf_nil (done : List α) (n : α) : lf done ([] : List (α × α)) n = 0 := rfl
theorem lf_app (done : List α) (l r : List (α × α)) (n : α) : lf done (l ++ r) n = lf done l n + lf done r n := List.countP_append
theorem lf_cons (done : List α) (d : α × α) (r : List (α × α)) (n : α) : lf done (d :: r) n = lf done r n + if d.2 = n ∧ d.1 ∉ done then 1 else 0 := by
  unfold lf
  rw [List.countP_cons]
  simp only [decide_eq_true_eq]
theorem lf_one (done : List α) (d : α × α) (n : α) : lf done [d] n = if d.2 = n ∧ d.1 ∉ done then 1 else 0 := by
  rw [lf_cons, lf_nil, Nat.zero_add]
theorem lf_zero {done : List α} {l : List (α × α)} {n : α} : lf done l n = 0 ↔ ∀ d ∈ l, d.2 = n → d.1 ∈ done := by
  unfold lf
  rw [List.countP_eq_zero]
  constructor
  · intro h d hd e
    have := h d hd
    simp only [decide_eq_true_eq, not_and, Decidable.not_not] at this
    exact this e
  · intro h d hd
    simp only [decide_eq_true_eq, not_and, Decidable.not_not]
    exact h d hd
def Topo (direct : List (α × α)) (order : List α) : Prop := ∀ (j : Nat) e, order[j]? = some e → ∀ d ∈ direct, d.2 = e → d.1 ∈ order.take j
structure KO (names : List α) (direct : List (α × α)) (order : List α) (passed : Nat) : Prop where
  nd : order.Nodup
  sub : ∀ x ∈ order, x ∈ names
  le : passed ≤ order.length
  iff : ∀ n ∈ names, n ∈ order ↔ lf (order.take passed) direct n = 0
  topo : Topo direct order
def WF (pre post : List (α × α)) (done : List α) (cur n : α) : Nat := lf (done ++ [cur]) pre n + lf done post n
structure KI (names : List α) (direct pre post : List (α × α)) (done : List α) (cur : α) (order : List α) : Prop where
  all : direct = pre ++ post
  nd : order.Nodup
  sub : ∀ x ∈ order, x ∈ names
  tk : ∃ r, order = done ++ cur :: r
  iff : ∀ n ∈ names, n ∈ order ↔ WF pre post done cur n = 0
  topo : Topo direct order
theorem cur_not {names : List α} {direct pre post : List (α × α)} {done order : List α} {cur : α} (h : KI names direct pre post done cur order) : cur ∉ done := by
  obtain ⟨r, e⟩ := h.tk
  have nd := h.nd
  rw [e, List.nodup_append] at nd
  intro hc
  exact nd.2.2 cur hc cur (by simp) rfl
theorem ki_start {names : List α} {direct : List (α × α)} {order : List α} {passed : Nat} {cur : α} (h : KO names direct order passed) (hc : order[passed]? = some cur) : KI names direct [] direct (order.take passed) cur order where
  all := rfl
  nd := h.nd
  sub := h.sub
  tk := by
    obtain ⟨hl, e⟩ := List.getElem?_eq_some_iff.mp hc
    refine ⟨order.drop (passed + 1), ?_⟩
    rw [← e, List.getElem_cons_drop, List.take_append_drop]
  iff := fun n hn => by
    unfold WF
    rw [lf_nil, Nat.zero_add]
    exact h.iff n hn
  topo := h.topo
theorem wf_skip {pre post : List (α × α)} {done : List α} {cur : α} {d : α × α} (hd : d.1 ≠ cur) (n : α) : WF (pre ++ [d]) post done cur n = WF pre (d :: post) done cur n := by
  unfold WF
  rw [lf_app, lf_one, lf_cons]
  have e : (d.2 = n ∧ d.1 ∉ done ++ [cur]) ↔ (d.2 = n ∧ d.1 ∉ done) := by simp [hd]
  simp only [e]
  omega
theorem wf_step {pre post : List (α × α)} {done : List α} {cur : α} {d : α × α} (hd : d.1 = cur) (hn : cur ∉ done) (n : α) : WF pre (d :: post) done cur n = WF (pre ++ [d]) post done cur n + if d.2 = n then 1 else 0 := by
  unfold WF
  rw [lf_app, lf_one, lf_cons]
  subst hd
  have e : ¬ (d.2 = n ∧ d.1 ∉ done ++ [d.1]) := by simp
  rw [if_neg e]
  have e2 : (d.2 = n ∧ d.1 ∉ done) ↔ d.2 = n := by simp [hn]
  simp only [e2]
  omega
theorem ki_skip {names : List α} {direct pre post : List (α × α)} {done order : List α} {cur : α} {d : α × α} (h : KI names direct pre (d :: post) done cur order) (hd : d.1 ≠ cur) : KI names direct (pre ++ [d]) post done cur order where
  all := by rw [h.all]; simp
  nd := h.nd
  sub := h.sub
  tk := h.tk
  iff := fun n hn => by rw [wf_skip hd]; exact h.iff n hn
  topo := h.topo
theorem ki_stay {names : List α} {direct pre post : List (α × α)} {done order : List α} {cur : α} {d : α × α} (h : KI names direct pre (d :: post) done cur order) (hd : d.1 = cur) (h0 : WF (pre ++ [d]) post done cur d.2 ≠ 0) : KI names direct (pre ++ [d]) post done cur order where
  all := by rw [h.all]; simp
  nd := h.nd
  sub := h.sub
  tk := h.tk
  iff := fun n hn => by
    have s := wf_step (pre := pre) (post := post) hd (cur_not h) n
    rw [h.iff n hn, s]
    by_cases e : d.2 = n
    · subst e
      rw [if_pos rfl]
      omega
    · rw [if_neg e, Nat.add_zero]
  topo := h.topo
theorem ki_put {names : List α} {direct pre post : List (α × α)} {done order : List α} {cur : α} {d : α × α} (h : KI names direct pre (d :: post) done cur order) (hd : d.1 = cur) (hm : d.2 ∈ names) (h0 : WF (pre ++ [d]) post done cur d.2 = 0) : KI names direct (pre ++ [d]) post done cur (order ++ [d.2]) := by
  have nin : d.2 ∉ order := by
    rw [h.iff d.2 hm, wf_step hd (cur_not h) d.2, if_pos rfl]
    omega
  refine ⟨by rw [h.all]; simp, ?_, ?_, ?_, ?_, ?_⟩
  · rw [List.nodup_append]
    refine ⟨h.nd, by simp, fun a ha b hb e => ?_⟩
    rw [List.mem_singleton.mp hb] at e
    exact nin (e ▸ ha)
  · intro x hx
    rcases List.mem_append.mp hx with hx | hx
    · exact h.sub x hx
    · rw [List.mem_singleton.mp hx]; exact hm
  · obtain ⟨r, e⟩ := h.tk
    exact ⟨r ++ [d.2], by rw [e]; simp⟩
  · intro n hn
    have s := wf_step (pre := pre) (post := post) hd (cur_not h) n
    rw [List.mem_append, h.iff n hn, s, List.mem_singleton]
    by_cases e : d.2 = n
    · subst e
      rw [h0, if_pos rfl]
      simp
    · rw [if_neg e, Nat.add_zero]
      constructor
      · rintro (z | z)
        · exact z
        · exact absurd z.symm e
      · exact .inl
  · intro j e he g hg eg
    rcases Nat.lt_or_ge j order.length with hj | hj
    · rw [List.getElem?_append_left hj] at he
      rw [List.take_append_of_le_length (Nat.le_of_lt hj)]
      exact h.topo j e he g hg eg
    · have hj2 : j = order.length := by
        have := (List.getElem?_eq_some_iff.mp he).1
        simp at this
        omega
      subst hj2
      rw [List.take_left' rfl]
      have ee : e = d.2 := by simpa using he.symm
      subst ee
      obtain ⟨r, eo⟩ := h.tk
      have z := h0
      unfold WF at z
      have z1 : lf (done ++ [cur]) (pre ++ [d]) d.2 = 0 := by omega
      have z2 : lf done post d.2 = 0 := by omega
      have al : direct = (pre ++ [d]) ++ post := by rw [h.all]; simp
      rw [al] at hg
      rw [eo]
      rcases List.mem_append.mp hg with hg | hg
      · have := lf_zero.mp z1 g hg eg
        rcases List.mem_append.mp this with q | q
        · exact List.mem_append.mpr (.inl q)
        · rw [List.mem_singleton.mp q]; simp
      · exact List.mem_append.mpr (.inl (lf_zero.mp z2 g hg eg))
theorem ki_end {names : List α} {direct : List (α × α)} {done order : List α} {cur : α} (h : KI names direct direct [] done cur order) : KO names direct order (done.length + 1) := by
  obtain ⟨r, e⟩ := h.tk
  have tk : order.take (done.length + 1) = done ++ [cur] := by
    rw [e]
    have : done ++ cur :: r = (done ++ [cur]) ++ r := by simp
    rw [this, List.take_left' (by simp)]
  refine ⟨h.nd, h.sub, by rw [e]; simp, fun n hn => ?_, h.topo⟩
  rw [tk, h.iff n hn]
  unfold WF
  rw [lf_nil, Nat.add_zero]
theorem ko_start {names : List α} {direct : List (α × α)} (nd : names.Nodup) : KO names direct (names.filter fun n => decide (lf [] direct n = 0)) 0 := by
  refine ⟨nd.filter _, fun x hx => (List.mem_filter.mp hx).1, Nat.zero_le _, fun n hn => ?_, ?_⟩
  · rw [List.mem_filter, List.take_zero]
    simp [hn]
  · intro j e he d hd ed
    have := List.mem_of_getElem? he
    have := (List.mem_filter.mp this).2
    have := lf_zero.mp (of_decide_eq_true this) d hd ed
    cases this
def Up (names : List α) (direct : List (α × α)) : Prop := ∀ d ∈ direct, ∃ i j : Nat, i < j ∧ names[i]? = some d.1 ∧ names[j]? = some d.2
theorem ko_all {names : List α} {direct : List (α × α)} {order : List α} (nd : names.Nodup) (up : Up names direct) (h : KO names direct order order.length) : ∀ (k : Nat) n, names[k]? = some n → n ∈ order := by
  intro k
  induction k using Nat.strongRecOn with
  | ind k ih =>
    intro n hn
    rw [h.iff n (List.mem_of_getElem? hn), List.take_length, lf_zero]
    intro d hd e
    obtain ⟨i, j, hij, hi, hj⟩ := up d hd
    have : j = k := by
      rw [e] at hj
      obtain ⟨hj1, hj2⟩ := List.getElem?_eq_some_iff.mp hj
      obtain ⟨hk1, hk2⟩ := List.getElem?_eq_some_iff.mp hn
      exact (List.getElem_inj nd).mp (hj2.trans hk2.symm)
    subst this
    exact ih i hij d.1 hi
theorem sub_len : ∀ {l m : List α}, l.Nodup → (∀ x ∈ l, x ∈ m) → l.length ≤ m.length
  | [], m, _, _ => Nat.zero_le _
  | x :: l, m, nd, h => by
    have hx : x ∈ m := h x (by simp)
    have nd' := List.nodup_cons.mp nd
    have := sub_len (l := l) (m := m.erase x) nd'.2 fun y hy => by
      have hne : y ≠ x := fun e => nd'.1 (e ▸ hy)
      exact (List.mem_erase_of_ne hne).mpr (h y (by simp [hy]))
    rw [List.length_erase_of_mem hx] at this
    have hp : 0 < m.length := List.length_pos_of_mem hx
    rw [List.length_cons]
    omega
theorem ko_len {names : List α} {direct : List (α × α)} {order : List α} (nd : names.Nodup) (up : Up names direct) (h : KO names direct order order.length) : order.length = names.length :=
  Nat.le_antisymm (sub_len h.nd h.sub) (sub_len nd fun x hx => by
    obtain ⟨k, hk, e⟩ := List.getElem_of_mem hx
    exact ko_all nd up h k x (by rw [List.getElem?_eq_getElem hk, e]))
end
end TX
end
section
set_option linter.all false
set_option maxRecDepth 100000
namespace TX
open PySem
abbrev ls (z : Str) : List Nat := z.cps.toList
def ofL (l : List Nat) : Str := ⟨l.toArray⟩
theorem ls_ofL (l : List Nat) : ls (ofL l) = l := by simp [ls, ofL]
theorem ofL_ls (z : Str) : ofL (ls z) = z := by simp [ls, ofL]
theorem str_ext {x y : Str} (h : ls x = ls y) : x = y := by rw [← ofL_ls x, h, ofL_ls]
theorem ls_app (x y : Str) : ls (x ++ y) = ls x ++ ls y := by
  show (x.cps ++ y.cps).toList = _
  rw [Array.toList_append]
theorem ls_len (z : Str) : (ls z).length = z.length := by simp [ls]; rfl
theorem ls_join (sep : Str) : ∀ ws : List Str, ls (Str.join sep ws) = joinC (ls sep) (ws.map ls)
  | [] => by simp [Str.join, joinC]; rfl
  | [a] => by simp [Str.join, joinC]
  | a :: b :: r => by
    have ih := ls_join sep (b :: r)
    show ls (a ++ sep ++ Str.join sep (b :: r)) = ls a ++ ls sep ++ joinC (ls sep) ((b :: r).map ls)
    rw [ls_app, ls_app, ih]
theorem txt_join (sep : Str) (ws : List Str) : Txt.join sep ws = ofL (joinC (ls sep) (ws.map ls)) := by
  rw [← ls_join, ofL_ls]
  exact StrLaws.glued_eq_join sep ws
theorem subAt_one {s : Str} {c i : Nat} (h : i < (ls s).length) : Builtin.Str.subAt s ⟨#[c]⟩ i = decide ((ls s)[i] = c) := by
  unfold Builtin.Str.subAt
  have hi : i < s.cps.size := by simpa [ls] using h
  have e : s.cps.extract i (i + (⟨#[c]⟩ : Str).length) = #[s.cps[i]] := by
    apply Array.ext
    · simp [Str.length]; omega
    · intro j h1 h2
      have : j = 0 := by simp at h2; omega
      subst this
      simp
  rw [e]
  simp only [ls, Array.getElem_toList]
  rw [Bool.eq_iff_iff]
  simp
theorem occ_count (s : Str) (c limit : Nat) : ∀ (m k : Nat) (st : Array Nat × Nat), k + m = s.length + 1 → st.2 ≤ k → st.1.size + m ≤ limit →
    (forIn (List.range' k m) st (StrLaws.occBody s ⟨#[c]⟩ s.length limit)).run.1.size = st.1.size + ((ls s).drop k).count c := by
  intro m
  induction m with
  | zero =>
    intro k st h1 h2 h3
    have : (ls s).drop k = [] := List.drop_eq_nil_of_le (by rw [ls_len]; omega)
    rw [this]
    rfl
  | succ m ih =>
    intro k st h1 h2 h3
    rw [List.range'_succ, List.forIn_cons]
    by_cases hk : k < s.length
    · have hk' : k < (ls s).length := by rw [ls_len]; exact hk
      have ed : (ls s).drop k = (ls s)[k] :: (ls s).drop (k + 1) := (List.getElem_cons_drop (h := hk')).symm
      by_cases hc : (ls s)[k] = c
      · have eb : StrLaws.occBody s ⟨#[c]⟩ s.length limit k st = pure (ForInStep.yield (st.1.push k, k + 1)) := by
          unfold StrLaws.occBody
          rw [if_pos]
          · rfl
          · refine ⟨⟨⟨by omega, h2⟩, by show k + 1 ≤ s.length; omega⟩, ?_⟩
            rw [subAt_one hk', hc]; simp
        rw [eb]
        have := ih (k + 1) (st.1.push k, k + 1) (by omega) (Nat.le_refl _) (by simp; omega)
        simp only [pure_bind]
        rw [this, ed, hc]
        simp
        omega
      · have eb : StrLaws.occBody s ⟨#[c]⟩ s.length limit k st = pure (ForInStep.yield (st.1, st.2)) := by
          unfold StrLaws.occBody
          rw [if_neg]
          intro h
          have := h.2
          rw [subAt_one hk'] at this
          exact hc (of_decide_eq_true this)
        rw [eb]
        have := ih (k + 1) (st.1, st.2) (by omega) (by show st.2 ≤ k + 1; omega) (by show st.1.size + m ≤ limit; omega)
        simp only [pure_bind]
        rw [this, ed, List.count_cons, if_neg (by simpa using hc)]
        rfl
    · have eb : StrLaws.occBody s ⟨#[c]⟩ s.length limit k st = pure (ForInStep.yield (st.1, st.2)) := by
        unfold StrLaws.occBody
        rw [if_neg]
        intro h
        have : k + 1 ≤ s.length := h.1.2
        omega
      rw [eb]
      have := ih (k + 1) (st.1, st.2) (by omega) (by show st.2 ≤ k + 1; omega) (by show st.1.size + m ≤ limit; omega)
      simp only [pure_bind]
      rw [this]
      have e1 : (ls s).drop k = [] := List.drop_eq_nil_of_le (by rw [ls_len]; omega)
      have e2 : (ls s).drop (k + 1) = [] := List.drop_eq_nil_of_le (by rw [ls_len]; omega)
      rw [e1, e2]
theorem occ_len (s : Str) (c : Nat) : (Builtin.Str.occurrences s ⟨#[c]⟩ 0 s.length (s.length + 1)).length = (ls s).count c := by
  rw [StrLaws.occ_eq]
  have := occ_count s c (s.length + 1) (s.length + 1) 0 (#[], 0) (by omega) (Nat.le_refl _) (by simp)
  rw [Nat.sub_zero, Array.length_toList, this]
  simp
theorem partsFrom_len (x : Str) (w : Nat) : ∀ (cuts : List Nat) (a : Nat), (StrLaws.partsFrom x w a cuts).length = cuts.length + 1
  | [], a => by rw [StrLaws.partsFrom.eq_1]; rfl
  | c :: r, a => by rw [StrLaws.partsFrom.eq_2, List.length_cons, partsFrom_len x w r, List.length_cons]
theorem joinC_count (c : Nat) : ∀ ws : List (List Nat), ws ≠ [] → (joinC [c] ws).count c + 1 = (ws.map (List.count c)).sum + ws.length
  | [], h => absurd rfl h
  | [a], _ => by simp [joinC]
  | a :: b :: r, _ => by
    have ih := joinC_count c (b :: r) (by simp)
    show (a ++ [c] ++ joinC [c] (b :: r)).count c + 1 = _
    rw [List.count_append, List.count_append, List.map_cons, List.sum_cons, List.length_cons]
    simp only [List.count_singleton_self]
    omega
theorem sum_zero {f : List Nat → Nat} : ∀ {ws : List (List Nat)}, (ws.map f).sum = 0 → ∀ w ∈ ws, f w = 0
  | a :: r, h, w, hw => by
    rw [List.map_cons, List.sum_cons] at h
    rcases List.mem_cons.mp hw with e | e
    · rw [e]; omega
    · exact sum_zero (by omega) w e
theorem kind_pos (z : Str) : 1 ≤ Builtin.Str.strKind z := by
  unfold Builtin.Str.strKind
  split
  · exact Nat.le_refl _
  · split <;> decide
theorem txt_split (z : Str) {c : Nat} (hc : c < 256) : Txt.split z ⟨#[c]⟩ = (splitC c (ls z)).map ofL := by
  have key : ∀ ws : List Str, ws ≠ [] → Str.join ⟨#[c]⟩ ws = z → ws.length = (ls z).count c + 1 → ws = (splitC c (ls z)).map ofL := by
    intro ws hne hj hl
    have e : joinC [c] (ws.map ls) = ls z := by rw [← hj, ls_join]
    have cnt := joinC_count c (ws.map ls) (by simpa using hne)
    rw [e, List.length_map] at cnt
    have z0 : ((ws.map ls).map (List.count c)).sum = 0 := by omega
    have no : ∀ w ∈ ws.map ls, c ∉ w := fun w hw => List.count_eq_zero.mp (sum_zero z0 w hw)
    have sp := splitC_join (c := c) (ws := ws.map ls) (by simpa using hne) no
    rw [e] at sp
    rw [sp, List.map_map]
    have : (ofL ∘ ls) = id := funext fun x => ofL_ls x
    rw [this, List.map_id]
  have js := StrLaws.join_split z ⟨#[c]⟩
  have hk : Builtin.Str.strKind (⟨#[c]⟩ : Str) = 1 := by
    unfold Builtin.Str.strKind
    rw [if_pos]
    simpa using hc
  refine key _ ?_ js ?_
  · unfold Txt.split
    split
    · simp
    · split
      · simp
      · rw [StrLaws.partsBetween_eq]
        intro h
        have := partsFrom_len z (⟨#[c]⟩ : Str).length (Builtin.Str.occurrences z ⟨#[c]⟩ 0 z.length (z.length + 1)) 0
        rw [h] at this
        simp at this
  · unfold Txt.split
    split
    · rename_i h
      rw [Bool.or_eq_true] at h
      have hz : z.length < 1 := by
        rcases h with h | h
        · exact of_decide_eq_true h
        · have := of_decide_eq_true h
          rw [hk] at this
          have := kind_pos z
          omega
      have : ls z = [] := List.eq_nil_of_length_eq_zero (by rw [ls_len]; omega)
      rw [this]; rfl
    · split
      · rename_i h
        have := occ_len z c
        rw [List.isEmpty_iff.mp h] at this
        rw [← this]; rfl
      · rw [StrLaws.partsBetween_eq, partsFrom_len, occ_len]
end TX
end
section
set_option linter.all false
set_option maxRecDepth 100000
namespace TX
open PySem
theorem sp_str : (" " : Str) = ⟨#[32]⟩ := by decide +kernel
theorem nl_str : ("\n" : Str) = ⟨#[10]⟩ := by decide +kernel
theorem em_str : ("" : Str) = ofL [] := by decide +kernel
theorem ls_sp : ls (" " : Str) = [32] := by rw [sp_str]
theorem ls_nl : ls ("\n" : Str) = [10] := by rw [nl_str]
theorem ls_em : ls ("" : Str) = [] := by rw [em_str, ls_ofL]
theorem ls_ne {z : Str} (h : z ≠ "") : ls z ≠ [] := fun e => h (str_ext (by rw [e, ls_em]))
def wordsT (z : Str) : List Str := (Txt.split z " ").filter fun w => !decide (w = "")
def rowsOf (z : Str) : List (List Str) := ((Txt.split z "\n").map wordsT).filter fun r => !decide (r = [])
theorem split_sp (z : Str) : Txt.split z " " = (splitC 32 (ls z)).map ofL := by rw [sp_str]; exact txt_split z (by decide)
theorem split_nl (z : Str) : Txt.split z "\n" = (splitC 10 (ls z)).map ofL := by rw [nl_str]; exact txt_split z (by decide)
theorem wordsOf_eq (z : Str) : wordsT z = (wordsC (ls z)).map ofL := by
  unfold wordsT wordsC
  rw [split_sp, List.filter_map]
  congr 1
  apply List.filter_congr
  intro w _
  show (!decide (ofL w = "")) = decide (w ≠ [])
  by_cases h : w = []
  · subst h; rw [← em_str]; simp
  · have : ¬ ofL w = "" := fun e => h (by rw [← ls_ofL w, e, ls_em])
    simp [h, this]
theorem map_ofL_ls (ws : List Str) : (ws.map ls).map ofL = ws := by
  rw [List.map_map]
  have : (ofL ∘ ls) = id := funext fun x => ofL_ls x
  rw [this, List.map_id]
theorem words_spread {x g y : Str} {a k b : Nat} {ws : List Str} (hx : ls x = List.replicate a 32) (hg : ls g = List.replicate (k + 1) 32) (hy : ls y = List.replicate b 32) (h : ∀ w ∈ ws, w ≠ "" ∧ 32 ∉ ls w) : wordsT (x ++ Txt.join g ws ++ y) = ws := by
  rw [wordsOf_eq, ls_app, ls_app, hx, hy, txt_join, ls_ofL, hg, wordsC_all, map_ofL_ls]
  intro w hw
  obtain ⟨v, hv, rfl⟩ := List.mem_map.mp hw
  exact ⟨ls_ne (h v hv).1, (h v hv).2⟩
theorem words_blank {x : Str} {a : Nat} (hx : ls x = List.replicate a 32) : wordsT x = [] := by
  rw [wordsOf_eq, hx, wordsC_blank]; rfl
theorem words_row {ws : List Str} (h : ∀ w ∈ ws, w ≠ "" ∧ 32 ∉ ls w) : wordsT (Txt.join " " ws) = ws := by
  rw [wordsOf_eq, txt_join, ls_ofL, ls_sp]
  have := wordsC_join 0 (ws := ws.map ls) fun w hw => by
    obtain ⟨v, hv, rfl⟩ := List.mem_map.mp hw
    exact ⟨ls_ne (h v hv).1, (h v hv).2⟩
  rw [show [32] = List.replicate (0 + 1) 32 from rfl, this, map_ofL_ls]
theorem split_row {ws : List Str} (hne : ws ≠ []) (h : ∀ w ∈ ws, 32 ∉ ls w) : Txt.split (Txt.join " " ws) " " = ws := by
  rw [split_sp, txt_join, ls_ofL, ls_sp, splitC_join (by simpa using hne), map_ofL_ls]
  intro w hw
  obtain ⟨v, hv, rfl⟩ := List.mem_map.mp hw
  exact h v hv
theorem split_rows {zs : List Str} (hne : zs ≠ []) (h : ∀ z ∈ zs, 10 ∉ ls z) : Txt.split (Txt.join "\n" zs) "\n" = zs := by
  rw [split_nl, txt_join, ls_ofL, ls_nl, splitC_join (by simpa using hne), map_ofL_ls]
  intro w hw
  obtain ⟨v, hv, rfl⟩ := List.mem_map.mp hw
  exact h v hv
theorem rows_join {zs : List Str} (hne : zs ≠ []) (h : ∀ z ∈ zs, 10 ∉ ls z) : rowsOf (Txt.join "\n" zs) = (zs.map wordsT).filter fun r => !decide (r = []) := by
  unfold rowsOf
  rw [split_rows hne h]
theorem join_no {c : Nat} {sep : Str} {ws : List Str} (h1 : c ∉ ls sep) (h2 : ∀ w ∈ ws, c ∉ ls w) : c ∉ ls (Txt.join sep ws) := by
  rw [txt_join, ls_ofL]
  intro h
  rcases joinC_mem h with h | ⟨w, hw, h⟩
  · exact h1 h
  · obtain ⟨v, hv, rfl⟩ := List.mem_map.mp hw
    exact h2 v hv h
theorem join_len (sep : Str) (ws : List Str) : (Txt.join sep ws).length ≤ (ws.map (·.length)).sum + ws.length * sep.length := by
  have := joinC_len (sep := ls sep) (ws := ws.map ls)
  rw [txt_join, ← ls_len, ls_ofL]
  rw [List.length_map, ls_len, List.map_map] at this
  have e : (ws.map (List.length ∘ ls)) = ws.map (·.length) := List.map_congr_left fun w _ => ls_len w
  rw [e] at this
  exact this
theorem rows_text {rows : List (List Str)} (hne : rows ≠ []) (hr : ∀ r ∈ rows, r ≠ []) (h : ∀ r ∈ rows, ∀ w ∈ r, w ≠ "" ∧ 32 ∉ ls w ∧ 10 ∉ ls w) : rowsOf (Txt.join "\n" (rows.map (Txt.join " "))) = rows := by
  rw [rows_join (by simpa using hne)]
  · rw [List.map_map]
    have e : rows.map (wordsT ∘ Txt.join " ") = rows := by
      have : rows.map (wordsT ∘ Txt.join " ") = rows.map id := List.map_congr_left fun r hr => words_row fun w hw => ⟨(h r hr w hw).1, (h r hr w hw).2.1⟩
      rw [this, List.map_id]
    rw [e, List.filter_eq_self]
    intro r hr'
    simp [hr r hr']
  · intro z hz
    obtain ⟨r, hr', rfl⟩ := List.mem_map.mp hz
    exact join_no (by rw [ls_sp]; decide) fun w hw => (h r hr' w hw).2.2
end TX
end
section
set_option linter.all false
set_option maxRecDepth 100000
namespace TX
theorem filter_none {γ : Type} {p : γ → Bool} {l : List γ} (h : ∀ x ∈ l, p x = false) : l.filter p = [] := by
  rw [List.filter_eq_nil_iff]
  intro x hx
  rw [h x hx]
  decide
theorem filter_all {γ : Type} {p : γ → Bool} {l : List γ} (h : ∀ x ∈ l, p x = true) : l.filter p = l := List.filter_eq_self.mpr h
theorem flat_pick {α β γ κ : Type} [DecidableEq κ] (k : α → κ) (f : α → List β) (g : α → β → γ) (key : γ → κ) (hk : ∀ q x, key (g q x) = k q) : ∀ (qs : List α), (qs.map k).Nodup → ∀ q ∈ qs,
    (qs.flatMap fun q => (f q).map (g q)).filter (fun l => decide (key l = k q)) = (f q).map (g q)
  | [], _, q, hq => by cases hq
  | a :: r, nd, q, hq => by
    rw [List.map_cons, List.nodup_cons] at nd
    rw [List.flatMap_cons, List.filter_append]
    rcases List.mem_cons.mp hq with e | e
    · subst e
      rw [filter_all, filter_none, List.append_nil]
      · intro x hx
        obtain ⟨b, hb, hx⟩ := List.mem_flatMap.mp hx
        obtain ⟨y, hy, rfl⟩ := List.mem_map.mp hx
        rw [hk]
        exact decide_eq_false fun z => nd.1 (List.mem_map.mpr ⟨b, hb, z⟩)
      · intro x hx
        obtain ⟨y, hy, rfl⟩ := List.mem_map.mp hx
        rw [hk]
        exact decide_eq_true rfl
    · rw [filter_none, List.nil_append, flat_pick k f g key hk r nd.2 q e]
      intro x hx
      obtain ⟨y, hy, rfl⟩ := List.mem_map.mp hx
      rw [hk]
      exact decide_eq_false fun z => nd.1 (z ▸ List.mem_map.mpr ⟨q, e, rfl⟩)
theorem flat_snoc {α γ : Type} (f : α → List γ) (l : List α) (a : α) : (l ++ [a]).flatMap f = l.flatMap f ++ f a := by
  rw [List.flatMap_append]; simp
theorem sum_le {l : List Nat} {b : Nat} (h : ∀ x ∈ l, x ≤ b) : l.sum ≤ l.length * b := by
  induction l with
  | nil => simp
  | cons a r ih =>
    have h1 := h a (by simp)
    have h2 := ih fun x hx => h x (by simp [hx])
    rw [List.sum_cons, List.length_cons, Nat.succ_mul]
    omega
theorem flat_len {α γ : Type} (f : α → List γ) {b : Nat} : ∀ (l : List α), (∀ a ∈ l, (f a).length ≤ b) → (l.flatMap f).length ≤ l.length * b
  | [], _ => by simp
  | a :: r, h => by
    have h1 := h a (by simp)
    have h2 := flat_len f r fun x hx => h x (by simp [hx])
    rw [List.flatMap_cons, List.length_append, List.length_cons, Nat.succ_mul]
    omega
end TX
end
section
set_option linter.all false
set_option maxRecDepth 100000
namespace TX
def alphaL : List Nat := [97, 98, 99, 100, 101, 102, 103, 104, 105, 106, 107, 108, 109, 110, 111, 112, 113, 114, 115, 116, 117, 118, 119, 120, 121, 122, 48, 49, 50, 51, 52, 53, 54, 55, 56, 57]
def nameL (a b d e : Nat) : List Nat := List.replicate a 113 ++ [alphaL.getD b 0, 48 + d] ++ List.replicate e 113
theorem alpha_inj : ∀ i j : Fin 36, alphaL.getD i.val 0 = alphaL.getD j.val 0 → i = j := by decide
theorem nameL_inj {a b d e b' d' : Nat} (hb : b < 36) (hb' : b' < 36) (h : nameL a b d e = nameL a b' d' e) : b = b' ∧ d = d' := by
  unfold nameL at h
  have h1 := List.append_cancel_right h
  have h2 := List.append_cancel_left h1
  have e1 : alphaL.getD b 0 = alphaL.getD b' 0 := by simpa using (List.cons.inj h2).1
  have e2 : 48 + d = 48 + d' := by have := (List.cons.inj (List.cons.inj h2).2).1; exact this
  have := alpha_inj ⟨b, hb⟩ ⟨b', hb'⟩ e1
  exact ⟨congrArg Fin.val this, by omega⟩
theorem alpha_mem : ∀ i : Fin 36, alphaL.getD i.val 0 ∈ alphaL := by decide
theorem nameL_mem {a b d e : Nat} (hb : b < 36) (hd : d < 2) : ∀ c ∈ nameL a b d e, c ∈ alphaL := by
  intro c hc
  unfold nameL at hc
  rcases List.mem_append.mp hc with hc | hc
  · rcases List.mem_append.mp hc with hc | hc
    · rw [List.eq_of_mem_replicate hc]; decide
    · rcases List.mem_cons.mp hc with rfl | hc
      · exact alpha_mem ⟨b, hb⟩
      · rw [List.mem_singleton.mp hc]
        have : d = 0 ∨ d = 1 := by omega
        rcases this with rfl | rfl <;> decide
  · rw [List.eq_of_mem_replicate hc]; decide
theorem nameL_len (a b d e : Nat) : (nameL a b d e).length = a + 2 + e := by
  unfold nameL
  simp
  omega
def nmL (k : Nat) (mark : Int) : List Nat := nameL (mark % 4).toNat (((k : Int) + mark) % 36).toNat (k / 36) (mark / 4 % 3).toNat
theorem nmL_inj {k j : Nat} {mark : Int} (h : nmL k mark = nmL j mark) : k = j := by
  unfold nmL at h
  obtain ⟨e1, e2⟩ := nameL_inj (by omega) (by omega) h
  omega
theorem nmL_mem {k : Nat} {mark : Int} (hk : k < 72) : ∀ c ∈ nmL k mark, c ∈ alphaL := nameL_mem (by omega) (by omega)
theorem nmL_len (k : Nat) (mark : Int) : 2 ≤ (nmL k mark).length ∧ (nmL k mark).length ≤ 7 := by
  unfold nmL
  rw [nameL_len]
  omega
end TX
end
section
set_option maxRecDepth 100000
set_option maxHeartbeats 4000000
set_option linter.all false
namespace L2
open PySem PySem.Spec PyProof.Rows
theorem Same.rfl' {H : Hp} : Same H H := fun _ _ h => h
def fixd : HO → Bool
  | .tup _ => true
  | .ins _ _ _ => true
  | _ => false
def Fix (H H' : Hp) : Prop := ∀ b o, H b = some o → fixd o = true → H' b = some o
theorem Fix.rfl' {H : Hp} : Fix H H := fun _ _ h _ => h
theorem Fix.trans {H H1 H2 : Hp} (a : Fix H H1) (b : Fix H1 H2) : Fix H H2 := fun c o h f => b c o (a c o h f) f
theorem Same.fix {H H' : Hp} (s : Same H H') : Fix H H' := fun b o h _ => s b o h
theorem Fix.upd {H : Hp} {p : Addr} {o o' : HO} (h : H p = some o) (f : fixd o = false) : Fix H (upd H p o') := fun b u e g => by
  have : b ≠ p := fun z => by subst z; rw [h] at e; cases e; rw [f] at g; cases g
  rw [upd_ne this]; exact e
theorem Same.upd_free {H H' : Hp} {p : Addr} {o : HO} (s : Same H H') (h : H p = none) : Same H (upd H' p o) := fun b u e => by
  rw [upd_ne (ne_of_none e h)]; exact s b u e
theorem same_new {H : Hp} {p : Addr} {o : HO} (h : H p = none) : Same H (upd H p o) := Same.upd_free Same.rfl' h
def New (H : Hp) (o : HO) (R : Addr → Hp → Prop) : Prop := ∀ p, H p = none → R p (upd H p o)
theorem alloc {H : Hp} {o : HO} {R : Addr → Hp → Prop} (h : ∀ p H', Same H H' → H p = none → H' p = some o → R p H') : New H o R :=
  fun p hp => h p _ (same_new hp) hp upd_same
theorem alloc' {H : Hp} {o : HO} {Q : V → Hp → Prop} (h : ∀ p H', Same H H' → H p = none → H' p = some o → Q (.ref p) H') : ∀ p, H p = none → Q (.ref p) (upd H p o) :=
  fun p hp => h p _ (same_new hp) hp upd_same
theorem upd_keep {H : Hp} {a b : Addr} {o o' u : HO} (ha : H a = some o) (hb : H b = some u) (hne : o ≠ u) : upd H a o' b = some u := by
  have : b ≠ a := fun z => by subst z; rw [ha] at hb; exact hne (Option.some.inj hb)
  rw [upd_ne this]; exact hb
theorem upd_at {H : Hp} {a b : Addr} {o' u : HO} (hb : H b = some u) (hne : b ≠ a) : upd H a o' b = some u := by rw [upd_ne hne]; exact hb
theorem ne_at {H : Hp} {a b : Addr} {u : HO} (hb : H b = some u) (ha : H a = none) : b ≠ a := ne_of_none hb ha
def Tups (H : Hp) (vs : List V) (rows : List (List V)) : Prop := vs.length = rows.length ∧ ∀ (i : Nat) row, rows[i]? = some row → ∃ p, vs[i]? = some (.ref p) ∧ H p = some (.tup row)
theorem Tups.fix {H H' : Hp} {vs : List V} {rows : List (List V)} (t : Tups H vs rows) (f : Fix H H') : Tups H' vs rows :=
  ⟨t.1, fun i row h => let ⟨p, e, g⟩ := t.2 i row h; ⟨p, e, f _ _ g rfl⟩⟩
theorem Tups.nil {H : Hp} : Tups H [] [] := ⟨rfl, fun i row h => by cases h⟩
theorem Tups.app {H : Hp} {vs vs' : List V} {rows rows' : List (List V)} (t : Tups H vs rows) (u : Tups H vs' rows') : Tups H (vs ++ vs') (rows ++ rows') := by
  refine ⟨by rw [List.length_append, List.length_append, t.1, u.1], fun i row h => ?_⟩
  rcases Nat.lt_or_ge i rows.length with hi | hi
  · rw [List.getElem?_append_left hi] at h
    obtain ⟨p, e, g⟩ := t.2 i row h
    exact ⟨p, by rw [List.getElem?_append_left (by rw [t.1]; exact hi)]; exact e, g⟩
  · rw [List.getElem?_append_right hi] at h
    obtain ⟨p, e, g⟩ := u.2 _ row h
    exact ⟨p, by rw [List.getElem?_append_right (by rw [t.1]; exact hi), t.1]; exact e, g⟩
theorem Tups.one {H : Hp} {p : Addr} {row : List V} (h : H p = some (.tup row)) : Tups H [.ref p] [row] := ⟨rfl, fun i r e => by
  match i, e with
  | 0, e => cases e; exact ⟨p, rfl, h⟩⟩
theorem Tups.snoc {H : Hp} {vs : List V} {rows : List (List V)} {p : Addr} {row : List V} (t : Tups H vs rows) (h : H p = some (.tup row)) : Tups H (vs ++ [.ref p]) (rows ++ [row]) := t.app (.one h)
theorem Tups.at {H : Hp} {vs : List V} {rows : List (List V)} {i : Nat} {x : V} (t : Tups H vs rows) (h : vs[i]? = some x) : ∃ p row, x = .ref p ∧ rows[i]? = some row ∧ H p = some (.tup row) := by
  have hi : i < rows.length := by rw [← t.1]; exact (List.getElem?_eq_some_iff.mp h).1
  obtain ⟨p, e, g⟩ := t.2 i _ (List.getElem?_eq_getElem hi)
  rw [h] at e
  cases e
  exact ⟨p, _, rfl, List.getElem?_eq_getElem hi, g⟩
def itR (K : PySem.W.Frag) (x : V) (H1 : Hp) (R : It → Hp → Prop) : Prop := match x with
  | .ref a => ∃ xs, (SqL K H1 a xs ∧ R (Itl K a) H1) ∨ (SqT K H1 a xs ∧ R (Itt K a) H1)
  | .str z => R (Its z) H1
  | _ => False
def ForW (g : TG) (tb : TS) (D : Ends) (σ : St) (J : It) (H1 : Hp) : Prop := ∃ W : Nat → Nat → St → Hp → Prop, (∃ m, W 0 m σ H1) ∧ ∀ i m σ H, W i m σ H →
  (J.stop i H ∧ D.nx σ H) ∨ (J.go i H ∧ ∃ N : St → Hp → Prop, (∀ σ' H', N σ' H' → ∃ m', m' < m ∧ W (i + 1) m' σ' H') ∧ ∀ x H', J.yld i H x H' → g x σ H' fun σ2 H2 => tb { D with nx := N, ct := N, bk := D.nx } σ2 H2)
def CompW (gx : GX) (tt : TT) (te : TE) (js : List Nat) (σ : St) (Q : VK) (J : It) (H1 : Hp) : Prop := ∃ W : Nat → Nat → List V → Hp → Prop, (∃ m, W 0 m [] H1) ∧ ∀ i m ys H, W i m ys H →
    (J.stop i H ∧ ys.length ≤ sizeLine ∧ ∀ p, H p = none → Q (.ref p) (upd H p (.lst ys))) ∨
    (J.go i H ∧ ys.length < sizeLine ∧ ∀ x H', J.yld i H x H' → gx x H' fun vs => tt (vs.map some ++ frv js σ) H' fun b H2 =>
      if b = true then te (vs.map some ++ frv js σ) H2 fun y H3 => ∃ m', m' < m ∧ W (i + 1) m' (ys ++ [y]) H3 else ∃ m', m' < m ∧ W (i + 1) m' ys H2)
def rg1R (vs : List V) (H1 : Hp) (R : It → Hp → Prop) : Prop := match vs with
  | [.int j] => (-(2 ^ 62) ≤ j ∧ j < 2 ^ 62) ∧ R (Itr 0 j.toNat) H1
  | _ => False
def rg2R (vs : List V) (H1 : Hp) (R : It → Hp → Prop) : Prop := match vs with
  | [.int i, .int j] => (-(2 ^ 62) ≤ i ∧ i < 2 ^ 62 ∧ -(2 ^ 62) ≤ j ∧ j < 2 ^ 62) ∧ R (Itr i (j - i).toNat) H1
  | _ => False
def enR (K : PySem.W.Frag) (vs : List V) (H1 : Hp) (R : It → Hp → Prop) : Prop := match vs with
  | [.ref a] => (∃ xs, SqL K H1 a xs) ∧ R (Ite K a) H1
  | _ => False
section
variable {K : PySem.W.Frag} {te : TE} {ta : TA} {wi : TI} {g : TG} {gx : GX} {tt : TT} {tb : TS} {D : Ends} {σ : St} {H : Hp} {Q : VK} {R : It → Hp → Prop} {js : List Nat} {a b : Addr} {xs : List V} {i j : Int} {n : Nat} {z y : Str} {v : V} {QB : Bool → Hp → Prop}
theorem e_ival : iVal K te σ H R = te σ H fun x H1 => itR K x H1 R := by
  unfold iVal itR
  rfl
theorem e_for : tFor wi g tb D σ H = wi σ H fun J H1 => ForW g tb D σ J H1 := rfl
theorem e_comp : tComp wi gx tt te js σ H Q = wi σ H fun J H1 => CompW gx tt te js σ Q J H1 := rfl
theorem e_rg1 : iRg1 ta σ H R = ta σ H fun vs H1 => rg1R vs H1 R := by
  unfold iRg1 rg1R
  rfl
theorem e_rg2 : iRg2 ta σ H R = ta σ H fun vs H1 => rg2R vs H1 R := by
  unfold iRg2 rg2R
  rfl
theorem e_en : iEnum K ta σ H R = ta σ H fun vs H1 => enR K vs H1 R := by
  unfold iEnum enR
  rfl
theorem e_rg1I : rg1R [.int j] H R = ((-(2 ^ 62) ≤ j ∧ j < 2 ^ 62) ∧ R (Itr 0 j.toNat) H) := rfl
theorem e_rg2I : rg2R [.int i, .int j] H R = ((-(2 ^ 62) ≤ i ∧ i < 2 ^ 62 ∧ -(2 ^ 62) ≤ j ∧ j < 2 ^ 62) ∧ R (Itr i (j - i).toNat) H) := rfl
theorem for_L (hq : SqL K H a xs) (Pv : Nat → St → Hp → Prop) (h0 : Pv 0 σ H) (keep : ∀ i σ H, i ≤ xs.length → Pv i σ H → SqL K H a xs)
    (hs : ∀ i x σ H, i < xs.length → xs[i]? = some x → Pv i σ H → g x σ H fun σ2 H2 => tb { D with nx := Pv (i + 1), ct := Pv (i + 1), bk := D.nx } σ2 H2)
    (hd : ∀ σ H, Pv xs.length σ H → D.nx σ H) : itR K (.ref a) H fun J H1 => ForW g tb D σ J H1 := by
  refine ⟨xs, .inl ⟨hq, ?_⟩⟩
  refine for_by (n := xs.length) Pv h0 (fun i σ H hi p => ⟨xs, xs[i], keep i σ H (Nat.le_of_lt hi) p, List.getElem?_eq_getElem hi⟩) (fun σ H p => ⟨xs, keep _ σ H (Nat.le_refl _) p, Nat.le_refl _⟩) (fun i σ H x H' hi p y => ?_) hd
  obtain ⟨rfl, y⟩ := y
  exact hs i x σ _ hi (y _ (keep i σ _ (Nat.le_of_lt hi) p)) p
theorem for_R {lo : Int} (Pv : Nat → St → Hp → Prop) (h0 : Pv 0 σ H)
    (hs : ∀ i σ H, i < n → Pv i σ H → g (.int (lo + i)) σ H fun σ2 H2 => tb { D with nx := Pv (i + 1), ct := Pv (i + 1), bk := D.nx } σ2 H2)
    (hd : ∀ σ H, Pv n σ H → D.nx σ H) : ForW g tb D σ (Itr lo n) H := by
  refine for_by (n := n) Pv h0 (fun i σ H hi p => hi) (fun σ H p => Nat.le_refl _) (fun i σ H x H' hi p y => ?_) hd
  obtain ⟨rfl, rfl⟩ := y
  exact hs i σ _ hi p
theorem for_E (hq : SqL K H a xs) (Pv : Nat → St → Hp → Prop) (h0 : Pv 0 σ H) (keep : ∀ i σ H, i ≤ xs.length → Pv i σ H → SqL K H a xs)
    (hs : ∀ i x σ H, i < xs.length → xs[i]? = some x → Pv i σ H → ∀ T, H T = none → g (.ref T) σ (upd H T (.tup [.int i, x])) fun σ2 H2 => tb { D with nx := Pv (i + 1), ct := Pv (i + 1), bk := D.nx } σ2 H2)
    (hd : ∀ σ H, Pv xs.length σ H → D.nx σ H) : enR K [.ref a] H fun J H1 => ForW g tb D σ J H1 := by
  refine ⟨⟨xs, hq⟩, ?_⟩
  refine for_by (n := xs.length) Pv h0 (fun i σ H hi p => ⟨xs, xs[i], keep i σ H (Nat.le_of_lt hi) p, List.getElem?_eq_getElem hi⟩) (fun σ H p => ⟨xs, keep _ σ H (Nat.le_refl _) p, Nat.le_refl _⟩) (fun i σ H x H' hi p y => ?_) hd
  obtain ⟨T, u, hT, rfl, hu, rfl⟩ := y
  exact hs i u σ _ hi (hu _ (keep i σ _ (Nat.le_of_lt hi) p)) p T hT
theorem comp_L (hq : SqL K H a xs) (Pv : Nat → List V → Hp → Prop) (h0 : Pv 0 [] H) (hz : xs.length ≤ sizeLine) (hl : ∀ i ys H, i ≤ xs.length → Pv i ys H → ys.length ≤ i) (keep : ∀ i ys H, i ≤ xs.length → Pv i ys H → SqL K H a xs)
    (hs : ∀ i x ys H, i < xs.length → xs[i]? = some x → Pv i ys H → gx x H fun vs => tt (vs.map some ++ frv js σ) H fun b H2 => if b = true then te (vs.map some ++ frv js σ) H2 fun y H3 => Pv (i + 1) (ys ++ [y]) H3 else Pv (i + 1) ys H2)
    (hd : ∀ ys H, Pv xs.length ys H → New H (.lst ys) fun p H' => Q (.ref p) H') : itR K (.ref a) H fun J H1 => CompW gx tt te js σ Q J H1 := by
  refine ⟨xs, .inl ⟨hq, ?_⟩⟩
  refine comp_by (n := xs.length) Pv h0 hz hl (fun i ys H hi p => ⟨xs, xs[i], keep i ys H (Nat.le_of_lt hi) p, List.getElem?_eq_getElem hi⟩) (fun ys H p => ⟨xs, keep _ ys H (Nat.le_refl _) p, Nat.le_refl _⟩) (fun i ys H x H' hi p y => ?_) hd
  obtain ⟨rfl, y⟩ := y
  exact hs i x ys _ hi (y _ (keep i ys _ (Nat.le_of_lt hi) p)) p
theorem comp_R {lo : Int} (Pv : Nat → List V → Hp → Prop) (h0 : Pv 0 [] H) (hz : n ≤ sizeLine) (hl : ∀ i ys H, i ≤ n → Pv i ys H → ys.length ≤ i)
    (hs : ∀ i ys H, i < n → Pv i ys H → gx (.int (lo + i)) H fun vs => tt (vs.map some ++ frv js σ) H fun b H2 => if b = true then te (vs.map some ++ frv js σ) H2 fun y H3 => Pv (i + 1) (ys ++ [y]) H3 else Pv (i + 1) ys H2)
    (hd : ∀ ys H, Pv n ys H → New H (.lst ys) fun p H' => Q (.ref p) H') : CompW gx tt te js σ Q (Itr lo n) H := by
  refine comp_by (n := n) Pv h0 hz hl (fun i ys H hi p => hi) (fun ys H p => Nat.le_refl _) (fun i ys H x H' hi p y => ?_) hd
  obtain ⟨rfl, rfl⟩ := y
  exact hs i ys _ hi p
theorem ex_bl {b : Bool} {p : Bool → Prop} : (∃ k, V.bl b = V.bl k ∧ p k) = p b := propext ⟨fun ⟨k, e, q⟩ => by cases e; exact q, fun q => ⟨b, rfl, q⟩⟩
theorem ex_int {a : Int} {p : Int → Prop} : (∃ k, V.int a = V.int k ∧ p k) = p a := propext ⟨fun ⟨k, e, q⟩ => by cases e; exact q, fun q => ⟨a, rfl, q⟩⟩
theorem ex_int2 {a b : Int} {p : Int → Int → Prop} : (∃ i j, V.int a = V.int i ∧ V.int b = V.int j ∧ p i j) = p a b := propext ⟨fun ⟨i, j, e, e', q⟩ => by cases e; cases e'; exact q, fun q => ⟨a, b, rfl, rfl, q⟩⟩
theorem ex_some {v : V} {p : V → Prop} : (∃ x, some (some v) = some (some x) ∧ p x) = p v := propext ⟨fun ⟨x, e, q⟩ => by cases e; exact q, fun q => ⟨v, rfl, q⟩⟩
theorem e_gTup {t : TGs} {q : St → Hp → Prop} : gTup K n t (.ref a) σ H q = ∃ xs, SqT K H a xs ∧ xs.length = n ∧ t xs σ H q := propext ⟨fun ⟨a', xs, e, h⟩ => by cases e; exact ⟨xs, h⟩, fun ⟨xs, h⟩ => ⟨a, xs, rfl, h⟩⟩
theorem e_gCons {t : TG} {u : TGs} {r : List V} {q : St → Hp → Prop} : gCons t u (v :: r) σ H q = t v σ H fun σ' H' => u r σ' H' q := propext ⟨fun ⟨v', r', e, h⟩ => by cases e; exact h, fun h => ⟨v, r, rfl, h⟩⟩
theorem e_gNil {q : St → Hp → Prop} : gNil [] σ H q = q σ H := propext ⟨fun h => h.2, fun h => ⟨rfl, h⟩⟩
theorem e_gxT {k : List V → Prop} : gxT K n (.ref a) H k = ∃ xs, SqT K H a xs ∧ xs.length = n ∧ k xs := propext ⟨fun ⟨a', xs, e, h⟩ => by cases e; exact ⟨xs, h⟩, fun ⟨xs, h⟩ => ⟨a, xs, rfl, h⟩⟩
theorem e_ix3D : rIx3 K (.ref a) (.str z) H Q = ∃ kvs v, H a = some (.dK kvs) ∧ valV kvs (.inr z) = some v ∧ Q v H := rfl
theorem e_ix3S : rIx3 K (.str z) (.int i) H Q = (z.length ≤ sizeLine ∧ ∃ c, atI z.cps.toList i = some c ∧ Q (.str ⟨#[c]⟩) H) := rfl
theorem ix_T {xs : List V} {v : V} (h : H a = some (.tup xs)) (e : atI xs i = some v) (q : Q v H) : rIx3 K (.ref a) (.int i) H Q := .inl ⟨xs, v, .inr (SqT.of h), e, q⟩
theorem ix_L {xs : List V} {v : V} (h : H a = some (.lst xs)) (e : atI xs i = some v) (q : Q v H) : rIx3 K (.ref a) (.int i) H Q := .inl ⟨xs, v, .inl (SqL.of h), e, q⟩
theorem e_set3D {q : Hp → Prop} : rSet3 (.ref a) (.str z) v H q = ∃ kvs, H a = some (.dK kvs) ∧ kvs.length < sizeLine ∧ q (upd H a (.dK (putK kvs (.inr z) v))) := rfl
theorem e_set3I {q : Hp → Prop} : rSet3 (.ref a) (.int i) v H q = ((∃ xs j, H a = some (.lst xs) ∧ ixN xs.length i = some j ∧ q (upd H a (.lst (xs.set j v)))) ∨ ∃ kvs, H a = some (.dK kvs) ∧ kvs.length < sizeLine ∧ q (upd H a (.dK (putK kvs (.inl i) v)))) := rfl
theorem e_get3D : rGet3 (.ref a) (.str z) H Q = ∃ kvs v, H a = some (.dK kvs) ∧ valV kvs (.inr z) = some v ∧ Q v H := propext ⟨fun ⟨kvs, k, v, h1, h2, h3, q⟩ => by cases h2; exact ⟨kvs, v, h1, h3, q⟩, fun ⟨kvs, v, h1, h3, q⟩ => ⟨kvs, _, v, h1, rfl, h3, q⟩⟩
theorem e_lm {r : V → List V → Hp → VK → Prop} {to : TE} {t : TA} : tLm K r to t σ H Q = to σ H fun x H1 => lmR K r t x σ H1 Q := rfl
theorem e_app : rApp (.ref a) [v] H Q = ∃ xs, H a = some (.lst xs) ∧ xs.length < sizeLine ∧ Q .non (upd H a (.lst (xs ++ [v]))) := rfl
theorem e_ext : rExt (.ref a) [.ref b] H Q = ∃ xs zs, H a = some (.lst xs) ∧ H b = some (.lst zs) ∧ xs.length + zs.length ≤ sizeLine ∧ Q .non (upd H a (.lst (xs ++ zs))) := rfl
theorem e_split : rSplit (.str z) [.str y] H Q = (((y.length == 0) = false ∧ z.length + 2 ≤ sizeLine) ∧ New H (.lst ((Txt.split z y).map V.str)) fun p H' => Q (.ref p) H') := rfl
theorem e_list : rList K [.ref a] H Q = ((∃ ys, (SqL K H a ys ∨ SqT K H a ys) ∧ New H (.lst ys) fun p H' => Q (.ref p) H') ∨ ∃ kvs, H a = some (.dK kvs) ∧ New H (.lst (kvs.map fun kv => kV kv.1)) fun p H' => Q (.ref p) H') := rfl
theorem e_sl2S {lo hi : Option Int} : rSl2 K (.str z) lo hi H Q = (z.length ≤ sizeLine ∧ Q (.str (Txt.slice z lo hi)) H) := rfl
theorem e_sl2L {lo hi : Option Int} : rSl2 K (.ref a) lo hi H Q = ∃ xs, SqL K H a xs ∧ New H (.lst (cutV xs lo hi)) fun p H' => Q (.ref p) H' := rfl
theorem e_fld {f : Str} {ta : TE} : tFld K ta f σ H Q = ta σ H fun x H1 => ∃ a C dx fs v, x = .ref a ∧ H1 a = some (.ins C dx fs) ∧ Cls K C ∧ NoAttr K C f ∧ fs.lookup f = some v ∧ Q v H1 := rfl
theorem e_isi3 {x : V} : rIsi3 K [x, .ref a] H Q = ((∃ t b, TyOf K H x t ∧ PySem.W.kitOne K t (.ref a) = some b ∧ Q (.bl b) H) ∨ ∃ cs C b, H a = some (.tup cs) ∧ cs.all isC = true ∧ TyOf K H x (.ref C) ∧ PySem.W.kitAny K (.ref C) (cs.map clsV) = some b ∧ Q (.bl b) H) := rfl
theorem e_isi3T {x : V} {m : String} : rIsi3 K [x, .ty m] H Q = ∃ t b, TyOf K H x t ∧ PySem.W.kitOne K t (.type m) = some b ∧ Q (.bl b) H := rfl
theorem e_tup : tTup ta σ H Q = ta σ H fun xs H1 => xs.length ≤ sizeLine ∧ New H1 (.tup xs) fun p H' => Q (.ref p) H' := rfl
theorem e_lst : tLst ta σ H Q = ta σ H fun xs H1 => xs.length ≤ sizeLine ∧ New H1 (.lst xs) fun p H' => Q (.ref p) H' := rfl
theorem e_dnew : tDNewK σ H Q = New H (.dK []) fun p H' => Q (.ref p) H' := rfl
theorem e_addL4 : rAdd2 (.ref a) (.ref b) H Q = ∃ xs zs, H a = some (.lst xs) ∧ H b = some (.lst zs) ∧ xs.length + zs.length ≤ sizeLine ∧ New H (.lst (xs ++ zs)) fun p H' => Q (.ref p) H' := rfl
theorem e_bmS (r : V → List V → Hp → VK → Prop) (to : TE) (t : TA) {σ : St} {H : Hp} {Q : VK} : tBmS r to t σ H Q = to σ H fun x H1 => bmS r t x σ H1 Q := rfl
theorem e_part {z y : Str} {H : Hp} {Q : VK} : rPartition (.str z) [.str y] H Q = (((y.length == 0) = false ∧ z.length ≤ sizeLine) ∧ New H (.tup [.str (Txt.partition z y).1, .str (Txt.partition z y).2.1, .str (Txt.partition z y).2.2]) fun p H' => Q (.ref p) H') := rfl
end
def mtR (MS : Addr → Sp → Prop) (m : Str) (t : TA) (x : V) (σ : St) (H1 : Hp) (Q : VK) : Prop := match x with
  | .ref q => ∃ C dx fs sp, H1 q = some (.ins C dx fs) ∧ fs.lookup m = none ∧ MS C sp ∧ t σ H1 fun vs H2 => sp (.ref q :: vs) H2 Q E0
  | _ => False
theorem e_tMt (MS : Addr → Sp → Prop) (m : Str) (ta : TE) (t : TA) {σ : St} {H : Hp} {Q : VK} : tMt MS m ta t σ H Q = ta σ H fun x H1 => mtR MS m t x σ H1 Q := rfl
section
variable {κ : Type} [DecidableEq κ]
theorem putK_app {kvs : List (κ × V)} {k : κ} {v : V} (h : valV kvs k = none) : putK kvs k v = kvs ++ [(k, v)] := by
  unfold putK
  rw [valV_any, h]
  rfl
theorem putK_keys {kvs : List (κ × V)} {k : κ} {v u : V} (h : valV kvs k = some u) : (putK kvs k v).map (·.1) = kvs.map (·.1) := by
  unfold putK
  rw [valV_any, h]
  show (kvs.map fun kv => if kv.1 = k then (kv.1, v) else kv).map (·.1) = _
  rw [List.map_map]
  apply List.map_congr_left
  intro kv _
  show (if kv.1 = k then (kv.1, v) else kv).1 = kv.1
  split <;> rfl
theorem valV_nth {kvs : List (κ × V)} : (kvs.map (·.1)).Nodup → ∀ {i : Nat} {k : κ} {v : V}, kvs[i]? = some (k, v) → valV kvs k = some v := by
  induction kvs with
  | nil => intro _ i k v h; cases h
  | cons p r ih =>
    intro nd i k v h
    rw [List.map_cons, List.nodup_cons] at nd
    cases i with
    | zero =>
      cases h
      exact valV_pos rfl
    | succ i =>
      have h : r[i]? = some (k, v) := h
      have hk : k ∈ r.map (·.1) := List.mem_map.mpr ⟨_, List.mem_of_getElem? h, rfl⟩
      rw [valV_neg fun e => nd.1 (e ▸ hk)]
      exact ih nd.2 h
end
end L2
end
section
set_option maxRecDepth 100000
set_option maxHeartbeats 4000000
set_option linter.all false
namespace L2
open PySem PySem.Spec PyProof.Rows
section
variable {X : Cx}
def rEq4 (K : PySem.W.Frag) : R2 := fun x y H Q => match x, y with
  | .ref p, .ref q => (∃ d e, DV K H (.ref p) d ∧ DV K H (.ref q) e ∧ (SeqAt.shaped d = true ∧ SeqAt.shaped e = true) ∧ Q (.bl (d.eqv e)) H) ∨ ∃ xs ys, SqL K H p xs ∧ SqL K H q ys ∧ xs.length ≠ ys.length ∧ Q (.bl false) H
  | x, y => scal x y = true ∧ Q (.bl (decide (x = y))) H
theorem eq_lens (hu : X.A.units + 64 < cLine) : OpR X (compareOp .Eq) (fun x y H Q => ∃ p q xs ys, x = .ref p ∧ y = .ref q ∧ SqL X.K H p xs ∧ SqL X.K H q ys ∧ xs.length ≠ ys.length ∧ Q (.bl false) H) := by
  intro pins s σ H x y v u Q I rx ry h
  obtain ⟨p, q, xs, ys, rfl, rfl, h1, h2, hne, hq⟩ := h
  cases rx
  cases ry
  obtain ⟨its, rv, pl, _⟩ := I.list h1
  obtain ⟨its2, rv2, pl2, _⟩ := I.list h2
  have e1 := rv.length
  have e2 := rv2.length
  exact SeqAt.RcAt.lists_lengths pl.isList pl2.isList (by simp; omega) (by omega) X.prog X.w X.xe _ ⟨.bl false, H, I, rfl, hq⟩
theorem o_eq4 {K : PySem.W.Frag} (hK : X.K = K := by rfl) (hu : X.A.units + 64 < cLine) : OpR X (compareOp .Eq) (rEq4 K) := (OpR.or (o_eq3 rfl hu) (eq_lens hu)).mono fun x y H Q h => by
  subst hK
  by_cases hr : (∃ p, x = .ref p) ∧ ∃ q, y = .ref q
  · obtain ⟨⟨p, rfl⟩, q, rfl⟩ := hr
    rcases h with h | ⟨xs, ys, h1, h2, h3, h4⟩
    · exact .inl h
    · exact .inr ⟨p, q, xs, ys, rfl, rfl, h1, h2, h3, h4⟩
  · left
    cases x <;> cases y <;> first | exact h | exact absurd ⟨⟨_, rfl⟩, _, rfl⟩ hr
variable {K : PySem.W.Frag} {H : Hp} {Q : VK} {x y : Str} {i j : Int} {a b : Addr}
theorem e_eqI4 : rEq4 K (.int i) (.int j) H Q = Q (.bl (decide (i = j))) H := by
  unfold rEq4; simp [scal]
theorem e_eqS4 : rEq4 K (.str x) (.str y) H Q = Q (.bl (decide (x = y))) H := by
  unfold rEq4; simp [scal]
theorem dvs_strs (l : List Str) : DVs K H (l.map V.str) (l.map PyData.str) := by
  induction l with
  | nil => exact .nil
  | cons a r ih => exact .cons (.str a) ih
theorem dv_strs {l : List Str} (h : H a = some (.lst (l.map V.str))) : DV K H (.ref a) (.list (l.map PyData.str)) := .lst (SqL.of h) (dvs_strs l)
end
end L2
namespace L2
theorem x0 {α : Type} {a : α} {l : List α} : (a :: l)[0]? = some a := List.getElem?_cons_zero
theorem x1 {α : Type} {a : α} {i : Nat} {l : List α} : (a :: l)[i + 1]? = l[i]? := List.getElem?_cons_succ
theorem x2 {α : Type} {x a : α} {xs : List α} : (x :: xs).set 0 a = a :: xs := List.set_cons_zero
theorem x3 {α : Type} {x a : α} {i : Nat} {xs : List α} : (x :: xs).set (i + 1) a = x :: xs.set i a := List.set_cons_succ
theorem x4 {α β : Type} {f : α → β} {a : α} {l : List α} : (a :: l).map f = f a :: l.map f := List.map_cons
theorem x5 {α β : Type} {f : α → β} : ([] : List α).map f = [] := List.map_nil
theorem x6 {α : Type} {x y : α} : (some x).getD y = x := Option.getD_some
theorem x7 {α : Type} {a : α} {as bs : List α} : a :: as ++ bs = a :: (as ++ bs) := List.cons_append
theorem x8 {α : Type} (as : List α) : [] ++ as = as := List.nil_append as
theorem x9 : (false = true) = False := Bool.false_eq_true
end L2
end
section
set_option maxRecDepth 100000
set_option maxHeartbeats 4000000
set_option linter.all false
namespace K2
open PySem L2
seal L2.PE L2.PS L2.PSs L2.PT L2.PA L2.PG L2.PI L2.PW
def top (i : Nat) : Stmt := PySem.Challenge.pw_storeway_k02_read_and_shown.main.body.getD i (.Pass ⟨0, 0, 0, 0⟩)
def figs : Str := "0123456789"
def madeOf (z g : Str) : Bool := z.cps.toList.all fun c => decide (c ∈ g.cps.toList)
def spMadeOf : Sp := fun vs H Q _ => ∃ z g : Str, vs = [.str z, .str g] ∧ z.length ≤ 1000000 ∧ ∀ H', Same H H' → Q (.bl (madeOf z g)) H'
section
variable {P : Program} {w : World} {K : PySem.W.Frag} {mg : Str → Option Value} {base : Heap}
abbrev s_made_of : Stmt := top 11
theorem sc_made_of : FnSc ["word", "signs"] ["word", "signs"] ["all"] (defScope s_made_of) := ⟨⟨rfl, rfl, rfl, by decide +kernel, rfl, by decide +kernel, by decide +kernel⟩, by decide +kernel, by decide +kernel, by decide +kernel⟩
theorem cs_made_of_0 : CompSc ["sign"] ["signs"] (scopeOf (kidE (kidS (bodyAt (top 11) 0) 0) 1)) (defScope s_made_of) := ⟨rfl, by decide +kernel, by decide +kernel, by decide +kernel, by decide +kernel, by decide +kernel, by decide +kernel⟩
theorem cn_made_of_0 : ∀ x ∈ ((["sign"] : List Str) ++ (["signs"] : List Str)), (x == ("__debug__" : Str)) = false ∧ (x == ("__classdict__" : Str)) = false := by decide +kernel
theorem ok_made_of {f : Addr} {fd : FuncData} (F : Fun K "made_of" "made_of" s_made_of f fd) (n_all : mg "all" = none) : FnOk P w K mg base CX0 1 f fd ["word", "signs"] spMadeOf := by
  refine F.ok sc_made_of.S (fun vs H Q E h => ?_) (fun cdv A outer s H vs Q E hr h => ?_)
  · obtain ⟨z, g, rfl, _⟩ := h
    rfl
  · obtain ⟨z, g, rfl, hz, k⟩ := h
    have S := sc_made_of.sx (CX := CX0) (P := P) (w := w) (K := K) (mg := mg) (base := base) (qual := "made_of") (f := f) (cd := cdv) (A := A) (outer := outer) (s := s) (H := H) (E := E)
    have Sg := fun i {x} h => sc_made_of.gx (CX := CX0) (P := P) (w := w) (K := K) (mg := mg) (base := base) (qual := "made_of") (f := f) (cd := cdv) (A := A) (outer := outer) (s := s) (H := H) (E := E) i (x := x) h
    have hU := hr.units
    have S0 : CompSc ["sign"] ["signs"] (scopeOf (kidE (kidS (bodyAt (top 11) 0) 0) 1)) (cxOf CX0 P w K mg base ["word", "signs"] "made_of" (defScope s_made_of) f cdv A outer s H E).nox.env.scope := cs_made_of_0
    have K0 := fun C s₀ H₀ ex => S0.sx (C := C) (s₀ := s₀) (H₀ := H₀) (ex := ex) rfl cn_made_of_0
    refine ⟨_, (pss_one (ps_ret (k_all rfl (Sg 0 rfl) n_all (pa_cons (pe_cp S0 (js := [1]) rfl rfl (i_val (K := K) rfl (nv S 0)) (pg1 S0) (fun C s₀ H₀ ex => pts_nil) (fun C s₀ H₀ ex => (pe_of (o_in (K := K)) (nv (K0 C s₀ H₀ ex) 0) (nv (K0 C s₀ H₀ ex) 1)))) pa_nil)))), ?_⟩
    have e : ∀ i (hi : i < z.cps.size), (z.cps.toList.take (i + 1)) = z.cps.toList.take i ++ [z.cps[i]] := fun i hi => by
      rw [List.take_add_one]; simp [hi]
    dsimp only [tRet, tCB, tCons]
    refine tComp_by (Its z) z.cps.size (fun R h => h) (fun i ys H' => H' = H ∧ ys = ((z.cps.toList.take i).map fun c => decide (c ∈ g.cps.toList)).map V.bl) ⟨rfl, rfl⟩ (Nat.le_trans hz (by decide)) (fun i ys H' hi h => ?_) (fun i ys H' hi _ => hi) (fun ys H' _ => rfl) (fun i ys H1 x H2 hi h y => ?_) (fun ys H' h p hp => ?_)
    · rw [h.2]; simp; omega
    · obtain ⟨rfl, c, hc, rfl⟩ := y
      obtain ⟨rfl, rfl⟩ := h
      refine ⟨c, rfl, ?_⟩
      refine ⟨rfl, ?_⟩
      rw [e i hi]
      have hc' : z.cps[i] = c := by simpa [hi] using hc
      simp [hc']
    · obtain ⟨rfl, rfl⟩ := h
      refine ⟨_, upd_same, ?_⟩
      have e2 : (((z.cps.toList.take z.cps.size).map fun c => decide (c ∈ g.cps.toList)).all id) = madeOf z g := by
        rw [List.take_of_length_le (by simp)]
        unfold madeOf
        rw [List.all_map]
        rfl
      rw [e2]
      exact k _ fun b o h => by rw [upd_ne (ne_of_none h hp)]; exact h
end
end K2
namespace K2
open PySem L2
def numberBy (z : Str) (most : Int) : Option Int :=
  if z = "" then none else if (Str.ofString (toString most)).length < z.length then none else if madeOf z figs = false then none else
  if z.cps.toList[0]? = some 48 ∧ z ≠ "0" then none else if (NumText.digitsVal z.cps.toList : Int) ≤ most then some (NumText.digitsVal z.cps.toList : Int) else none
def numV : Option Int → V
  | none => .non
  | some n => .int n
theorem figs_l : ∀ c ∈ figs.cps.toList, 48 ≤ c ∧ c ≤ 57 := by decide +kernel
theorem digits_of {z : Str} (h : madeOf z figs = true) : NumText.AllDigits z.cps.toList := fun c hc => by
  have := List.all_eq_true.mp h c hc
  exact figs_l c (of_decide_eq_true this)
theorem str_nil {z : Str} (h : z.cps.toList = []) : z = "" := by
  have e : z = ⟨#[]⟩ := by
    cases z with
    | mk c =>
      have h : c.toList = [] := h
      rw [Array.toList_eq_nil_iff] at h
      rw [h]
  rw [e]
  decide +kernel
theorem zero_sign {c : Nat} (h : (⟨#[c]⟩ : Str) = "0") : c = 48 := by
  have e : ("0" : Str) = ⟨#[48]⟩ := by decide +kernel
  rw [e] at h
  have h := congrArg (fun s : Str => s.cps.toList) h
  simpa using h
def spNumberBy : Sp := fun vs H Q _ => ∃ (z : Str) (n : Int), vs = [.str z, .int n] ∧ z.length ≤ 1000000 ∧ 0 ≤ n ∧ n ≤ 1000 ∧ ∀ H', Same H H' → Q (numV (numberBy z n)) H'
def spKindInit (K : PySem.W.Frag) : Sp := fun vs H Q _ => ∃ (p C dx : Addr) (told asked : V), vs = [.ref p, told, asked] ∧ H p = some (.ins C dx []) ∧ Cls K C ∧ NoAttr K C "told" ∧ NoAttr K C "asked" ∧
  Q .non (upd H p (.ins C dx (putF "asked" asked (putF "told" told []))))
def spGet (K : PySem.W.Frag) (f : Str) : Sp := fun vs H Q _ => ∃ (p C dx : Addr) (fs : List (Str × V)) (v : V), vs = [.ref p] ∧ H p = some (.ins C dx fs) ∧ Cls K C ∧ NoAttr K C f ∧ fs.lookup f = some v ∧ Q v H
section
variable {P : Program} {w : World} {K : PySem.W.Frag} {mg : Str → Option Value} {base : Heap}
abbrev s_number_by : Stmt := top 13
theorem sc_number_by : FnSc ["word", "most", "number"] ["word", "most"] ["int", "len", "str", "made_of", "FIGURES"] (defScope s_number_by) := ⟨⟨rfl, rfl, rfl, by decide +kernel, rfl, by decide +kernel, by decide +kernel⟩, by decide +kernel, by decide +kernel, by decide +kernel⟩
theorem ok_number_by {f : Addr} {fd : FuncData} (F : Fun K "number_by" "number_by" s_number_by f fd) (C_made_of : Cal P w K mg base 1 "made_of" ["word", "signs"] spMadeOf) {uF : Value} (v_FIGURES : mg "FIGURES" = some uF ∧ RelV (.str figs) uF) (n_len : mg "len" = none) (n_str : mg "str" = none) (n_int : mg "int" = none) : FnOk P w K mg base CX0 2 f fd ["word", "most"] spNumberBy := by
  refine F.ok sc_number_by.S (fun vs H Q E h => ?_) (fun cdv A outer s H vs Q E hr h => ?_)
  · obtain ⟨z, n, rfl, _⟩ := h
    rfl
  · obtain ⟨z, n, rfl, hz, h0, h1, k⟩ := h
    have S := sc_number_by.sx (CX := CX0) (P := P) (w := w) (K := K) (mg := mg) (base := base) (qual := "number_by") (f := f) (cd := cdv) (A := A) (outer := outer) (s := s) (H := H) (E := E)
    have Sg := fun i {x} h => sc_number_by.gx (CX := CX0) (P := P) (w := w) (K := K) (mg := mg) (base := base) (qual := "number_by") (f := f) (cd := cdv) (A := A) (outer := outer) (s := s) (H := H) (E := E) i (x := x) h
    have hU := hr.units
    refine ⟨_, (pss_cons (ps_if (PW.pt (pw_or (pt_of (o_eq (K := K) rfl hU) (nv S 0) pe_str) (pw_or (pt_of o_gt (k_len (K := K) rfl (Sg 1 rfl) n_len (pa_cons (nv S 0) pa_nil)) (k_len (K := K) rfl (Sg 1 rfl) n_len (pa_cons (k_str (Sg 2 rfl) n_str (pa_cons (nv S 1) pa_nil)) pa_nil))) (pw_or1 (pt_not (pt_tr (K := K) rfl (c_call C_made_of (hr.mono (by decide)) (Sg 3 rfl) (pa_cons (nv S 0) (pa_cons (g_val (Sg 4 rfl) v_FIGURES.1 v_FIGURES.2) pa_nil))))))))) (pss_one (ps_ret pe_non)) pss_nil)
      (pss_cons (ps_if (PW.pt (pw_and (pt_of (o_eq (K := K) rfl hU) (pe_ix (o_ix (K := K)) (nv S 0) pe_int (fun _ _ => rfl)) pe_str) (pw_and1 (pt_of (o_ne (K := K) rfl hU) (nv S 0) pe_str)))) (pss_one (ps_ret pe_non)) pss_nil)
      (pss_cons (ps_st S 2 (k_int (Sg 0 rfl) n_int (pa_cons (nv S 0) pa_nil)))
      (pss_one (ps_ret (pe_ifExp (pt_of o_le (nv S 2) (nv S 1)) (nv S 2) pe_non)))))), ?_⟩
    show (_ : TS) _ [some (.str z), some (.int n), none] H
    simp only [tRet, tCB, tCons, tNil, tSeq, tIfS, tAsg, gName, tV, List.getElem?_cons_zero, List.getElem?_cons_succ, List.set_cons_zero, List.set_cons_succ, tC, tOp, e_tst, e_isB, e_tru, e_truB, e_truI, e_truN, tSp, tDrop, tNext, tNot, tOr, tAnd, tIf, e_eqI, e_eqS, e_neI, e_neS, e_eqNI, e_i0, e_i2, e_addI, e_addS, e_mulI, e_ixS, e_ixL, e_lenS, e_strI, e_intS, e_min, if_true, Bool.false_eq_true, if_false]
    have hz' : z.length ≤ sizeLine := Nat.le_trans hz (by decide)
    have hlog : n.natAbs.log2 < 1920 := by
      by_cases hn : n.natAbs = 0
      · rw [hn]; decide
      · exact Nat.lt_of_lt_of_le ((Nat.log2_lt (k := 10) hn).mpr (by omega)) (by decide)
    have hlen : (Str.ofString (toString n)).length ≤ 5 := by
      rw [ofString_length]
      exact int_text_length_le10 (k := 4) (by decide) (by omega)
    refine ite2 (fun h => ?_) (fun h => ?_)
    · have e : numberBy z n = none := by unfold numberBy; rw [if_pos (of_decide_eq_true h)]
      have q := k H Same.rfl'
      rw [e] at q
      exact q
    have h := of_decide_eq_false (Bool.eq_false_iff.mpr h)
    refine ⟨hz', hlog, int_text_fits hlog, ite2 (fun g => ?_) (fun g => ?_)⟩
    · have g := of_decide_eq_true g
      have e : numberBy z n = none := by unfold numberBy; rw [if_neg h, if_pos (by omega)]
      have q := k H Same.rfl'
      rw [e] at q
      exact q
    have g := of_decide_eq_false (Bool.eq_false_iff.mpr g)
    refine ⟨z, figs, rfl, hz, fun H1 s1 => ?_⟩
    simp only [e_truB]
    cases hm : madeOf z figs with
    | false =>
      rw [show (!false) = true from rfl, if_pos rfl]
      have e : numberBy z n = none := by unfold numberBy; rw [if_neg h, if_neg (by omega), if_pos hm]
      have q := k H1 s1
      rw [e] at q
      exact q
    | true =>
      rw [show (!true) = false from rfl, if_neg Bool.false_ne_true]
      have dg := digits_of hm
      have hne : z.cps.toList ≠ [] := fun q => h (str_nil q)
      obtain ⟨c, r, hc⟩ : ∃ c r, z.cps.toList = c :: r := by
        cases q : z.cps.toList with
        | nil => exact absurd q hne
        | cons c r => exact ⟨c, r, rfl⟩
      have hl2 : z.length ≤ 4300 := by omega
      have it := intText_digits dg hne hl2
      have fin : ¬ (z.cps.toList[0]? = some 48 ∧ z ≠ "0") → ∃ n_1, (intText? z = some n_1 ∧ z.length ≤ 640) ∧ if decide (n_1 ≤ n) = true then Q (V.int n_1) H1 else Q V.non H1 := fun q => by
        refine ⟨_, ⟨it, by omega⟩, ite2 (fun g2 => ?_) (fun g2 => ?_)⟩
        · have e : numberBy z n = some (NumText.digitsVal z.cps.toList : Int) := by unfold numberBy; rw [if_neg h, if_neg (by omega), if_neg (by rw [hm]; decide), if_neg q, if_pos (of_decide_eq_true g2)]
          have q := k H1 s1
          rw [e] at q
          exact q
        · have e : numberBy z n = none := by unfold numberBy; rw [if_neg h, if_neg (by omega), if_neg (by rw [hm]; decide), if_neg q, if_neg (of_decide_eq_false (Bool.eq_false_iff.mpr g2))]
          have q := k H1 s1
          rw [e] at q
          exact q
      refine ⟨hz', c, by rw [hc]; exact atI_nat (j := 0) rfl, ite2 (fun g1 => ?_) (fun g1 => ?_)⟩
      · have g1 : c = 48 := zero_sign (of_decide_eq_true g1)
        refine ite2 (fun g2 => ?_) (fun g2 => ?_)
        · have g2 : ¬ z = "0" := by simpa using g2
          have e : numberBy z n = none := by unfold numberBy; rw [if_neg h, if_neg (by omega), if_neg (by rw [hm]; decide), if_pos ⟨by rw [hc, g1]; rfl, g2⟩]
          have q := k H1 s1
          rw [e] at q
          exact q
        · exact fin fun q => g2 (by simpa using q.2)
      · exact fin fun q => g1 (decide_eq_true (by
          rw [hc] at q
          have e : c = 48 := by simpa using q.1
          rw [e]; decide +kernel))
abbrev s_Kind_init : Stmt := inClass (top 16) 0
theorem sc_Kind_init : FnSc ["self", "told", "asked"] ["self", "told", "asked"] [] (defScope s_Kind_init) := ⟨⟨rfl, rfl, rfl, by decide +kernel, rfl, by decide +kernel, by decide +kernel⟩, by decide +kernel, by decide +kernel, by decide +kernel⟩
theorem ok_Kind_init {f : Addr} {fd : FuncData} (F : Fun K "__init__" "Kind.__init__" s_Kind_init f fd)  : FnOk P w K mg base CX0 1 f fd ["self", "told", "asked"] (spKindInit K) := by
  refine F.ok sc_Kind_init.S (fun vs H Q E h => ?_) (fun cdv A outer s H vs Q E hr h => ?_)
  · obtain ⟨p, C, dx, told, asked, rfl, _⟩ := h
    rfl
  · obtain ⟨p, C, dx, told, asked, rfl, hp, cl, nT, nA, k⟩ := h
    have S := sc_Kind_init.sx (CX := CX0) (P := P) (w := w) (K := K) (mg := mg) (base := base) (qual := "Kind.__init__") (f := f) (cd := cdv) (A := A) (outer := outer) (s := s) (H := H) (E := E)
    have hU := hr.units
    refine ⟨_, (pss_cons (ps_fd (K := K) rfl (nv S 0) (nv S 1))
      (pss_one (ps_fd (K := K) rfl (nv S 0) (nv S 2)))), ?_⟩
    show (_ : TS) _ [some (.ref p), some (told), some (asked)] H
    simp only [sFld, tRet, tCB, tCons, tNil, tSeq, tIfS, tAsg, gName, tV, List.getElem?_cons_zero, List.getElem?_cons_succ, List.set_cons_zero, List.set_cons_succ, tC, tOp, e_tst, e_isB, e_tru, e_truB, e_truI, e_truN, tSp, tDrop, tNext, tNot, tOr, tAnd, tIf, e_eqI, e_eqS, e_neI, e_neS, e_eqNI, e_i0, e_i2, e_addI, e_addS, e_mulI, e_ixS, e_ixL, e_lenS, e_strI, e_intS, e_min, if_true, Bool.false_eq_true, if_false]
    refine ⟨p, C, dx, [], rfl, hp, cl, nT, by show 0 < 1000; decide, ?_⟩
    refine ⟨p, C, dx, _, rfl, upd_same, cl, nA, by show 1 < 1000; decide, ?_⟩
    rw [upd_upd]
    exact k
abbrev s_Kind_lines : Stmt := inClass (top 16) 1
theorem sc_Kind_lines : FnSc ["self"] ["self"] [] (defScope s_Kind_lines) := ⟨⟨rfl, rfl, rfl, by decide +kernel, rfl, by decide +kernel, by decide +kernel⟩, by decide +kernel, by decide +kernel, by decide +kernel⟩
theorem ok_Kind_lines {f : Addr} {fd : FuncData} (F : Fun K "lines" "Kind.lines" s_Kind_lines f fd)  : FnOk P w K mg base CX0 1 f fd ["self"] (spGet K "asked") := by
  refine F.ok sc_Kind_lines.S (fun vs H Q E h => ?_) (fun cdv A outer s H vs Q E hr h => ?_)
  · obtain ⟨p, C, dx, fs, v, rfl, _⟩ := h
    rfl
  · obtain ⟨p, C, dx, fs, v, rfl, hp, cl, na, hv, k⟩ := h
    have S := sc_Kind_lines.sx (CX := CX0) (P := P) (w := w) (K := K) (mg := mg) (base := base) (qual := "Kind.lines") (f := f) (cd := cdv) (A := A) (outer := outer) (s := s) (H := H) (E := E)
    have hU := hr.units
    refine ⟨_, (pss_one (ps_ret (pe_fd (K := K) rfl (nv S 0)))), ?_⟩
    show (_ : TS) _ [some (.ref p)] H
    simp only [tRet, tCB, tCons, tNil, tSeq, tIfS, tAsg, gName, tV, List.getElem?_cons_zero, List.getElem?_cons_succ, List.set_cons_zero, List.set_cons_succ, tC, tOp, e_tst, e_isB, e_tru, e_truB, e_truI, e_truN, tSp, tDrop, tNext, tNot, tOr, tAnd, tIf, e_eqI, e_eqS, e_neI, e_neS, e_eqNI, e_i0, e_i2, e_addI, e_addS, e_mulI, e_ixS, e_ixL, e_lenS, e_strI, e_intS, e_min, if_true, Bool.false_eq_true, if_false]
    exact ⟨p, C, dx, fs, v, rfl, hp, cl, na, hv, k⟩
abbrev s_Kind_word : Stmt := inClass (top 16) 3
theorem sc_Kind_word : FnSc ["self"] ["self"] [] (defScope s_Kind_word) := ⟨⟨rfl, rfl, rfl, by decide +kernel, rfl, by decide +kernel, by decide +kernel⟩, by decide +kernel, by decide +kernel, by decide +kernel⟩
theorem ok_Kind_word {f : Addr} {fd : FuncData} (F : Fun K "word" "Kind.word" s_Kind_word f fd)  : FnOk P w K mg base CX0 1 f fd ["self"] (spGet K "told") := by
  refine F.ok sc_Kind_word.S (fun vs H Q E h => ?_) (fun cdv A outer s H vs Q E hr h => ?_)
  · obtain ⟨p, C, dx, fs, v, rfl, _⟩ := h
    rfl
  · obtain ⟨p, C, dx, fs, v, rfl, hp, cl, na, hv, k⟩ := h
    have S := sc_Kind_word.sx (CX := CX0) (P := P) (w := w) (K := K) (mg := mg) (base := base) (qual := "Kind.word") (f := f) (cd := cdv) (A := A) (outer := outer) (s := s) (H := H) (E := E)
    have hU := hr.units
    refine ⟨_, (pss_one (ps_ret (pe_fd (K := K) rfl (nv S 0)))), ?_⟩
    show (_ : TS) _ [some (.ref p)] H
    simp only [tRet, tCB, tCons, tNil, tSeq, tIfS, tAsg, gName, tV, List.getElem?_cons_zero, List.getElem?_cons_succ, List.set_cons_zero, List.set_cons_succ, tC, tOp, e_tst, e_isB, e_tru, e_truB, e_truI, e_truN, tSp, tDrop, tNext, tNot, tOr, tAnd, tIf, e_eqI, e_eqS, e_neI, e_neS, e_eqNI, e_i0, e_i2, e_addI, e_addS, e_mulI, e_ixS, e_ixL, e_lenS, e_strI, e_intS, e_min, if_true, Bool.false_eq_true, if_false]
    exact ⟨p, C, dx, fs, v, rfl, hp, cl, na, hv, k⟩
end
end K2
namespace K2
open PySem L2
inductive Kd where
  | src | snk | both | either | odd | plus | pick | up (n : Int) | down (n : Int)
  deriving DecidableEq
def Kd.word : Kd → Str
  | .src => "in" | .snk => "out" | .both => "and" | .either => "or" | .odd => "odd" | .plus => "plus" | .pick => "pick"
  | .up n => ("up:" : Str) ++ Str.ofString (toString n) | .down n => ("down:" : Str) ++ Str.ofString (toString n)
def Kd.asked : Kd → Int
  | .src => 0 | .snk => 1 | .both => 2 | .either => 2 | .odd => 2 | .plus => 2 | .pick => 3 | .up _ => 1 | .down _ => 1
def Kd.args : Kd → List V
  | .up n => [.int n] | .down n => [.int n] | _ => []
def flds (kd : Kd) : List (Str × V) := match kd with
  | .up n => putF "count" (.int n) (putF "asked" (.int kd.asked) (putF "told" (.str kd.word) []))
  | .down n => putF "count" (.int n) (putF "asked" (.int kd.asked) (putF "told" (.str kd.word) []))
  | _ => putF "asked" (.int kd.asked) (putF "told" (.str kd.word) [])
structure Cs where
  (src snk both either odd plus pick up down : Addr)
def Cs.of (c : Cs) : Kd → Addr
  | .src => c.src | .snk => c.snk | .both => c.both | .either => c.either | .odd => c.odd | .plus => c.plus | .pick => c.pick | .up _ => c.up | .down _ => c.down
structure ClsOk (K : PySem.W.Frag) (C : Addr) : Prop where
  cl : Cls K C
  nT : NoAttr K C "told"
  nA : NoAttr K C "asked"
  nC : NoAttr K C "count"
def KindAt (c : Cs) (H : Hp) (p : Addr) (kd : Kd) : Prop := ∃ dx, H p = some (.ins (c.of kd) dx (flds kd))
def spSub (K : PySem.W.Frag) (kd : Kd) : Sp := fun vs H Q _ => ∃ (p C dx : Addr), vs = .ref p :: kd.args ∧ H p = some (.ins C dx []) ∧ ClsOk K C ∧ Q .non (upd H p (.ins C dx (flds kd)))
def spUp (K : PySem.W.Frag) : Sp := fun vs H Q E => ∃ n, 1 ≤ n ∧ n ≤ 63 ∧ spSub K (.up n) vs H Q E
def spDown (K : PySem.W.Frag) : Sp := fun vs H Q E => ∃ n, 1 ≤ n ∧ n ≤ 63 ∧ spSub K (.down n) vs H Q E
theorem small_log {n : Int} (h : n.natAbs < 1000000) : n.natAbs.log2 < 1920 := by
  by_cases hn : n.natAbs = 0
  · rw [hn]; decide
  · exact Nat.lt_of_lt_of_le ((Nat.log2_lt (k := 20) hn).mpr (by omega)) (by decide)
theorem small_add {x : Str} {n : Int} (hx : x.length ≤ 1000) (h : n.natAbs < 1000000) : x.length + (Str.ofString (toString n)).length ≤ sizeLine := by
  have e : (Str.ofString (toString n)).length ≤ 7 := by
    rw [ofString_length]
    exact int_text_length_le10 (k := 6) (by decide) (by omega)
  exact Nat.le_trans (show _ ≤ 1007 by omega) (by decide)
def KRes (c : Cs) (H : Hp) (Q : VK) (o : Option Kd) : Prop := match o with
  | none => ∀ H', Same H H' → Q .non H'
  | some kd => ∀ p H', Same H H' → H p = none → KindAt c H' p kd → Q (.ref p) H'
theorem mk_kind {K : PySem.W.Frag} {c : Cs} {kd : Kd} {H : Hp} {Q : VK} (cok : ClsOk K (c.of kd)) (q : KRes c H Q (some kd)) :
    ∀ x dx, H x = none → H dx = none → dx ≠ x → spSub K kd (.ref x :: kd.args) (upd (upd H dx (.own x)) x (.ins (c.of kd) dx [])) (fun v H2 => v = .non ∧ Q (.ref x) H2) E0 := by
  intro x dx nx nd ne
  refine ⟨x, c.of kd, dx, rfl, upd_same, cok, rfl, ?_⟩
  refine q x _ (fun b o e => ?_) nx ⟨dx, upd_same⟩
  rw [upd_ne (ne_of_none e nx), upd_ne (ne_of_none e nx), upd_ne (ne_of_none e nd)]
  exact e
theorem KRes.mono {c : Cs} {H H1 : Hp} {Q : VK} {o : Option Kd} (k : KRes c H Q o) (s : Same H H1) : KRes c H1 Q o := by
  cases o with
  | none => exact fun H' s' => k H' (s.trans s')
  | some kd => exact fun p H' s' hp a => k p H' (s.trans s') (s.free hp) a
theorem part_len (z : Str) : (Txt.partition z ":").2.2.length ≤ z.length := by
  unfold Txt.partition
  split
  · exact le_strSub _ _ _
  · exact Nat.zero_le _
theorem numberBy_le {z : Str} {m n : Int} (h : numberBy z m = some n) : 0 ≤ n ∧ n ≤ m := by
  unfold numberBy at h
  split at h
  · cases h
  split at h
  · cases h
  split at h
  · cases h
  split at h
  · cases h
  split at h
  · rename_i g
    cases h
    exact ⟨Int.natCast_nonneg _, g⟩
  · cases h
def madeK (kd : Kd) (wd : Int) (ns : List Int) : Int :=
  let a := ns.getD 0 0; let b := ns.getD 1 0; let d := ns.getD 2 0
  match kd with
  | .src => 0 | .snk => a | .both => Builtin.bitAnd a b | .either => Builtin.bitOr a b | .odd => Builtin.bitXor a b | .plus => (a + b) % (1 * 2 ^ wd.toNat) | .pick => if a = 0 then d else b
  | .up n => (a * 2 ^ n.toNat) % (1 * 2 ^ wd.toNat) | .down n => a / 2 ^ n.toNat
def spMade (K : PySem.W.Frag) (kd : Kd) : Sp := fun vs H Q _ => ∃ (p l : Addr) (wd : Int) (ns : List Int) (C dx : Addr), vs = [.ref p, .ref l, .int wd] ∧ H p = some (.ins C dx (flds kd)) ∧ ClsOk K C ∧ SqL K H l (ns.map V.int) ∧ (ns.length : Int) = kd.asked ∧
  (∀ x ∈ ns, 0 ≤ x ∧ x < 2 ^ 64) ∧ 1 ≤ wd ∧ wd ≤ 64 ∧ Q (.int (madeK kd wd ns)) H
def spUpMade (K : PySem.W.Frag) : Sp := fun vs H Q E => ∃ n, 1 ≤ n ∧ n ≤ 63 ∧ spMade K (.up n) vs H Q E
def spDownMade (K : PySem.W.Frag) : Sp := fun vs H Q E => ∃ n, 1 ≤ n ∧ n ≤ 63 ∧ spMade K (.down n) vs H Q E
def plainKind (z : Str) : Option Kd := if z = "in" then some .src else if z = "out" then some .snk else if z = "and" then some .both else if z = "or" then some .either else if z = "odd" then some .odd else if z = "plus" then some .plus else if z = "pick" then some .pick else none
def shiftKind (z : Str) (n : Int) : Option Kd := if z = "up" then some (.up n) else if z = "down" then some (.down n) else none
def kindBy (z : Str) : Option Kd := if (Txt.partition z ":").2.1 = "" then plainKind z else match numberBy (Txt.partition z ":").2.2 63 with
  | none => none
  | some n => if n = 0 then none else shiftKind (Txt.partition z ":").1 n
def spPlain (c : Cs) : Sp := fun vs H Q _ => ∃ z : Str, vs = [.str z] ∧ KRes c H Q (plainKind z)
def spShift (c : Cs) : Sp := fun vs H Q _ => ∃ (z : Str) (n : Int), vs = [.str z, .int n] ∧ 1 ≤ n ∧ n ≤ 63 ∧ KRes c H Q (shiftKind z n)
def spKindBy (c : Cs) : Sp := fun vs H Q _ => ∃ z : Str, vs = [.str z] ∧ z.length ≤ 1000000 ∧ KRes c H Q (kindBy z)
section
variable {P : Program} {w : World} {K : PySem.W.Frag} {mg : Str → Option Value} {base : Heap} {c : Cs}
abbrev s_Source_init : Stmt := inClass (top 17) 0
theorem sc_Source_init : FnSc ["self"] ["self"] ["Kind"] (defScope s_Source_init) := ⟨⟨rfl, rfl, rfl, by decide +kernel, rfl, by decide +kernel, by decide +kernel⟩, by decide +kernel, by decide +kernel, by decide +kernel⟩
theorem ok_Source_init {f : Addr} {fd : FuncData} (F : Fun K "__init__" "Source.__init__" s_Source_init f fd) (B_Kind_init : ClsFn P w K mg base 1 "Kind" "__init__" ["self", "told", "asked"] (spKindInit K)) : FnOk P w K mg base CX0 2 f fd ["self"] (spSub K .src) := by
  refine F.ok sc_Source_init.S (fun vs H Q E h => ?_) (fun cdv A outer s H vs Q E hr h => ?_)
  · obtain ⟨p, C, dx, rfl, _⟩ := h
    rfl
  · obtain ⟨p, C, dx, rfl, hp, cok, k⟩ := h
    have S := sc_Source_init.sx (CX := CX0) (P := P) (w := w) (K := K) (mg := mg) (base := base) (qual := "Source.__init__") (f := f) (cd := cdv) (A := A) (outer := outer) (s := s) (H := H) (E := E)
    have Sg := fun i {x} h => sc_Source_init.gx (CX := CX0) (P := P) (w := w) (K := K) (mg := mg) (base := base) (qual := "Source.__init__") (f := f) (cd := cdv) (A := A) (outer := outer) (s := s) (H := H) (E := E) i (x := x) h
    have hU := hr.units
    refine ⟨_, (pss_one (ps_expr (b_call B_Kind_init (hr.mono (by decide)) (Sg 0 rfl) (pa_cons (nv S 0) (pa_cons pe_str (pa_cons pe_int pa_nil)))))), ?_⟩
    show (_ : TS) _ [some (.ref p)] H
    simp only [tRet, tCB, tCons, tNil, tSeq, tIfS, tAsg, gName, tV, List.getElem?_cons_zero, List.getElem?_cons_succ, List.set_cons_zero, List.set_cons_succ, tC, tOp, e_tst, e_isB, e_tru, e_truB, e_truI, e_truN, tSp, tDrop, tNext, tNot, tOr, tAnd, tIf, e_eqI, e_eqS, e_neI, e_neS, e_eqNI, e_i0, e_i2, e_addI, e_addS, e_mulI, e_ixS, e_ixL, e_lenS, e_strI, e_intS, e_min, if_true, Bool.false_eq_true, if_false]
    exact ⟨p, C, dx, _, _, rfl, hp, cok.cl, cok.nT, cok.nA, k⟩
abbrev s_Sink_init : Stmt := inClass (top 18) 0
theorem sc_Sink_init : FnSc ["self"] ["self"] ["Kind"] (defScope s_Sink_init) := ⟨⟨rfl, rfl, rfl, by decide +kernel, rfl, by decide +kernel, by decide +kernel⟩, by decide +kernel, by decide +kernel, by decide +kernel⟩
theorem ok_Sink_init {f : Addr} {fd : FuncData} (F : Fun K "__init__" "Sink.__init__" s_Sink_init f fd) (B_Kind_init : ClsFn P w K mg base 1 "Kind" "__init__" ["self", "told", "asked"] (spKindInit K)) : FnOk P w K mg base CX0 2 f fd ["self"] (spSub K .snk) := by
  refine F.ok sc_Sink_init.S (fun vs H Q E h => ?_) (fun cdv A outer s H vs Q E hr h => ?_)
  · obtain ⟨p, C, dx, rfl, _⟩ := h
    rfl
  · obtain ⟨p, C, dx, rfl, hp, cok, k⟩ := h
    have S := sc_Sink_init.sx (CX := CX0) (P := P) (w := w) (K := K) (mg := mg) (base := base) (qual := "Sink.__init__") (f := f) (cd := cdv) (A := A) (outer := outer) (s := s) (H := H) (E := E)
    have Sg := fun i {x} h => sc_Sink_init.gx (CX := CX0) (P := P) (w := w) (K := K) (mg := mg) (base := base) (qual := "Sink.__init__") (f := f) (cd := cdv) (A := A) (outer := outer) (s := s) (H := H) (E := E) i (x := x) h
    have hU := hr.units
    refine ⟨_, (pss_one (ps_expr (b_call B_Kind_init (hr.mono (by decide)) (Sg 0 rfl) (pa_cons (nv S 0) (pa_cons pe_str (pa_cons pe_int pa_nil)))))), ?_⟩
    show (_ : TS) _ [some (.ref p)] H
    simp only [tRet, tCB, tCons, tNil, tSeq, tIfS, tAsg, gName, tV, List.getElem?_cons_zero, List.getElem?_cons_succ, List.set_cons_zero, List.set_cons_succ, tC, tOp, e_tst, e_isB, e_tru, e_truB, e_truI, e_truN, tSp, tDrop, tNext, tNot, tOr, tAnd, tIf, e_eqI, e_eqS, e_neI, e_neS, e_eqNI, e_i0, e_i2, e_addI, e_addS, e_mulI, e_ixS, e_ixL, e_lenS, e_strI, e_intS, e_min, if_true, Bool.false_eq_true, if_false]
    exact ⟨p, C, dx, _, _, rfl, hp, cok.cl, cok.nT, cok.nA, k⟩
abbrev s_Both_init : Stmt := inClass (top 19) 0
theorem sc_Both_init : FnSc ["self"] ["self"] ["Kind"] (defScope s_Both_init) := ⟨⟨rfl, rfl, rfl, by decide +kernel, rfl, by decide +kernel, by decide +kernel⟩, by decide +kernel, by decide +kernel, by decide +kernel⟩
theorem ok_Both_init {f : Addr} {fd : FuncData} (F : Fun K "__init__" "Both.__init__" s_Both_init f fd) (B_Kind_init : ClsFn P w K mg base 1 "Kind" "__init__" ["self", "told", "asked"] (spKindInit K)) : FnOk P w K mg base CX0 2 f fd ["self"] (spSub K .both) := by
  refine F.ok sc_Both_init.S (fun vs H Q E h => ?_) (fun cdv A outer s H vs Q E hr h => ?_)
  · obtain ⟨p, C, dx, rfl, _⟩ := h
    rfl
  · obtain ⟨p, C, dx, rfl, hp, cok, k⟩ := h
    have S := sc_Both_init.sx (CX := CX0) (P := P) (w := w) (K := K) (mg := mg) (base := base) (qual := "Both.__init__") (f := f) (cd := cdv) (A := A) (outer := outer) (s := s) (H := H) (E := E)
    have Sg := fun i {x} h => sc_Both_init.gx (CX := CX0) (P := P) (w := w) (K := K) (mg := mg) (base := base) (qual := "Both.__init__") (f := f) (cd := cdv) (A := A) (outer := outer) (s := s) (H := H) (E := E) i (x := x) h
    have hU := hr.units
    refine ⟨_, (pss_one (ps_expr (b_call B_Kind_init (hr.mono (by decide)) (Sg 0 rfl) (pa_cons (nv S 0) (pa_cons pe_str (pa_cons pe_int pa_nil)))))), ?_⟩
    show (_ : TS) _ [some (.ref p)] H
    simp only [tRet, tCB, tCons, tNil, tSeq, tIfS, tAsg, gName, tV, List.getElem?_cons_zero, List.getElem?_cons_succ, List.set_cons_zero, List.set_cons_succ, tC, tOp, e_tst, e_isB, e_tru, e_truB, e_truI, e_truN, tSp, tDrop, tNext, tNot, tOr, tAnd, tIf, e_eqI, e_eqS, e_neI, e_neS, e_eqNI, e_i0, e_i2, e_addI, e_addS, e_mulI, e_ixS, e_ixL, e_lenS, e_strI, e_intS, e_min, if_true, Bool.false_eq_true, if_false]
    exact ⟨p, C, dx, _, _, rfl, hp, cok.cl, cok.nT, cok.nA, k⟩
abbrev s_Either_init : Stmt := inClass (top 20) 0
theorem sc_Either_init : FnSc ["self"] ["self"] ["Kind"] (defScope s_Either_init) := ⟨⟨rfl, rfl, rfl, by decide +kernel, rfl, by decide +kernel, by decide +kernel⟩, by decide +kernel, by decide +kernel, by decide +kernel⟩
theorem ok_Either_init {f : Addr} {fd : FuncData} (F : Fun K "__init__" "Either.__init__" s_Either_init f fd) (B_Kind_init : ClsFn P w K mg base 1 "Kind" "__init__" ["self", "told", "asked"] (spKindInit K)) : FnOk P w K mg base CX0 2 f fd ["self"] (spSub K .either) := by
  refine F.ok sc_Either_init.S (fun vs H Q E h => ?_) (fun cdv A outer s H vs Q E hr h => ?_)
  · obtain ⟨p, C, dx, rfl, _⟩ := h
    rfl
  · obtain ⟨p, C, dx, rfl, hp, cok, k⟩ := h
    have S := sc_Either_init.sx (CX := CX0) (P := P) (w := w) (K := K) (mg := mg) (base := base) (qual := "Either.__init__") (f := f) (cd := cdv) (A := A) (outer := outer) (s := s) (H := H) (E := E)
    have Sg := fun i {x} h => sc_Either_init.gx (CX := CX0) (P := P) (w := w) (K := K) (mg := mg) (base := base) (qual := "Either.__init__") (f := f) (cd := cdv) (A := A) (outer := outer) (s := s) (H := H) (E := E) i (x := x) h
    have hU := hr.units
    refine ⟨_, (pss_one (ps_expr (b_call B_Kind_init (hr.mono (by decide)) (Sg 0 rfl) (pa_cons (nv S 0) (pa_cons pe_str (pa_cons pe_int pa_nil)))))), ?_⟩
    show (_ : TS) _ [some (.ref p)] H
    simp only [tRet, tCB, tCons, tNil, tSeq, tIfS, tAsg, gName, tV, List.getElem?_cons_zero, List.getElem?_cons_succ, List.set_cons_zero, List.set_cons_succ, tC, tOp, e_tst, e_isB, e_tru, e_truB, e_truI, e_truN, tSp, tDrop, tNext, tNot, tOr, tAnd, tIf, e_eqI, e_eqS, e_neI, e_neS, e_eqNI, e_i0, e_i2, e_addI, e_addS, e_mulI, e_ixS, e_ixL, e_lenS, e_strI, e_intS, e_min, if_true, Bool.false_eq_true, if_false]
    exact ⟨p, C, dx, _, _, rfl, hp, cok.cl, cok.nT, cok.nA, k⟩
abbrev s_Odd_init : Stmt := inClass (top 21) 0
theorem sc_Odd_init : FnSc ["self"] ["self"] ["Kind"] (defScope s_Odd_init) := ⟨⟨rfl, rfl, rfl, by decide +kernel, rfl, by decide +kernel, by decide +kernel⟩, by decide +kernel, by decide +kernel, by decide +kernel⟩
theorem ok_Odd_init {f : Addr} {fd : FuncData} (F : Fun K "__init__" "Odd.__init__" s_Odd_init f fd) (B_Kind_init : ClsFn P w K mg base 1 "Kind" "__init__" ["self", "told", "asked"] (spKindInit K)) : FnOk P w K mg base CX0 2 f fd ["self"] (spSub K .odd) := by
  refine F.ok sc_Odd_init.S (fun vs H Q E h => ?_) (fun cdv A outer s H vs Q E hr h => ?_)
  · obtain ⟨p, C, dx, rfl, _⟩ := h
    rfl
  · obtain ⟨p, C, dx, rfl, hp, cok, k⟩ := h
    have S := sc_Odd_init.sx (CX := CX0) (P := P) (w := w) (K := K) (mg := mg) (base := base) (qual := "Odd.__init__") (f := f) (cd := cdv) (A := A) (outer := outer) (s := s) (H := H) (E := E)
    have Sg := fun i {x} h => sc_Odd_init.gx (CX := CX0) (P := P) (w := w) (K := K) (mg := mg) (base := base) (qual := "Odd.__init__") (f := f) (cd := cdv) (A := A) (outer := outer) (s := s) (H := H) (E := E) i (x := x) h
    have hU := hr.units
    refine ⟨_, (pss_one (ps_expr (b_call B_Kind_init (hr.mono (by decide)) (Sg 0 rfl) (pa_cons (nv S 0) (pa_cons pe_str (pa_cons pe_int pa_nil)))))), ?_⟩
    show (_ : TS) _ [some (.ref p)] H
    simp only [tRet, tCB, tCons, tNil, tSeq, tIfS, tAsg, gName, tV, List.getElem?_cons_zero, List.getElem?_cons_succ, List.set_cons_zero, List.set_cons_succ, tC, tOp, e_tst, e_isB, e_tru, e_truB, e_truI, e_truN, tSp, tDrop, tNext, tNot, tOr, tAnd, tIf, e_eqI, e_eqS, e_neI, e_neS, e_eqNI, e_i0, e_i2, e_addI, e_addS, e_mulI, e_ixS, e_ixL, e_lenS, e_strI, e_intS, e_min, if_true, Bool.false_eq_true, if_false]
    exact ⟨p, C, dx, _, _, rfl, hp, cok.cl, cok.nT, cok.nA, k⟩
abbrev s_Plus_init : Stmt := inClass (top 22) 0
theorem sc_Plus_init : FnSc ["self"] ["self"] ["Kind"] (defScope s_Plus_init) := ⟨⟨rfl, rfl, rfl, by decide +kernel, rfl, by decide +kernel, by decide +kernel⟩, by decide +kernel, by decide +kernel, by decide +kernel⟩
theorem ok_Plus_init {f : Addr} {fd : FuncData} (F : Fun K "__init__" "Plus.__init__" s_Plus_init f fd) (B_Kind_init : ClsFn P w K mg base 1 "Kind" "__init__" ["self", "told", "asked"] (spKindInit K)) : FnOk P w K mg base CX0 2 f fd ["self"] (spSub K .plus) := by
  refine F.ok sc_Plus_init.S (fun vs H Q E h => ?_) (fun cdv A outer s H vs Q E hr h => ?_)
  · obtain ⟨p, C, dx, rfl, _⟩ := h
    rfl
  · obtain ⟨p, C, dx, rfl, hp, cok, k⟩ := h
    have S := sc_Plus_init.sx (CX := CX0) (P := P) (w := w) (K := K) (mg := mg) (base := base) (qual := "Plus.__init__") (f := f) (cd := cdv) (A := A) (outer := outer) (s := s) (H := H) (E := E)
    have Sg := fun i {x} h => sc_Plus_init.gx (CX := CX0) (P := P) (w := w) (K := K) (mg := mg) (base := base) (qual := "Plus.__init__") (f := f) (cd := cdv) (A := A) (outer := outer) (s := s) (H := H) (E := E) i (x := x) h
    have hU := hr.units
    refine ⟨_, (pss_one (ps_expr (b_call B_Kind_init (hr.mono (by decide)) (Sg 0 rfl) (pa_cons (nv S 0) (pa_cons pe_str (pa_cons pe_int pa_nil)))))), ?_⟩
    show (_ : TS) _ [some (.ref p)] H
    simp only [tRet, tCB, tCons, tNil, tSeq, tIfS, tAsg, gName, tV, List.getElem?_cons_zero, List.getElem?_cons_succ, List.set_cons_zero, List.set_cons_succ, tC, tOp, e_tst, e_isB, e_tru, e_truB, e_truI, e_truN, tSp, tDrop, tNext, tNot, tOr, tAnd, tIf, e_eqI, e_eqS, e_neI, e_neS, e_eqNI, e_i0, e_i2, e_addI, e_addS, e_mulI, e_ixS, e_ixL, e_lenS, e_strI, e_intS, e_min, if_true, Bool.false_eq_true, if_false]
    exact ⟨p, C, dx, _, _, rfl, hp, cok.cl, cok.nT, cok.nA, k⟩
abbrev s_Pick_init : Stmt := inClass (top 23) 0
theorem sc_Pick_init : FnSc ["self"] ["self"] ["Kind"] (defScope s_Pick_init) := ⟨⟨rfl, rfl, rfl, by decide +kernel, rfl, by decide +kernel, by decide +kernel⟩, by decide +kernel, by decide +kernel, by decide +kernel⟩
theorem ok_Pick_init {f : Addr} {fd : FuncData} (F : Fun K "__init__" "Pick.__init__" s_Pick_init f fd) (B_Kind_init : ClsFn P w K mg base 1 "Kind" "__init__" ["self", "told", "asked"] (spKindInit K)) : FnOk P w K mg base CX0 2 f fd ["self"] (spSub K .pick) := by
  refine F.ok sc_Pick_init.S (fun vs H Q E h => ?_) (fun cdv A outer s H vs Q E hr h => ?_)
  · obtain ⟨p, C, dx, rfl, _⟩ := h
    rfl
  · obtain ⟨p, C, dx, rfl, hp, cok, k⟩ := h
    have S := sc_Pick_init.sx (CX := CX0) (P := P) (w := w) (K := K) (mg := mg) (base := base) (qual := "Pick.__init__") (f := f) (cd := cdv) (A := A) (outer := outer) (s := s) (H := H) (E := E)
    have Sg := fun i {x} h => sc_Pick_init.gx (CX := CX0) (P := P) (w := w) (K := K) (mg := mg) (base := base) (qual := "Pick.__init__") (f := f) (cd := cdv) (A := A) (outer := outer) (s := s) (H := H) (E := E) i (x := x) h
    have hU := hr.units
    refine ⟨_, (pss_one (ps_expr (b_call B_Kind_init (hr.mono (by decide)) (Sg 0 rfl) (pa_cons (nv S 0) (pa_cons pe_str (pa_cons pe_int pa_nil)))))), ?_⟩
    show (_ : TS) _ [some (.ref p)] H
    simp only [tRet, tCB, tCons, tNil, tSeq, tIfS, tAsg, gName, tV, List.getElem?_cons_zero, List.getElem?_cons_succ, List.set_cons_zero, List.set_cons_succ, tC, tOp, e_tst, e_isB, e_tru, e_truB, e_truI, e_truN, tSp, tDrop, tNext, tNot, tOr, tAnd, tIf, e_eqI, e_eqS, e_neI, e_neS, e_eqNI, e_i0, e_i2, e_addI, e_addS, e_mulI, e_ixS, e_ixL, e_lenS, e_strI, e_intS, e_min, if_true, Bool.false_eq_true, if_false]
    exact ⟨p, C, dx, _, _, rfl, hp, cok.cl, cok.nT, cok.nA, k⟩
abbrev s_Up_init : Stmt := inClass (top 24) 0
theorem sc_Up_init : FnSc ["self", "count"] ["self", "count"] ["Kind", "str"] (defScope s_Up_init) := ⟨⟨rfl, rfl, rfl, by decide +kernel, rfl, by decide +kernel, by decide +kernel⟩, by decide +kernel, by decide +kernel, by decide +kernel⟩
theorem ok_Up_init {f : Addr} {fd : FuncData} (F : Fun K "__init__" "Up.__init__" s_Up_init f fd) (B_Kind_init : ClsFn P w K mg base 1 "Kind" "__init__" ["self", "told", "asked"] (spKindInit K)) (n_str : mg "str" = none) : FnOk P w K mg base CX0 2 f fd ["self", "count"] (spUp K) := by
  refine F.ok sc_Up_init.S (fun vs H Q E h => ?_) (fun cdv A outer s H vs Q E hr h => ?_)
  · obtain ⟨n, _, _, p, C, dx, rfl, _⟩ := h
    rfl
  · obtain ⟨n, h1, h2, p, C, dx, rfl, hp, cok, k⟩ := h
    have S := sc_Up_init.sx (CX := CX0) (P := P) (w := w) (K := K) (mg := mg) (base := base) (qual := "Up.__init__") (f := f) (cd := cdv) (A := A) (outer := outer) (s := s) (H := H) (E := E)
    have Sg := fun i {x} h => sc_Up_init.gx (CX := CX0) (P := P) (w := w) (K := K) (mg := mg) (base := base) (qual := "Up.__init__") (f := f) (cd := cdv) (A := A) (outer := outer) (s := s) (H := H) (E := E) i (x := x) h
    have hU := hr.units
    refine ⟨_, (pss_cons (ps_expr (b_call B_Kind_init (hr.mono (by decide)) (Sg 0 rfl) (pa_cons (nv S 0) (pa_cons (pe_op o_add pe_str (k_str (Sg 1 rfl) n_str (pa_cons (nv S 1) pa_nil))) (pa_cons pe_int pa_nil)))))
      (pss_one (ps_fd (K := K) rfl (nv S 0) (nv S 1)))), ?_⟩
    show (_ : TS) _ [some (.ref p), some (.int n)] H
    simp only [sFld, tRet, tCB, tCons, tNil, tSeq, tIfS, tAsg, gName, tV, List.getElem?_cons_zero, List.getElem?_cons_succ, List.set_cons_zero, List.set_cons_succ, tC, tOp, e_tst, e_isB, e_tru, e_truB, e_truI, e_truN, tSp, tDrop, tNext, tNot, tOr, tAnd, tIf, e_eqI, e_eqS, e_neI, e_neS, e_eqNI, e_i0, e_i2, e_addI, e_addS, e_mulI, e_ixS, e_ixL, e_lenS, e_strI, e_intS, e_min, if_true, Bool.false_eq_true, if_false]
    refine ⟨small_log (by omega), small_add (by decide) (by omega), ?_⟩
    refine ⟨p, C, dx, _, _, rfl, hp, cok.cl, cok.nT, cok.nA, ?_⟩
    simp only []
    refine ⟨p, C, dx, _, rfl, upd_same, cok.cl, cok.nC, by show 2 < 1000; decide, ?_⟩
    rw [upd_upd]
    exact k
abbrev s_Down_init : Stmt := inClass (top 25) 0
theorem sc_Down_init : FnSc ["self", "count"] ["self", "count"] ["Kind", "str"] (defScope s_Down_init) := ⟨⟨rfl, rfl, rfl, by decide +kernel, rfl, by decide +kernel, by decide +kernel⟩, by decide +kernel, by decide +kernel, by decide +kernel⟩
theorem ok_Down_init {f : Addr} {fd : FuncData} (F : Fun K "__init__" "Down.__init__" s_Down_init f fd) (B_Kind_init : ClsFn P w K mg base 1 "Kind" "__init__" ["self", "told", "asked"] (spKindInit K)) (n_str : mg "str" = none) : FnOk P w K mg base CX0 2 f fd ["self", "count"] (spDown K) := by
  refine F.ok sc_Down_init.S (fun vs H Q E h => ?_) (fun cdv A outer s H vs Q E hr h => ?_)
  · obtain ⟨n, _, _, p, C, dx, rfl, _⟩ := h
    rfl
  · obtain ⟨n, h1, h2, p, C, dx, rfl, hp, cok, k⟩ := h
    have S := sc_Down_init.sx (CX := CX0) (P := P) (w := w) (K := K) (mg := mg) (base := base) (qual := "Down.__init__") (f := f) (cd := cdv) (A := A) (outer := outer) (s := s) (H := H) (E := E)
    have Sg := fun i {x} h => sc_Down_init.gx (CX := CX0) (P := P) (w := w) (K := K) (mg := mg) (base := base) (qual := "Down.__init__") (f := f) (cd := cdv) (A := A) (outer := outer) (s := s) (H := H) (E := E) i (x := x) h
    have hU := hr.units
    refine ⟨_, (pss_cons (ps_expr (b_call B_Kind_init (hr.mono (by decide)) (Sg 0 rfl) (pa_cons (nv S 0) (pa_cons (pe_op o_add pe_str (k_str (Sg 1 rfl) n_str (pa_cons (nv S 1) pa_nil))) (pa_cons pe_int pa_nil)))))
      (pss_one (ps_fd (K := K) rfl (nv S 0) (nv S 1)))), ?_⟩
    show (_ : TS) _ [some (.ref p), some (.int n)] H
    simp only [sFld, tRet, tCB, tCons, tNil, tSeq, tIfS, tAsg, gName, tV, List.getElem?_cons_zero, List.getElem?_cons_succ, List.set_cons_zero, List.set_cons_succ, tC, tOp, e_tst, e_isB, e_tru, e_truB, e_truI, e_truN, tSp, tDrop, tNext, tNot, tOr, tAnd, tIf, e_eqI, e_eqS, e_neI, e_neS, e_eqNI, e_i0, e_i2, e_addI, e_addS, e_mulI, e_ixS, e_ixL, e_lenS, e_strI, e_intS, e_min, if_true, Bool.false_eq_true, if_false]
    refine ⟨small_log (by omega), small_add (by decide) (by omega), ?_⟩
    refine ⟨p, C, dx, _, _, rfl, hp, cok.cl, cok.nT, cok.nA, ?_⟩
    simp only []
    refine ⟨p, C, dx, _, rfl, upd_same, cok.cl, cok.nC, by show 2 < 1000; decide, ?_⟩
    rw [upd_upd]
    exact k
abbrev s_plain_kind : Stmt := top 26
theorem sc_plain_kind : FnSc ["word"] ["word"] ["Pick", "Plus", "Odd", "Either", "Both", "Sink", "Source"] (defScope s_plain_kind) := ⟨⟨rfl, rfl, rfl, by decide +kernel, rfl, by decide +kernel, by decide +kernel⟩, by decide +kernel, by decide +kernel, by decide +kernel⟩
theorem ok_plain_kind {f : Addr} {fd : FuncData} (F : Fun K "plain_kind" "plain_kind" s_plain_kind f fd) (ok : ∀ kd, ClsOk K (c.of kd)) (C_Source : Mkr P w K mg base 2 "Source" c.src ["self"] (spSub K .src)) (C_Sink : Mkr P w K mg base 2 "Sink" c.snk ["self"] (spSub K .snk)) (C_Both : Mkr P w K mg base 2 "Both" c.both ["self"] (spSub K .both)) (C_Either : Mkr P w K mg base 2 "Either" c.either ["self"] (spSub K .either)) (C_Odd : Mkr P w K mg base 2 "Odd" c.odd ["self"] (spSub K .odd)) (C_Plus : Mkr P w K mg base 2 "Plus" c.plus ["self"] (spSub K .plus)) (C_Pick : Mkr P w K mg base 2 "Pick" c.pick ["self"] (spSub K .pick)) : FnOk P w K mg base CX0 4 f fd ["word"] (spPlain c) := by
  refine F.ok sc_plain_kind.S (fun vs H Q E h => ?_) (fun cdv A outer s H vs Q E hr h => ?_)
  · obtain ⟨z, rfl, _⟩ := h
    rfl
  · obtain ⟨z, rfl, k⟩ := h
    have S := sc_plain_kind.sx (CX := CX0) (P := P) (w := w) (K := K) (mg := mg) (base := base) (qual := "plain_kind") (f := f) (cd := cdv) (A := A) (outer := outer) (s := s) (H := H) (E := E)
    have Sg := fun i {x} h => sc_plain_kind.gx (CX := CX0) (P := P) (w := w) (K := K) (mg := mg) (base := base) (qual := "plain_kind") (f := f) (cd := cdv) (A := A) (outer := outer) (s := s) (H := H) (E := E) i (x := x) h
    have hU := hr.units
    refine ⟨_, (pss_cons (ps_if (pt_of (o_eq (K := K) rfl hU) (nv S 0) pe_str) (pss_one (ps_ret (c_make0 C_Source (hr.mono (by decide)) (Sg 6 rfl)))) pss_nil)
      (pss_cons (ps_if (pt_of (o_eq (K := K) rfl hU) (nv S 0) pe_str) (pss_one (ps_ret (c_make0 C_Sink (hr.mono (by decide)) (Sg 5 rfl)))) pss_nil)
      (pss_cons (ps_if (pt_of (o_eq (K := K) rfl hU) (nv S 0) pe_str) (pss_one (ps_ret (c_make0 C_Both (hr.mono (by decide)) (Sg 4 rfl)))) pss_nil)
      (pss_cons (ps_if (pt_of (o_eq (K := K) rfl hU) (nv S 0) pe_str) (pss_one (ps_ret (c_make0 C_Either (hr.mono (by decide)) (Sg 3 rfl)))) pss_nil)
      (pss_cons (ps_if (pt_of (o_eq (K := K) rfl hU) (nv S 0) pe_str) (pss_one (ps_ret (c_make0 C_Odd (hr.mono (by decide)) (Sg 2 rfl)))) pss_nil)
      (pss_cons (ps_if (pt_of (o_eq (K := K) rfl hU) (nv S 0) pe_str) (pss_one (ps_ret (c_make0 C_Plus (hr.mono (by decide)) (Sg 1 rfl)))) pss_nil)
      (pss_cons (ps_if (pt_of (o_eq (K := K) rfl hU) (nv S 0) pe_str) (pss_one (ps_ret (c_make0 C_Pick (hr.mono (by decide)) (Sg 0 rfl)))) pss_nil)
      (pss_one (ps_ret pe_non))))))))), ?_⟩
    show (_ : TS) _ [some (.str z)] H
    simp only [tMk, tRet, tCB, tCons, tNil, tSeq, tIfS, tAsg, gName, tV, List.getElem?_cons_zero, List.getElem?_cons_succ, List.set_cons_zero, List.set_cons_succ, tC, tOp, e_tst, e_isB, e_tru, e_truB, e_truI, e_truN, tSp, tDrop, tNext, tNot, tOr, tAnd, tIf, e_eqI, e_eqS, e_neI, e_neS, e_eqNI, e_i0, e_i2, e_addI, e_addS, e_mulI, e_ixS, e_ixL, e_lenS, e_strI, e_intS, e_min, if_true, Bool.false_eq_true, if_false]
    unfold plainKind at k
    refine ite2 (fun h => ?_) (fun h => ?_)
    · rw [if_pos (of_decide_eq_true h)] at k
      exact mk_kind (kd := .src) (ok _) k
    rw [if_neg (of_decide_eq_false (Bool.eq_false_iff.mpr h))] at k
    refine ite2 (fun h => ?_) (fun h => ?_)
    · rw [if_pos (of_decide_eq_true h)] at k
      exact mk_kind (kd := .snk) (ok _) k
    rw [if_neg (of_decide_eq_false (Bool.eq_false_iff.mpr h))] at k
    refine ite2 (fun h => ?_) (fun h => ?_)
    · rw [if_pos (of_decide_eq_true h)] at k
      exact mk_kind (kd := .both) (ok _) k
    rw [if_neg (of_decide_eq_false (Bool.eq_false_iff.mpr h))] at k
    refine ite2 (fun h => ?_) (fun h => ?_)
    · rw [if_pos (of_decide_eq_true h)] at k
      exact mk_kind (kd := .either) (ok _) k
    rw [if_neg (of_decide_eq_false (Bool.eq_false_iff.mpr h))] at k
    refine ite2 (fun h => ?_) (fun h => ?_)
    · rw [if_pos (of_decide_eq_true h)] at k
      exact mk_kind (kd := .odd) (ok _) k
    rw [if_neg (of_decide_eq_false (Bool.eq_false_iff.mpr h))] at k
    refine ite2 (fun h => ?_) (fun h => ?_)
    · rw [if_pos (of_decide_eq_true h)] at k
      exact mk_kind (kd := .plus) (ok _) k
    rw [if_neg (of_decide_eq_false (Bool.eq_false_iff.mpr h))] at k
    refine ite2 (fun h => ?_) (fun h => ?_)
    · rw [if_pos (of_decide_eq_true h)] at k
      exact mk_kind (kd := .pick) (ok _) k
    rw [if_neg (of_decide_eq_false (Bool.eq_false_iff.mpr h))] at k
    exact k H Same.rfl'
abbrev s_shifting_kind : Stmt := top 27
theorem sc_shifting_kind : FnSc ["word", "count"] ["word", "count"] ["Down", "Up"] (defScope s_shifting_kind) := ⟨⟨rfl, rfl, rfl, by decide +kernel, rfl, by decide +kernel, by decide +kernel⟩, by decide +kernel, by decide +kernel, by decide +kernel⟩
theorem ok_shifting_kind {f : Addr} {fd : FuncData} (F : Fun K "shifting_kind" "shifting_kind" s_shifting_kind f fd) (ok : ∀ kd, ClsOk K (c.of kd)) (C_Up : Mkr P w K mg base 2 "Up" c.up ["self", "count"] (spUp K)) (C_Down : Mkr P w K mg base 2 "Down" c.down ["self", "count"] (spDown K)) : FnOk P w K mg base CX0 4 f fd ["word", "count"] (spShift c) := by
  refine F.ok sc_shifting_kind.S (fun vs H Q E h => ?_) (fun cdv A outer s H vs Q E hr h => ?_)
  · obtain ⟨z, n, rfl, _⟩ := h
    rfl
  · obtain ⟨z, n, rfl, h1, h2, k⟩ := h
    have S := sc_shifting_kind.sx (CX := CX0) (P := P) (w := w) (K := K) (mg := mg) (base := base) (qual := "shifting_kind") (f := f) (cd := cdv) (A := A) (outer := outer) (s := s) (H := H) (E := E)
    have Sg := fun i {x} h => sc_shifting_kind.gx (CX := CX0) (P := P) (w := w) (K := K) (mg := mg) (base := base) (qual := "shifting_kind") (f := f) (cd := cdv) (A := A) (outer := outer) (s := s) (H := H) (E := E) i (x := x) h
    have hU := hr.units
    refine ⟨_, (pss_cons (ps_if (pt_of (o_eq (K := K) rfl hU) (nv S 0) pe_str) (pss_one (ps_ret (c_make C_Up (hr.mono (by decide)) (Sg 1 rfl) (pa_cons (nv S 1) pa_nil)))) pss_nil)
      (pss_cons (ps_if (pt_of (o_eq (K := K) rfl hU) (nv S 0) pe_str) (pss_one (ps_ret (c_make C_Down (hr.mono (by decide)) (Sg 0 rfl) (pa_cons (nv S 1) pa_nil)))) pss_nil)
      (pss_one (ps_ret pe_non)))), ?_⟩
    show (_ : TS) _ [some (.str z), some (.int n)] H
    simp only [tMk, tRet, tCB, tCons, tNil, tSeq, tIfS, tAsg, gName, tV, List.getElem?_cons_zero, List.getElem?_cons_succ, List.set_cons_zero, List.set_cons_succ, tC, tOp, e_tst, e_isB, e_tru, e_truB, e_truI, e_truN, tSp, tDrop, tNext, tNot, tOr, tAnd, tIf, e_eqI, e_eqS, e_neI, e_neS, e_eqNI, e_i0, e_i2, e_addI, e_addS, e_mulI, e_ixS, e_ixL, e_lenS, e_strI, e_intS, e_min, if_true, Bool.false_eq_true, if_false]
    unfold shiftKind at k
    refine ite2 (fun h => ?_) (fun h => ?_)
    · rw [if_pos (of_decide_eq_true h)] at k
      exact fun x dx nx nd ne => ⟨n, h1, h2, mk_kind (kd := .up n) (ok _) k x dx nx nd ne⟩
    rw [if_neg (of_decide_eq_false (Bool.eq_false_iff.mpr h))] at k
    refine ite2 (fun h => ?_) (fun h => ?_)
    · rw [if_pos (of_decide_eq_true h)] at k
      exact fun x dx nx nd ne => ⟨n, h1, h2, mk_kind (kd := .down n) (ok _) k x dx nx nd ne⟩
    rw [if_neg (of_decide_eq_false (Bool.eq_false_iff.mpr h))] at k
    exact k H Same.rfl'
abbrev s_kind_by : Stmt := top 29
theorem sc_kind_by : FnSc ["word", "pieces", "count"] ["word"] ["shifting_kind", "number_by", "MOST_PLACES", "plain_kind"] (defScope s_kind_by) := ⟨⟨rfl, rfl, rfl, by decide +kernel, rfl, by decide +kernel, by decide +kernel⟩, by decide +kernel, by decide +kernel, by decide +kernel⟩
theorem ok_kind_by {f : Addr} {fd : FuncData} (F : Fun K "kind_by" "kind_by" s_kind_by f fd) (C_plain_kind : Cal P w K mg base 4 "plain_kind" ["word"] (spPlain c)) (C_shifting_kind : Cal P w K mg base 4 "shifting_kind" ["word", "count"] (spShift c)) (C_number_by : Cal P w K mg base 2 "number_by" ["word", "most"] spNumberBy) {uM : Value} (v_MOST_PLACES : mg "MOST_PLACES" = some uM ∧ RelV (.int 63) uM) : FnOk P w K mg base CX0 5 f fd ["word"] (spKindBy c) := by
  refine F.ok sc_kind_by.S (fun vs H Q E h => ?_) (fun cdv A outer s H vs Q E hr h => ?_)
  · obtain ⟨z, rfl, _⟩ := h
    rfl
  · obtain ⟨z, rfl, hz, k⟩ := h
    have S := sc_kind_by.sx (CX := CX0) (P := P) (w := w) (K := K) (mg := mg) (base := base) (qual := "kind_by") (f := f) (cd := cdv) (A := A) (outer := outer) (s := s) (H := H) (E := E)
    have Sg := fun i {x} h => sc_kind_by.gx (CX := CX0) (P := P) (w := w) (K := K) (mg := mg) (base := base) (qual := "kind_by") (f := f) (cd := cdv) (A := A) (outer := outer) (s := s) (H := H) (E := E) i (x := x) h
    have hU := hr.units
    refine ⟨_, (pss_cons (ps_st S 1 (m_partition (nv S 0) (pa_cons pe_str pa_nil)))
      (pss_cons (ps_if (pt_of (o_eq (K := K) rfl hU) (pe_ix (o_ix (K := K)) (nv S 1) pe_int (fun _ _ => rfl)) pe_str) (pss_one (ps_ret (c_call C_plain_kind (hr.mono (by decide)) (Sg 3 rfl) (pa_cons (nv S 0) pa_nil)))) pss_nil)
      (pss_cons (ps_st S 2 (c_call C_number_by (hr.mono (by decide)) (Sg 1 rfl) (pa_cons (pe_ix (o_ix (K := K)) (nv S 1) pe_int (fun _ _ => rfl)) (pa_cons (g_val (Sg 2 rfl) v_MOST_PLACES.1 v_MOST_PLACES.2) pa_nil))))
      (pss_cons (ps_if (PW.pt (pw_or (pt_of o_is (nv S 2) pe_non) (pw_or1 (pt_of (o_eq (K := K) rfl hU) (nv S 2) pe_int)))) (pss_one (ps_ret pe_non)) pss_nil)
      (pss_one (ps_ret (c_call C_shifting_kind (hr.mono (by decide)) (Sg 0 rfl) (pa_cons (pe_ix (o_ix (K := K)) (nv S 1) pe_int (fun _ _ => rfl)) (pa_cons (nv S 2) pa_nil))))))))), ?_⟩
    show (_ : TS) _ [some (.str z), none, none] H
    simp only [e_bmS, e_bmSS, e_part, tRet, tCB, tCons, tNil, tSeq, tIfS, tAsg, gName, tV, List.getElem?_cons_zero, List.getElem?_cons_succ, List.set_cons_zero, List.set_cons_succ, tC, tOp, e_tst, e_isB, e_tru, e_truB, e_truI, e_truN, tSp, tDrop, tNext, tNot, tOr, tAnd, tIf, e_eqI, e_eqS, e_neI, e_neS, e_eqNI, e_i0, e_i2, e_addI, e_addS, e_mulI, e_ixS, e_ixL, e_lenS, e_strI, e_intS, e_min, if_true, Bool.false_eq_true, if_false]
    refine ⟨⟨by decide +kernel, Nat.le_trans hz (by decide)⟩, fun p hp => ?_⟩
    have s1 : Same H (upd H p (.tup [.str (Txt.partition z ":").1, .str (Txt.partition z ":").2.1, .str (Txt.partition z ":").2.2])) := fun b o e => by rw [upd_ne (ne_of_none e hp)]; exact e
    have ht : upd H p (.tup [.str (Txt.partition z ":").1, .str (Txt.partition z ":").2.1, .str (Txt.partition z ":").2.2]) p = some (.tup [.str (Txt.partition z ":").1, .str (Txt.partition z ":").2.1, .str (Txt.partition z ":").2.2]) := upd_same
    generalize upd H p (.tup [.str (Txt.partition z ":").1, .str (Txt.partition z ":").2.1, .str (Txt.partition z ":").2.2]) = H1 at s1 ht
    refine ⟨_, _, .inr (SqT.of ht), atI_nat (j := 1) rfl, ?_⟩
    simp only [e_eqS, e_isB]
    refine ite2 (fun h => ?_) (fun h => ?_)
    · have e : kindBy z = plainKind z := by unfold kindBy; rw [if_pos (of_decide_eq_true h)]
      rw [e] at k
      exact ⟨z, rfl, k.mono s1⟩
    have h := of_decide_eq_false (Bool.eq_false_iff.mpr h)
    refine ⟨_, _, .inr (SqT.of ht), atI_nat (j := 2) rfl, ?_⟩
    refine ⟨_, 63, rfl, Nat.le_trans (part_len z) hz, by decide, by decide, fun H2 s2 => ⟨trivial, ?_⟩⟩
    unfold kindBy at k
    rw [if_neg h] at k
    cases en : numberBy (Txt.partition z ":").2.2 63 with
    | none =>
      rw [en] at k
      rw [if_pos (by rfl)]
      exact k H2 (s1.trans s2)
    | some n =>
      rw [en] at k
      obtain ⟨b0, b1⟩ := numberBy_le en
      rw [if_neg (by simp [numV])]
      simp only [numV, e_eqI, e_isB]
      refine ite2 (fun g => ?_) (fun g => ?_)
      · have k : KRes c H Q (if n = 0 then none else shiftKind (Txt.partition z ":").1 n) := k
        rw [if_pos (of_decide_eq_true g)] at k
        exact k H2 (s1.trans s2)
      · have g := of_decide_eq_false (Bool.eq_false_iff.mpr g)
        have k : KRes c H Q (if n = 0 then none else shiftKind (Txt.partition z ":").1 n) := k
        rw [if_neg g] at k
        exact ⟨_, _, .inr (SqT.of (s2 _ _ ht)), atI_nat (j := 0) rfl, _, n, rfl, by omega, b1, k.mono (s1.trans s2)⟩
end
end K2
end
section
set_option maxRecDepth 100000
set_option maxHeartbeats 4000000
set_option linter.all false
namespace K2
open PySem L2
seal L2.PE L2.PS L2.PSs L2.PT L2.PA L2.PG L2.PI L2.PW
def nameSigns : Str := "abcdefghijklmnopqrstuvwxyz0123456789"
def isName (z : Str) : Bool := decide ((1 : Int) ≤ (z.length : Int)) && (decide ((z.length : Int) ≤ 8) && madeOf z nameSigns)
def spIsName : Sp := fun vs H Q _ => ∃ z : Str, vs = [.str z] ∧ z.length ≤ 1000000 ∧ ∀ H', Same H H' → Q (.bl (isName z)) H'
def Kd.isEnd : Kd → Bool
  | .src => true
  | .snk => true
  | _ => false
structure PK where
  name : Str
  kd : Kd
  time : Int
abbrev Ln := Str × Str × Int
def lrow (l : Ln) : List V := [.str l.1, .str l.2.1, .int l.2.2]
def wflds (pd pj : Addr) : List (Str × V) := putF "joints" (.ref pj) (putF "parts" (.ref pd) [])
def KindAt' := KindAt
def WorksAt (c : Cs) (cW : Addr) (H : Hp) (q : Addr) (pts : List PK) (ls : List Ln) : Prop := ∃ (dx pd pj : Addr) (kvs : List (Key × V)) (lv : List V),
  H q = some (.ins cW dx (wflds pd pj)) ∧ H pd = some (.dK kvs) ∧ kvs.map (·.1) = pts.map (fun p => (Sum.inr p.name : Key)) ∧
  (∀ (i : Nat) p, pts[i]? = some p → ∃ t kp, kvs[i]? = some (Sum.inr p.name, .ref t) ∧ H t = some (.tup [.ref kp, .int p.time]) ∧ KindAt c H kp p.kd) ∧
  H pj = some (.lst lv) ∧ Tups H lv (ls.map lrow)
theorem KindAt.mono {c : Cs} {H H' : Hp} {p : Addr} {kd : Kd} (k : KindAt c H p kd) (s : Same H H') : KindAt c H' p kd := let ⟨dx, e⟩ := k; ⟨dx, s _ _ e⟩
theorem KindAt.fix {c : Cs} {H H' : Hp} {p : Addr} {kd : Kd} (k : KindAt c H p kd) (s : Fix H H') : KindAt c H' p kd := let ⟨dx, e⟩ := k; ⟨dx, s _ _ e rfl⟩
theorem WorksAt.mono {c : Cs} {cW : Addr} {H H' : Hp} {q : Addr} {pts : List PK} {ls : List Ln} (h : WorksAt c cW H q pts ls) (s : Same H H') : WorksAt c cW H' q pts ls := by
  obtain ⟨dx, pd, pj, kvs, lv, h1, h2, h3, h4, h5, h6⟩ := h
  refine ⟨dx, pd, pj, kvs, lv, s _ _ h1, s _ _ h2, h3, fun i p e => ?_, s _ _ h5, h6.fix s.fix⟩
  obtain ⟨t, kp, g1, g2, g3⟩ := h4 i p e
  exact ⟨t, kp, g1, s _ _ g2, g3.mono s⟩
theorem wf_parts (pd pj : Addr) : (wflds pd pj).lookup ("parts" : Str) = some (.ref pd) := by
  have h1 : ¬ ("parts" : Str) = "joints" := by decide +kernel
  unfold wflds
  simp only [lookup_putF, if_neg h1, if_true]
theorem wf_joints (pd pj : Addr) : (wflds pd pj).lookup ("joints" : Str) = some (.ref pj) := by
  unfold wflds
  simp only [lookup_putF, if_true]
theorem wf_no (pd pj : Addr) {m : Str} (h1 : ¬ m = "parts") (h2 : ¬ m = "joints") : (wflds pd pj).lookup m = none := by
  unfold wflds
  simp only [lookup_putF, if_neg h1, if_neg h2]
  rfl
theorem flds_told (kd : Kd) : (flds kd).lookup ("told" : Str) = some (.str kd.word) := by
  have h1 : ¬ ("told" : Str) = "asked" := by decide +kernel
  have h2 : ¬ ("told" : Str) = "count" := by decide +kernel
  cases kd <;> unfold flds <;> simp only [lookup_putF, if_neg h1, if_neg h2, if_true]
theorem flds_asked (kd : Kd) : (flds kd).lookup ("asked" : Str) = some (.int kd.asked) := by
  have h2 : ¬ ("asked" : Str) = "count" := by decide +kernel
  cases kd <;> unfold flds <;> simp only [lookup_putF, if_neg h2, if_true]
theorem flds_no (kd : Kd) {m : Str} (h1 : ¬ m = "told") (h2 : ¬ m = "asked") (h3 : ¬ m = "count") : (flds kd).lookup m = none := by
  cases kd <;> unfold flds <;> simp only [lookup_putF, if_neg h1, if_neg h2, if_neg h3] <;> rfl
theorem flds_ne (kd : Kd) : flds kd ≠ [] := fun e => by
  have := flds_told kd
  rw [e] at this
  cases this
theorem flds_ne2 (kd : Kd) (v : V) : flds kd ≠ putF "parts" v [] := fun e => by
  have := flds_told kd
  rw [e, lookup_putF, if_neg (by decide +kernel)] at this
  cases this
structure WCls (K : PySem.W.Frag) (cW : Addr) : Prop where
  cl : Cls K cW
  nP : NoAttr K cW "parts"
  nJ : NoAttr K cW "joints"
abbrev nms (pts : List PK) : List Str := pts.map (·.name)
def spWInit (K : PySem.W.Frag) (c : Cs) : Sp := fun vs H Q _ => ∃ (q C dx lp ll : Addr) (pv lv : List V) (pts : List PK), vs = [.ref q, .ref lp, .ref ll] ∧ H q = some (.ins C dx []) ∧ WCls K C ∧ H lp = some (.lst pv) ∧ pv.length = pts.length ∧ pts.length ≤ 1000 ∧ (nms pts).Nodup ∧
  (∀ (i : Nat) p, pts[i]? = some p → ∃ t kp, pv[i]? = some (.ref t) ∧ H t = some (.tup [.str p.name, .ref kp, .int p.time]) ∧ KindAt c H kp p.kd) ∧ H ll = some (.lst lv) ∧
  ∀ H', (∀ b o, b ≠ q → H b = some o → H' b = some o) → (∀ ls, Tups H lv (ls.map lrow) → WorksAt c C H' q pts ls) → Q .non H'
def spWNames (c : Cs) (cW : Addr) : Sp := fun vs H Q _ => ∃ (q : Addr) (pts : List PK) (ls : List Ln), vs = [.ref q] ∧ WorksAt c cW H q pts ls ∧ ∀ l, H l = none → Q (.ref l) (upd H l (.lst ((nms pts).map V.str)))
def spWLines (c : Cs) (cW : Addr) : Sp := fun vs H Q _ => ∃ (q : Addr) (pts : List PK) (ls : List Ln), vs = [.ref q] ∧ WorksAt c cW H q pts ls ∧ ∀ lv, Tups H lv (ls.map lrow) → ∀ l, H l = none → Q (.ref l) (upd H l (.lst lv))
def spWKind (c : Cs) (cW : Addr) : Sp := fun vs H Q _ => ∃ (q : Addr) (n : Str) (pts : List PK) (ls : List Ln) (i : Nat) (p : PK), vs = [.ref q, .str n] ∧ WorksAt c cW H q pts ls ∧ (nms pts).Nodup ∧ pts[i]? = some p ∧ p.name = n ∧ ∀ kp, KindAt c H kp p.kd → Q (.ref kp) H
def spWTime (c : Cs) (cW : Addr) : Sp := fun vs H Q _ => ∃ (q : Addr) (n : Str) (pts : List PK) (ls : List Ln) (i : Nat) (p : PK), vs = [.ref q, .str n] ∧ WorksAt c cW H q pts ls ∧ (nms pts).Nodup ∧ pts[i]? = some p ∧ p.name = n ∧ Q (.int p.time) H
theorem sum_inj {l : List Str} : (l.map (fun n => (Sum.inr n : Key))).Nodup ↔ l.Nodup := by
  rw [List.nodup_iff_pairwise_ne, List.nodup_iff_pairwise_ne, List.pairwise_map]
  simp
theorem keys_nd {kvs : List (Key × V)} {pts : List PK} (h : kvs.map (·.1) = pts.map (fun p => (Sum.inr p.name : Key))) (nd : (nms pts).Nodup) : (kvs.map (·.1)).Nodup := by
  rw [h]
  have e : pts.map (fun p => (Sum.inr p.name : Key)) = (nms pts).map (fun n => (Sum.inr n : Key)) := by rw [List.map_map]; rfl
  rw [e]
  exact sum_inj.mpr nd
section
variable {P : Program} {w : World} {K : PySem.W.Frag} {mg : Str → Option Value} {base : Heap} {c : Cs} {cW : Addr}
abbrev s_is_name : Stmt := top 12
theorem sc_is_name : FnSc ["word"] ["word"] ["len", "LONGEST_NAME", "made_of", "NAME_SIGNS"] (defScope s_is_name) := ⟨⟨rfl, rfl, rfl, by decide +kernel, rfl, by decide +kernel, by decide +kernel⟩, by decide +kernel, by decide +kernel, by decide +kernel⟩
theorem ok_is_name {f : Addr} {fd : FuncData} (F : Fun K "is_name" "is_name" s_is_name f fd) (C_made_of : Cal P w K mg base 1 "made_of" ["word", "signs"] spMadeOf) {uN uL : Value} (v_NAME_SIGNS : mg "NAME_SIGNS" = some uN ∧ RelV (.str nameSigns) uN) (v_LONGEST_NAME : mg "LONGEST_NAME" = some uL ∧ RelV (.int 8) uL) (n_len : mg "len" = none) : FnOk P w K mg base CX0 2 f fd ["word"] spIsName := by
  refine F.ok sc_is_name.S (fun vs H Q E h => ?_) (fun cdv A outer s H vs Q E hr h => ?_)
  · obtain ⟨z, rfl, _⟩ := h
    rfl
  · obtain ⟨z, rfl, hz, k⟩ := h
    have S := sc_is_name.sx (CX := CX0) (P := P) (w := w) (K := K) (mg := mg) (base := base) (qual := "is_name") (f := f) (cd := cdv) (A := A) (outer := outer) (s := s) (H := H) (E := E)
    have Sg := fun i {x} h => sc_is_name.gx (CX := CX0) (P := P) (w := w) (K := K) (mg := mg) (base := base) (qual := "is_name") (f := f) (cd := cdv) (A := A) (outer := outer) (s := s) (H := H) (E := E) i (x := x) h
    have hU := hr.units
    refine ⟨_, (pss_one (ps_ret (pe_and (pe_chain o_le o_le pe_int (k_len (K := K) rfl (Sg 0 rfl) n_len (pa_cons (nv S 0) pa_nil)) (g_val (Sg 1 rfl) v_LONGEST_NAME.1 v_LONGEST_NAME.2)) (pe_one (c_call C_made_of (hr.mono (by decide)) (Sg 2 rfl) (pa_cons (nv S 0) (pa_cons (g_val (Sg 3 rfl) v_NAME_SIGNS.1 v_NAME_SIGNS.2) pa_nil))))))), ?_⟩
    show (_ : TS) _ [some (.str z)] H
    simp only [tRet, tRetN, tCB, tCons, tNil, tSeq, tIfS, tAsg, gName, tV, x0, x1, x2, x3, tC, tOp, e_tst, e_isB, e_tru, e_truB, e_truI, e_truN, tSp, tDrop, tNext, tNot, tOr, tAnd, tIf, e_tup, e_lst, tCont, tBreak, tAug, tAugS, tAndV, tOrV, tNotV, tChain, e_dnew, gSub, ipI, tSl, tNoPart, tPart, tMk, ex_bl, ex_int, ex_int2, ex_some, e_eqI4, e_eqS4, e_neI3, e_neS3, e_i0, e_i2, e_addI, e_addS, e_addL4, e_mulI3, e_mulS, e_ix3S, e_ix3D, e_lenS, e_strI, e_intS, e_ival, e_for, e_comp, e_rg1, e_rg2, e_en, e_rg1I, e_rg2I, e_tMt, e_lm, e_lmR, e_app, e_ext, e_bmS, e_bmSS, e_split, e_part, e_sl2S, e_isi3T, e_gTup, e_gxT, e_get3D, e_set3D, gx1, tYes, frv, x4, x5, x6, x7, x8, Function.comp, if_true, x9, if_false]
    have hz' : z.length ≤ sizeLine := Nat.le_trans hz (by decide)
    refine ⟨hz', ?_⟩
    by_cases h1 : (1 : Int) ≤ (z.length : Int)
    · rw [decide_eq_true h1, if_pos rfl]
      by_cases h2 : (z.length : Int) ≤ 8
      · rw [decide_eq_true h2, if_pos rfl]
        refine ⟨z, nameSigns, rfl, hz, fun H1 s1 => ?_⟩
        have e : isName z = madeOf z nameSigns := by unfold isName; rw [decide_eq_true h1, decide_eq_true h2]; rfl
        rw [← e]
        exact k H1 s1
      · rw [decide_eq_false h2, if_neg Bool.false_ne_true]
        have e : isName z = false := by unfold isName; rw [decide_eq_false h2]; simp
        have q := k H Same.rfl'
        rw [e] at q
        exact q
    · rw [decide_eq_false h1, if_neg Bool.false_ne_true]
      have e : isName z = false := by unfold isName; rw [decide_eq_false h1]; rfl
      have q := k H Same.rfl'
      rw [e] at q
      exact q
abbrev s_Works_init : Stmt := inClass (top 34) 0
theorem sc_Works_init : FnSc ["self", "parts", "lines", "name", "kind", "time"] ["self", "parts", "lines"] ["list"] (defScope s_Works_init) := ⟨⟨rfl, rfl, rfl, by decide +kernel, rfl, by decide +kernel, by decide +kernel⟩, by decide +kernel, by decide +kernel, by decide +kernel⟩
theorem ok_Works_init {f : Addr} {fd : FuncData} (F : Fun K "__init__" "Works.__init__" s_Works_init f fd) (n_list : mg "list" = none) : FnOk P w K mg base CX0 1 f fd ["self", "parts", "lines"] (spWInit K c) := by
  refine F.ok sc_Works_init.S (fun vs H Q E h => ?_) (fun cdv A outer s H vs Q E hr h => ?_)
  · obtain ⟨q, C, dx, lp, ll, pv, lv, pts, rfl, _⟩ := h
    rfl
  · obtain ⟨q, C, dx, lp, ll, pv, lv, pts, rfl, hq, cl, hp, hpl, hps, nd, hpt, hl, k⟩ := h
    have S := sc_Works_init.sx (CX := CX0) (P := P) (w := w) (K := K) (mg := mg) (base := base) (qual := "Works.__init__") (f := f) (cd := cdv) (A := A) (outer := outer) (s := s) (H := H) (E := E)
    have Sg := fun i {x} h => sc_Works_init.gx (CX := CX0) (P := P) (w := w) (K := K) (mg := mg) (base := base) (qual := "Works.__init__") (f := f) (cd := cdv) (A := A) (outer := outer) (s := s) (H := H) (E := E) i (x := x) h
    have hU := hr.units
    refine ⟨_, (pss_cons (ps_fd (K := K) rfl (nv S 0) pe_dnewK)
      (pss_cons (ps_for PassesOwn.never rfl (i_val (K := K) rfl (nv S 1)) (pg_tup rfl (pgs_cons (pn S 3) (pgs_cons (pn S 4) (pgs_cons (pn S 5) pgs_nil)))) (pss_one (ps_asg (pe_tup (pa_cons (nv S 4) (pa_cons (nv S 5) pa_nil))) (pg_sub (pe_fd (K := K) rfl (nv S 0)) (nv S 3) (o_set3 hU)))))
      (pss_one (ps_fd (K := K) rfl (nv S 0) (k_list rfl (K := K) rfl (Sg 0 rfl) n_list (pa_cons (nv S 2) pa_nil)))))), ?_⟩
    show (_ : TS) _ [some (.ref q), some (.ref lp), some (.ref ll), none, none, none] H
    simp only [sFld, tRet, tRetN, tCB, tCons, tNil, tSeq, tIfS, tAsg, gName, tV, x0, x1, x2, x3, tC, tOp, e_tst, e_isB, e_tru, e_truB, e_truI, e_truN, tSp, tDrop, tNext, tNot, tOr, tAnd, tIf, e_tup, e_lst, tCont, tBreak, tAug, tAugS, tAndV, tOrV, tNotV, tChain, e_dnew, gSub, ipI, tSl, tNoPart, tPart, tMk, ex_bl, ex_int, ex_int2, ex_some, e_eqI4, e_eqS4, e_neI3, e_neS3, e_i0, e_i2, e_addI, e_addS, e_addL4, e_mulI3, e_mulS, e_ix3S, e_ix3D, e_lenS, e_strI, e_intS, e_ival, e_for, e_comp, e_rg1, e_rg2, e_en, e_rg1I, e_rg2I, e_tMt, e_lm, e_lmR, e_app, e_ext, e_bmS, e_bmSS, e_split, e_part, e_sl2S, e_isi3T, e_gTup, e_gxT, e_get3D, e_set3D, gx1, tYes, frv, x4, x5, x6, x7, x8, Function.comp, if_true, x9, if_false]
    intro pd hpd
    refine ⟨q, C, dx, [], rfl, upd_at hq (ne_at hq hpd), cl.cl, cl.nP, by show 0 < 1000; decide, ?_⟩
    have nq : pd ≠ q := (ne_at hq hpd).symm
    have b0 : ∀ b o, b ≠ q → H b = some o → upd (upd H pd (.dK [])) q (.ins C dx (putF "parts" (.ref pd) [])) b = some o := fun b o hb e => by rw [upd_ne hb, upd_ne (ne_at e hpd)]; exact e
    have e1 : upd (upd H pd (.dK [])) q (.ins C dx (putF "parts" (.ref pd) [])) q = some (.ins C dx (putF "parts" (.ref pd) [])) := upd_same
    have e2 : upd (upd H pd (.dK [])) q (.ins C dx (putF "parts" (.ref pd) [])) pd = some (.dK []) := by rw [upd_ne nq]; exact upd_same
    generalize upd (upd H pd (.dK [])) q (.ins C dx (putF "parts" (.ref pd) [])) = H1 at b0 e1 e2
    have nlq : lp ≠ q := fun z => by subst z; rw [hp] at hq; cases hq
    have nllq : ll ≠ q := fun z => by subst z; rw [hl] at hq; cases hq
    refine for_L (xs := pv) (SqL.of (b0 _ _ nlq hp)) (fun i σ H' => (∀ b o, b ≠ q → H b = some o → H' b = some o) ∧ H' q = some (.ins C dx (putF "parts" (.ref pd) [])) ∧ (∃ kvs, H' pd = some (.dK kvs) ∧ kvs.map (·.1) = (pts.take i).map (fun p => (Sum.inr p.name : Key)) ∧ ∀ (j : Nat) p, j < i → pts[j]? = some p → ∃ t kp, kvs[j]? = some (Sum.inr p.name, .ref t) ∧ H' t = some (.tup [.ref kp, .int p.time]) ∧ KindAt c H' kp p.kd) ∧ ∃ o3 o4 o5, σ = [some (.ref q), some (.ref lp), some (.ref ll), o3, o4, o5]) ⟨b0, e1, ⟨[], e2, rfl, fun j p hj => absurd hj (Nat.not_lt_zero _)⟩, _, _, _, rfl⟩ (fun i σ H' hi h => SqL.of (h.1 _ _ nlq hp)) (fun i x σ H2 hi hx h => ?_) (fun σ H2 h => ?_)
    · obtain ⟨b2, q2, ⟨kvs, d2, ky, kv⟩, o3, o4, o5, rfl⟩ := h
      obtain ⟨p, hpi⟩ : ∃ p, pts[i]? = some p := ⟨_, List.getElem?_eq_getElem (by omega)⟩
      obtain ⟨t, kp, g1, g2, g3⟩ := hpt i p hpi
      rw [hx] at g1
      cases g1
      have ntq : t ≠ q := fun z => by subst z; rw [g2] at hq; cases hq
      simp only [tRet, tRetN, tCB, tCons, tNil, tSeq, tIfS, tAsg, gName, tV, x0, x1, x2, x3, tC, tOp, e_tst, e_isB, e_tru, e_truB, e_truI, e_truN, tSp, tDrop, tNext, tNot, tOr, tAnd, tIf, e_tup, e_lst, tCont, tBreak, tAug, tAugS, tAndV, tOrV, tNotV, tChain, e_dnew, gSub, ipI, tSl, tNoPart, tPart, tMk, ex_bl, ex_int, ex_int2, ex_some, e_eqI4, e_eqS4, e_neI3, e_neS3, e_i0, e_i2, e_addI, e_addS, e_addL4, e_mulI3, e_mulS, e_ix3S, e_ix3D, e_lenS, e_strI, e_intS, e_ival, e_for, e_comp, e_rg1, e_rg2, e_en, e_rg1I, e_rg2I, e_tMt, e_lm, e_lmR, e_app, e_ext, e_bmS, e_bmSS, e_split, e_part, e_sl2S, e_isi3T, e_gTup, e_gxT, e_get3D, e_set3D, gx1, tYes, frv, x4, x5, x6, x7, x8, Function.comp, if_true, x9, if_false]
      refine ⟨_, SqT.of (b2 _ _ ntq g2), rfl, ?_⟩
      simp only [e_gCons, e_gNil, gName, List.set_cons_zero, List.set_cons_succ]
      simp only [tRet, tRetN, tCB, tCons, tNil, tSeq, tIfS, tAsg, gName, tV, x0, x1, x2, x3, tC, tOp, e_tst, e_isB, e_tru, e_truB, e_truI, e_truN, tSp, tDrop, tNext, tNot, tOr, tAnd, tIf, e_tup, e_lst, tCont, tBreak, tAug, tAugS, tAndV, tOrV, tNotV, tChain, e_dnew, gSub, ipI, tSl, tNoPart, tPart, tMk, ex_bl, ex_int, ex_int2, ex_some, e_eqI4, e_eqS4, e_neI3, e_neS3, e_i0, e_i2, e_addI, e_addS, e_addL4, e_mulI3, e_mulS, e_ix3S, e_ix3D, e_lenS, e_strI, e_intS, e_ival, e_for, e_comp, e_rg1, e_rg2, e_en, e_rg1I, e_rg2I, e_tMt, e_lm, e_lmR, e_app, e_ext, e_bmS, e_bmSS, e_split, e_part, e_sl2S, e_isi3T, e_gTup, e_gxT, e_get3D, e_set3D, gx1, tYes, frv, x4, x5, x6, x7, x8, Function.comp, if_true, x9, if_false]
      refine ⟨by show 2 ≤ sizeLine; decide, fun t2 ht2 => ?_⟩
      simp only [e_fld, tV, List.getElem?_cons_zero, List.getElem?_cons_succ]
      refine ⟨q, C, dx, _, .ref pd, rfl, upd_at q2 (ne_at q2 ht2), cl.cl, cl.nP, by rw [lookup_putF, if_pos rfl], ?_⟩
      rw [e_set3D]
      have d3 : upd H2 t2 (.tup [.ref kp, .int p.time]) pd = some (.dK kvs) := upd_at d2 (ne_at d2 ht2)
      have klen : kvs.length = i := by
        have := congrArg List.length ky
        rw [List.length_map, List.length_map, List.length_take] at this
        omega
      refine ⟨kvs, d3, by rw [klen]; exact Nat.lt_of_lt_of_le (show i < 1000 by omega) (by decide), ?_⟩
      have nk : valV kvs (Sum.inr p.name) = none := by
        cases e : valV kvs (Sum.inr p.name) with
        | none => rfl
        | some v =>
          exfalso
          have hm := valV_in e
          rw [ky] at hm
          obtain ⟨p', hp', en⟩ := List.mem_map.mp hm
          have en : p'.name = p.name := Sum.inr.inj en
          obtain ⟨j, hj, ej⟩ := List.getElem_of_mem hp'
          rw [List.length_take] at hj
          rw [List.getElem_take] at ej
          have hi2 := (List.getElem?_eq_some_iff.mp hpi)
          obtain ⟨hi3, ei⟩ := hi2
          have : j = i := by
            refine (List.getElem_inj (xs := nms pts) (h₀ := by simp; omega) (h₁ := by simp; omega) nd).mp ?_
            simp only [List.getElem_map, ej, ei, en]
          omega
      rw [putK_app nk]
      have nqd : pd ≠ q := nq
      have keep : ∀ b o, b ≠ pd → H2 b = some o → upd (upd H2 t2 (.tup [.ref kp, .int p.time])) pd (.dK (kvs ++ [(Sum.inr p.name, .ref t2)])) b = some o := fun b o hb e => by rw [upd_ne hb, upd_ne (ne_at e ht2)]; exact e
      have ntd : t2 ≠ pd := fun z => by subst z; rw [ht2] at d2; cases d2
      have fx : Fix H2 (upd (upd H2 t2 (.tup [.ref kp, .int p.time])) pd (.dK (kvs ++ [(Sum.inr p.name, .ref t2)]))) := (same_new ht2).fix.trans (Fix.upd d3 rfl)
      refine ⟨fun b o hb e => ?_, keep _ _ nqd.symm q2, ⟨_, upd_same, ?_, fun j p' hj hp' => ?_⟩, _, _, _, rfl⟩
      · have e' := b2 b o hb e
        exact keep _ _ (ne_at e hpd) e'
      · rw [List.map_append, ky, List.take_add_one, hpi, List.map_append]
        rfl
      · rcases Nat.lt_or_ge j i with hji | hji
        · obtain ⟨t', kp', f1, f2, f3⟩ := kv j p' hji hp'
          refine ⟨t', kp', by rw [List.getElem?_append_left (by omega)]; exact f1, fx _ _ f2 rfl, f3.fix fx⟩
        · have : j = i := by omega
          subst this
          rw [hpi] at hp'
          cases hp'
          have kq : kp ≠ q := fun z => by obtain ⟨dk, g3⟩ := g3; subst z; rw [g3] at hq; injection hq with hq; injection hq with _ _ hq; exact flds_ne _ hq
          have g4 : KindAt c H2 kp p.kd := let ⟨dk, g⟩ := g3; ⟨dk, b2 _ _ kq g⟩
          exact ⟨t2, kp, by rw [List.getElem?_append_right (by omega), klen, Nat.sub_self]; rfl, by rw [upd_ne ntd]; exact upd_same, g4.fix fx⟩
    obtain ⟨b2, q2, ⟨kvs, d2, ky, kv⟩, o3, o4, o5, rfl⟩ := h
    simp only [sFld, tRet, tRetN, tCB, tCons, tNil, tSeq, tIfS, tAsg, gName, tV, x0, x1, x2, x3, tC, tOp, e_tst, e_isB, e_tru, e_truB, e_truI, e_truN, tSp, tDrop, tNext, tNot, tOr, tAnd, tIf, e_tup, e_lst, tCont, tBreak, tAug, tAugS, tAndV, tOrV, tNotV, tChain, e_dnew, gSub, ipI, tSl, tNoPart, tPart, tMk, ex_bl, ex_int, ex_int2, ex_some, e_eqI4, e_eqS4, e_neI3, e_neS3, e_i0, e_i2, e_addI, e_addS, e_addL4, e_mulI3, e_mulS, e_ix3S, e_ix3D, e_lenS, e_strI, e_intS, e_ival, e_for, e_comp, e_rg1, e_rg2, e_en, e_rg1I, e_rg2I, e_tMt, e_lm, e_lmR, e_app, e_ext, e_bmS, e_bmSS, e_split, e_part, e_sl2S, e_isi3T, e_gTup, e_gxT, e_get3D, e_set3D, gx1, tYes, frv, x4, x5, x6, x7, x8, Function.comp, if_true, x9, if_false]
    rw [e_list]
    refine .inl ⟨lv, .inl (SqL.of (b2 _ _ nllq hl)), fun l hl2 => ?_⟩
    refine ⟨q, C, dx, _, rfl, upd_at q2 (ne_at q2 hl2), cl.cl, cl.nJ, by show 1 < 1000; decide, ?_⟩
    have keep : ∀ b o, b ≠ q → H2 b = some o → upd (upd H2 l (.lst lv)) q (.ins C dx (putF "joints" (.ref l) (putF "parts" (.ref pd) []))) b = some o := fun b o hb e => by rw [upd_ne hb, upd_ne (ne_at e hl2)]; exact e
    have nlq : l ≠ q := fun z => by subst z; rw [hl2] at q2; cases q2
    refine k _ (fun b o hb e => keep _ _ hb (b2 b o hb e)) fun ls tl => ⟨dx, pd, l, kvs, lv, upd_same, keep _ _ nq d2, ?_, fun i p hpi => ?_, by rw [upd_ne nlq]; exact upd_same, ⟨tl.1, fun i row h => ?_⟩⟩
    · rw [ky, hpl, List.take_length]
    · obtain ⟨t, kp, f1, f2, f3⟩ := kv i p (by rw [hpl]; exact (List.getElem?_eq_some_iff.mp hpi).1) hpi
      have ntq : t ≠ q := fun z => by subst z; rw [q2] at f2; cases f2
      have kq : kp ≠ q := fun z => by obtain ⟨dk, g3⟩ := f3; subst z; rw [g3] at q2; injection q2 with q2; injection q2 with _ _ q2; exact flds_ne2 _ _ q2
      exact ⟨t, kp, f1, keep _ _ ntq f2, let ⟨dk, g⟩ := f3; ⟨dk, keep _ _ kq g⟩⟩
    · obtain ⟨p, f1, f2⟩ := tl.2 i row h
      have npq : p ≠ q := fun z => by subst z; rw [f2] at hq; cases hq
      exact ⟨p, f1, keep _ _ npq (b2 _ _ npq f2)⟩
abbrev s_Works_names : Stmt := inClass (top 34) 1
theorem sc_Works_names : FnSc ["self"] ["self"] ["list"] (defScope s_Works_names) := ⟨⟨rfl, rfl, rfl, by decide +kernel, rfl, by decide +kernel, by decide +kernel⟩, by decide +kernel, by decide +kernel, by decide +kernel⟩
theorem ok_Works_names {f : Addr} {fd : FuncData} (F : Fun K "names" "Works.names" s_Works_names f fd) (cl : WCls K cW) (n_list : mg "list" = none) : FnOk P w K mg base CX0 1 f fd ["self"] (spWNames c cW) := by
  refine F.ok sc_Works_names.S (fun vs H Q E h => ?_) (fun cdv A outer s H vs Q E hr h => ?_)
  · obtain ⟨q, pts, ls, rfl, _⟩ := h
    rfl
  · obtain ⟨q, pts, ls, rfl, hW, k⟩ := h
    have S := sc_Works_names.sx (CX := CX0) (P := P) (w := w) (K := K) (mg := mg) (base := base) (qual := "Works.names") (f := f) (cd := cdv) (A := A) (outer := outer) (s := s) (H := H) (E := E)
    have Sg := fun i {x} h => sc_Works_names.gx (CX := CX0) (P := P) (w := w) (K := K) (mg := mg) (base := base) (qual := "Works.names") (f := f) (cd := cdv) (A := A) (outer := outer) (s := s) (H := H) (E := E) i (x := x) h
    have hU := hr.units
    refine ⟨_, (pss_one (ps_ret (k_list rfl (K := K) rfl (Sg 0 rfl) n_list (pa_cons (pe_fd (K := K) rfl (nv S 0)) pa_nil)))), ?_⟩
    show (_ : TS) _ [some (.ref q)] H
    simp only [tRet, tRetN, tCB, tCons, tNil, tSeq, tIfS, tAsg, gName, tV, x0, x1, x2, x3, tC, tOp, e_tst, e_isB, e_tru, e_truB, e_truI, e_truN, tSp, tDrop, tNext, tNot, tOr, tAnd, tIf, e_tup, e_lst, tCont, tBreak, tAug, tAugS, tAndV, tOrV, tNotV, tChain, e_dnew, gSub, ipI, tSl, tNoPart, tPart, tMk, ex_bl, ex_int, ex_int2, ex_some, e_eqI4, e_eqS4, e_neI3, e_neS3, e_i0, e_i2, e_addI, e_addS, e_addL4, e_mulI3, e_mulS, e_ix3S, e_ix3D, e_lenS, e_strI, e_intS, e_ival, e_for, e_comp, e_rg1, e_rg2, e_en, e_rg1I, e_rg2I, e_tMt, e_lm, e_lmR, e_app, e_ext, e_bmS, e_bmSS, e_split, e_part, e_sl2S, e_isi3T, e_gTup, e_gxT, e_get3D, e_set3D, gx1, tYes, frv, x4, x5, x6, x7, x8, Function.comp, if_true, x9, if_false, e_fld]
    obtain ⟨dx, pd, pj, kvs, lv, h1, h2, h3, h4, h5, h6⟩ := hW
    refine ⟨q, _, dx, _, .ref pd, rfl, h1, cl.cl, cl.nP, wf_parts _ _, ?_⟩
    rw [e_list]
    refine .inr ⟨kvs, h2, fun l hl => ?_⟩
    have e : kvs.map (fun kv => kV kv.1) = (nms pts).map V.str := by
      have : kvs.map (fun kv => kV kv.1) = (kvs.map (·.1)).map kV := by rw [List.map_map]; rfl
      rw [this, h3, List.map_map, List.map_map]
      rfl
    rw [e]
    exact k l hl
abbrev s_Works_lines : Stmt := inClass (top 34) 4
theorem sc_Works_lines : FnSc ["self"] ["self"] ["list"] (defScope s_Works_lines) := ⟨⟨rfl, rfl, rfl, by decide +kernel, rfl, by decide +kernel, by decide +kernel⟩, by decide +kernel, by decide +kernel, by decide +kernel⟩
theorem ok_Works_lines {f : Addr} {fd : FuncData} (F : Fun K "lines" "Works.lines" s_Works_lines f fd) (cl : WCls K cW) (n_list : mg "list" = none) : FnOk P w K mg base CX0 1 f fd ["self"] (spWLines c cW) := by
  refine F.ok sc_Works_lines.S (fun vs H Q E h => ?_) (fun cdv A outer s H vs Q E hr h => ?_)
  · obtain ⟨q, pts, ls, rfl, _⟩ := h
    rfl
  · obtain ⟨q, pts, ls, rfl, hW, k⟩ := h
    have S := sc_Works_lines.sx (CX := CX0) (P := P) (w := w) (K := K) (mg := mg) (base := base) (qual := "Works.lines") (f := f) (cd := cdv) (A := A) (outer := outer) (s := s) (H := H) (E := E)
    have Sg := fun i {x} h => sc_Works_lines.gx (CX := CX0) (P := P) (w := w) (K := K) (mg := mg) (base := base) (qual := "Works.lines") (f := f) (cd := cdv) (A := A) (outer := outer) (s := s) (H := H) (E := E) i (x := x) h
    have hU := hr.units
    refine ⟨_, (pss_one (ps_ret (k_list rfl (K := K) rfl (Sg 0 rfl) n_list (pa_cons (pe_fd (K := K) rfl (nv S 0)) pa_nil)))), ?_⟩
    show (_ : TS) _ [some (.ref q)] H
    simp only [tRet, tRetN, tCB, tCons, tNil, tSeq, tIfS, tAsg, gName, tV, x0, x1, x2, x3, tC, tOp, e_tst, e_isB, e_tru, e_truB, e_truI, e_truN, tSp, tDrop, tNext, tNot, tOr, tAnd, tIf, e_tup, e_lst, tCont, tBreak, tAug, tAugS, tAndV, tOrV, tNotV, tChain, e_dnew, gSub, ipI, tSl, tNoPart, tPart, tMk, ex_bl, ex_int, ex_int2, ex_some, e_eqI4, e_eqS4, e_neI3, e_neS3, e_i0, e_i2, e_addI, e_addS, e_addL4, e_mulI3, e_mulS, e_ix3S, e_ix3D, e_lenS, e_strI, e_intS, e_ival, e_for, e_comp, e_rg1, e_rg2, e_en, e_rg1I, e_rg2I, e_tMt, e_lm, e_lmR, e_app, e_ext, e_bmS, e_bmSS, e_split, e_part, e_sl2S, e_isi3T, e_gTup, e_gxT, e_get3D, e_set3D, gx1, tYes, frv, x4, x5, x6, x7, x8, Function.comp, if_true, x9, if_false, e_fld]
    obtain ⟨dx, pd, pj, kvs, lv, h1, h2, h3, h4, h5, h6⟩ := hW
    refine ⟨q, _, dx, _, .ref pj, rfl, h1, cl.cl, cl.nJ, wf_joints _ _, ?_⟩
    rw [e_list]
    exact .inl ⟨lv, .inl (SqL.of h5), fun l hl => k lv h6 l hl⟩
abbrev s_Works_kind : Stmt := inClass (top 34) 2
theorem sc_Works_kind : FnSc ["self", "name"] ["self", "name"] [] (defScope s_Works_kind) := ⟨⟨rfl, rfl, rfl, by decide +kernel, rfl, by decide +kernel, by decide +kernel⟩, by decide +kernel, by decide +kernel, by decide +kernel⟩
theorem ok_Works_kind {f : Addr} {fd : FuncData} (F : Fun K "kind" "Works.kind" s_Works_kind f fd) (cl : WCls K cW) : FnOk P w K mg base CX0 1 f fd ["self", "name"] (spWKind c cW) := by
  refine F.ok sc_Works_kind.S (fun vs H Q E h => ?_) (fun cdv A outer s H vs Q E hr h => ?_)
  · obtain ⟨q, n, pts, ls, i, p, rfl, _⟩ := h
    rfl
  · obtain ⟨q, n, pts, ls, i, p, rfl, hW, nd, hi, hn, k⟩ := h
    have S := sc_Works_kind.sx (CX := CX0) (P := P) (w := w) (K := K) (mg := mg) (base := base) (qual := "Works.kind") (f := f) (cd := cdv) (A := A) (outer := outer) (s := s) (H := H) (E := E)
    have hU := hr.units
    refine ⟨_, (pss_one (ps_ret (pe_ix (o_ix3 (K := K) rfl hU) (pe_ix (o_ix3 (K := K) rfl hU) (pe_fd (K := K) rfl (nv S 0)) (nv S 1) (fun _ _ => rfl)) pe_int (fun _ _ => rfl)))), ?_⟩
    show (_ : TS) _ [some (.ref q), some (.str n)] H
    simp only [tRet, tRetN, tCB, tCons, tNil, tSeq, tIfS, tAsg, gName, tV, x0, x1, x2, x3, tC, tOp, e_tst, e_isB, e_tru, e_truB, e_truI, e_truN, tSp, tDrop, tNext, tNot, tOr, tAnd, tIf, e_tup, e_lst, tCont, tBreak, tAug, tAugS, tAndV, tOrV, tNotV, tChain, e_dnew, gSub, ipI, tSl, tNoPart, tPart, tMk, ex_bl, ex_int, ex_int2, ex_some, e_eqI4, e_eqS4, e_neI3, e_neS3, e_i0, e_i2, e_addI, e_addS, e_addL4, e_mulI3, e_mulS, e_ix3S, e_ix3D, e_lenS, e_strI, e_intS, e_ival, e_for, e_comp, e_rg1, e_rg2, e_en, e_rg1I, e_rg2I, e_tMt, e_lm, e_lmR, e_app, e_ext, e_bmS, e_bmSS, e_split, e_part, e_sl2S, e_isi3T, e_gTup, e_gxT, e_get3D, e_set3D, gx1, tYes, frv, x4, x5, x6, x7, x8, Function.comp, if_true, x9, if_false, e_fld]
    obtain ⟨dx, pd, pj, kvs, lv, h1, h2, h3, h4, h5, h6⟩ := hW
    obtain ⟨t, kp, f1, f2, f3⟩ := h4 i p hi
    refine ⟨q, _, dx, _, .ref pd, rfl, h1, cl.cl, cl.nP, wf_parts _ _, ?_⟩
    refine ⟨kvs, .ref t, h2, by rw [← hn]; exact valV_nth (keys_nd h3 nd) f1, ?_⟩
    refine ix_T f2 (atI_nat (j := 0) rfl) ?_
    exact k kp f3
abbrev s_Works_time : Stmt := inClass (top 34) 3
theorem sc_Works_time : FnSc ["self", "name"] ["self", "name"] [] (defScope s_Works_time) := ⟨⟨rfl, rfl, rfl, by decide +kernel, rfl, by decide +kernel, by decide +kernel⟩, by decide +kernel, by decide +kernel, by decide +kernel⟩
theorem ok_Works_time {f : Addr} {fd : FuncData} (F : Fun K "time" "Works.time" s_Works_time f fd) (cl : WCls K cW) : FnOk P w K mg base CX0 1 f fd ["self", "name"] (spWTime c cW) := by
  refine F.ok sc_Works_time.S (fun vs H Q E h => ?_) (fun cdv A outer s H vs Q E hr h => ?_)
  · obtain ⟨q, n, pts, ls, i, p, rfl, _⟩ := h
    rfl
  · obtain ⟨q, n, pts, ls, i, p, rfl, hW, nd, hi, hn, k⟩ := h
    have S := sc_Works_time.sx (CX := CX0) (P := P) (w := w) (K := K) (mg := mg) (base := base) (qual := "Works.time") (f := f) (cd := cdv) (A := A) (outer := outer) (s := s) (H := H) (E := E)
    have hU := hr.units
    refine ⟨_, (pss_one (ps_ret (pe_ix (o_ix3 (K := K) rfl hU) (pe_ix (o_ix3 (K := K) rfl hU) (pe_fd (K := K) rfl (nv S 0)) (nv S 1) (fun _ _ => rfl)) pe_int (fun _ _ => rfl)))), ?_⟩
    show (_ : TS) _ [some (.ref q), some (.str n)] H
    simp only [tRet, tRetN, tCB, tCons, tNil, tSeq, tIfS, tAsg, gName, tV, x0, x1, x2, x3, tC, tOp, e_tst, e_isB, e_tru, e_truB, e_truI, e_truN, tSp, tDrop, tNext, tNot, tOr, tAnd, tIf, e_tup, e_lst, tCont, tBreak, tAug, tAugS, tAndV, tOrV, tNotV, tChain, e_dnew, gSub, ipI, tSl, tNoPart, tPart, tMk, ex_bl, ex_int, ex_int2, ex_some, e_eqI4, e_eqS4, e_neI3, e_neS3, e_i0, e_i2, e_addI, e_addS, e_addL4, e_mulI3, e_mulS, e_ix3S, e_ix3D, e_lenS, e_strI, e_intS, e_ival, e_for, e_comp, e_rg1, e_rg2, e_en, e_rg1I, e_rg2I, e_tMt, e_lm, e_lmR, e_app, e_ext, e_bmS, e_bmSS, e_split, e_part, e_sl2S, e_isi3T, e_gTup, e_gxT, e_get3D, e_set3D, gx1, tYes, frv, x4, x5, x6, x7, x8, Function.comp, if_true, x9, if_false, e_fld]
    obtain ⟨dx, pd, pj, kvs, lv, h1, h2, h3, h4, h5, h6⟩ := hW
    obtain ⟨t, kp, f1, f2, f3⟩ := h4 i p hi
    refine ⟨q, _, dx, _, .ref pd, rfl, h1, cl.cl, cl.nP, wf_parts _ _, ?_⟩
    refine ⟨kvs, .ref t, h2, by rw [← hn]; exact valV_nth (keys_nd h3 nd) f1, ?_⟩
    refine ix_T f2 (atI_nat (j := 1) rfl) ?_
    exact k
end
end K2
end
section
set_option maxRecDepth 100000
set_option maxHeartbeats 4000000
set_option linter.all false
namespace K2
open PySem L2
seal L2.PE L2.PS L2.PSs L2.PT L2.PA L2.PG L2.PI L2.PW
theorem get_map {α β : Type} {f : α → β} {l : List α} {i : Nat} {b : β} (h : (l.map f)[i]? = some b) : ∃ a, l[i]? = some a ∧ b = f a := by
  rw [List.getElem?_map] at h
  cases e : l[i]? with
  | none => rw [e] at h; cases h
  | some a => rw [e] at h; cases h; exact ⟨a, rfl, rfl⟩
theorem take_get {α : Type} {l : List α} {i : Nat} {a : α} (h : l[i]? = some a) : l.take (i + 1) = l.take i ++ [a] := by
  rw [List.take_add_one, h]; rfl
theorem drop_get {α : Type} {l : List α} {i : Nat} {a : α} (h : l[i]? = some a) : l.drop i = a :: l.drop (i + 1) := by
  obtain ⟨hi, e⟩ := List.getElem?_eq_some_iff.mp h
  rw [← e, List.getElem_cons_drop]
theorem len_L {K : PySem.W.Frag} {H : Hp} {Q : VK} {a : Addr} {xs : List V} (h : H a = some (.lst xs)) (q : Q (.int xs.length) H) : rLen K [.ref a] H Q := .inl ⟨xs, .inl (SqL.of h), q⟩
theorem small_size {n : Nat} (h : n ≤ 1000000) : n ≤ sizeLine := Nat.le_trans h (by decide)
theorem small_lt {n : Nat} (h : n < 1000000) : n < sizeLine := Nat.lt_of_lt_of_le h (by decide)
abbrev M_names (P : Program) (w : World) (K : PySem.W.Frag) (mg : Str → Option Value) (base : Heap) : Addr → Sp → Prop := fun C sp => Mth P w K mg base 1 C "names" sp
abbrev M_lines (P : Program) (w : World) (K : PySem.W.Frag) (mg : Str → Option Value) (base : Heap) : Addr → Sp → Prop := fun C sp => Mth P w K mg base 1 C "lines" sp
abbrev M_kind (P : Program) (w : World) (K : PySem.W.Frag) (mg : Str → Option Value) (base : Heap) : Addr → Sp → Prop := fun C sp => Mth P w K mg base 1 C "kind" sp
abbrev M_time (P : Program) (w : World) (K : PySem.W.Frag) (mg : Str → Option Value) (base : Heap) : Addr → Sp → Prop := fun C sp => Mth P w K mg base 1 C "time" sp
abbrev M_word (P : Program) (w : World) (K : PySem.W.Frag) (mg : Str → Option Value) (base : Heap) : Addr → Sp → Prop := fun C sp => Mth P w K mg base 1 C "word" sp
abbrev M_made (P : Program) (w : World) (K : PySem.W.Frag) (mg : Str → Option Value) (base : Heap) : Addr → Sp → Prop := fun C sp => Mth P w K mg base 1 C "made" sp
theorem mt_names {P : Program} {w : World} {K : PySem.W.Frag} {mg : Str → Option Value} {base : Heap} {c : Cs} {cW q : Addr} {pts : List PK} {ls : List Ln} {σ : St} {H : Hp} {Q : VK} (W : WorksAt c cW H q pts ls) (M : M_names P w K mg base cW (spWNames c cW))
    (k : ∀ l H', Same H H' → H l = none → H' l = some (.lst ((nms pts).map V.str)) → Q (.ref l) H') : mtR (M_names P w K mg base) "names" tNil (.ref q) σ H Q := by
  have W' := W
  obtain ⟨dx, pd, pj, kvs, lv, h1, _⟩ := W
  exact ⟨cW, dx, _, _, h1, wf_no _ _ (by decide +kernel) (by decide +kernel), M, q, pts, ls, rfl, W', alloc' (Q := Q) k⟩
theorem mt_lines {P : Program} {w : World} {K : PySem.W.Frag} {mg : Str → Option Value} {base : Heap} {c : Cs} {cW q : Addr} {pts : List PK} {ls : List Ln} {σ : St} {H : Hp} {Q : VK} (W : WorksAt c cW H q pts ls) (M : M_lines P w K mg base cW (spWLines c cW))
    (k : ∀ l lv H', Same H H' → H l = none → H' l = some (.lst lv) → Tups H' lv (ls.map lrow) → Q (.ref l) H') : mtR (M_lines P w K mg base) "lines" tNil (.ref q) σ H Q := by
  have W' := W
  obtain ⟨dx, pd, pj, kvs, lv, h1, _⟩ := W
  exact ⟨cW, dx, _, _, h1, wf_no _ _ (by decide +kernel) (by decide +kernel), M, q, pts, ls, rfl, W', fun lv t => alloc' (Q := Q) fun l H' s n g => k l lv H' s n g (t.fix s.fix)⟩
theorem mt_kind {P : Program} {w : World} {K : PySem.W.Frag} {mg : Str → Option Value} {base : Heap} {c : Cs} {cW q : Addr} {pts : List PK} {ls : List Ln} {σ : St} {H : Hp} {Q : VK} {t : TA} (W : WorksAt c cW H q pts ls) (M : M_kind P w K mg base cW (spWKind c cW))
    (k : t σ H fun vs H2 => spWKind c cW (.ref q :: vs) H2 Q E0) : mtR (M_kind P w K mg base) "kind" t (.ref q) σ H Q := by
  obtain ⟨dx, pd, pj, kvs, lv, h1, _⟩ := W
  exact ⟨cW, dx, _, _, h1, wf_no _ _ (by decide +kernel) (by decide +kernel), M, k⟩
theorem mt_time {P : Program} {w : World} {K : PySem.W.Frag} {mg : Str → Option Value} {base : Heap} {c : Cs} {cW q : Addr} {pts : List PK} {ls : List Ln} {σ : St} {H : Hp} {Q : VK} {t : TA} (W : WorksAt c cW H q pts ls) (M : M_time P w K mg base cW (spWTime c cW))
    (k : t σ H fun vs H2 => spWTime c cW (.ref q :: vs) H2 Q E0) : mtR (M_time P w K mg base) "time" t (.ref q) σ H Q := by
  obtain ⟨dx, pd, pj, kvs, lv, h1, _⟩ := W
  exact ⟨cW, dx, _, _, h1, wf_no _ _ (by decide +kernel) (by decide +kernel), M, k⟩
open TX
def dir (ls : List Ln) : List (Str × Str) := (ls.filter fun l => decide (l.2.2 = 0)).map fun l => (l.1, l.2.1)
def drow (d : Str × Str) : List V := [.str d.1, .str d.2]
theorem dir_snoc (ls : List Ln) (l : Ln) : dir (ls ++ [l]) = dir ls ++ if l.2.2 = 0 then [(l.1, l.2.1)] else [] := by
  unfold dir
  rw [List.filter_append, List.map_append]
  congr 1
  by_cases h : l.2.2 = 0
  · simp [h]
  · simp [h]
theorem dir_mem {ls : List Ln} {d : Str × Str} (h : d ∈ dir ls) : ∃ l ∈ ls, l.2.2 = 0 ∧ d = (l.1, l.2.1) := by
  obtain ⟨l, hl, e⟩ := List.mem_map.mp h
  rw [List.mem_filter] at hl
  exact ⟨l, hl.1, of_decide_eq_true hl.2, e.symm⟩
def spSettled (c : Cs) (cW : Addr) : Sp := fun vs H Q _ => ∃ (q : Addr) (pts : List PK) (ls : List Ln), vs = [.ref q] ∧ WorksAt c cW H q pts ls ∧ (nms pts).Nodup ∧ pts.length ≤ 1000 ∧ ls.length ≤ 10000 ∧ (∀ l ∈ ls, l.2.1 ∈ nms pts) ∧
  ∀ p order H', Same H H' → H p = none → H' p = some (.lst (order.map V.str)) → KO (nms pts) (dir ls) order order.length → Q (.ref p) H'
def DVals (kvs : List (Key × V)) (pts : List PK) (f : Str → Nat) : Prop := kvs.map (·.1) = (nms pts).map (fun n => (Sum.inr n : Key)) ∧ ∀ n ∈ nms pts, valV kvs (Sum.inr n) = some (.int (f n))
theorem DVals.len {kvs : List (Key × V)} {pts : List PK} {f : Str → Nat} (h : DVals kvs pts f) : kvs.length = pts.length := by
  have := congrArg List.length h.1
  rw [List.length_map, List.length_map, List.length_map] at this
  exact this
theorem DVals.put {kvs : List (Key × V)} {pts : List PK} {f g : Str → Nat} {n : Str} {z : Int} (h : DVals kvs pts f) (hn : n ∈ nms pts) (hz : z = (g n : Int)) (ho : ∀ m, m ≠ n → g m = f m) : DVals (putK kvs (Sum.inr n) (.int z)) pts g := by
  refine ⟨(putK_keys (h.2 n hn)).trans h.1, fun m hm => ?_⟩
  rw [valV_put]
  by_cases e : m = n
  · subst e; rw [if_pos rfl, hz]
  · rw [if_neg (fun z => e (Sum.inr.inj z)), ho m e]; exact h.2 m hm
def SInv (q pd pw po : Addr) (pts : List PK) (ls : List Ln) (H3 : Hp) (passed : Nat) : St → Hp → Prop := fun σ H' => ∃ order kvs o3 o4 o5, Same H3 H' ∧ H' pw = some (.dK kvs) ∧ DVals kvs pts (lf (order.take passed) (dir ls)) ∧ H' po = some (.lst (order.map V.str)) ∧ KO (nms pts) (dir ls) order passed ∧
  σ = [some (.ref q), some (.ref pd), some (.ref pw), o3, o4, o5, some (.ref po), some (.int (passed : Nat))]
section
variable {P : Program} {w : World} {K : PySem.W.Frag} {mg : Str → Option Value} {base : Heap} {c : Cs} {cW : Addr}
abbrev s_settled : Stmt := top 35
theorem sc_settled : FnSc ["works", "direct", "waits", "name", "start", "end", "order", "passed"] ["works"] ["len"] (defScope s_settled) := ⟨⟨rfl, rfl, rfl, by decide +kernel, rfl, by decide +kernel, by decide +kernel⟩, by decide +kernel, by decide +kernel, by decide +kernel⟩
theorem cs_settled_0 : CompSc ["name"] ["waits"] (scopeOf (kidS (bodyAt (top 35) 4) 0)) (defScope s_settled) := ⟨rfl, by decide +kernel, by decide +kernel, by decide +kernel, by decide +kernel, by decide +kernel, by decide +kernel⟩
theorem cn_settled_0 : ∀ x ∈ ((["name"] : List Str) ++ (["waits"] : List Str)), (x == ("__debug__" : Str)) = false ∧ (x == ("__classdict__" : Str)) = false := by decide +kernel
theorem cs_settled_1 : CompSc ["start", "end", "stores"] [] (scopeOf (kidS (bodyAt (top 35) 0) 0)) (defScope s_settled) := ⟨rfl, by decide +kernel, by decide +kernel, by decide +kernel, by decide +kernel, by decide +kernel, by decide +kernel⟩
theorem cn_settled_1 : ∀ x ∈ ((["start", "end", "stores"] : List Str) ++ ([] : List Str)), (x == ("__debug__" : Str)) = false ∧ (x == ("__classdict__" : Str)) = false := by decide +kernel
theorem ok_settled {f : Addr} {fd : FuncData} (F : Fun K "settled" "settled" s_settled f fd) (mN : M_names P w K mg base cW (spWNames c cW)) (mL : M_lines P w K mg base cW (spWLines c cW)) (n_len : mg "len" = none) : FnOk P w K mg base CX0 2 f fd ["works"] (spSettled c cW) := by
  refine F.ok sc_settled.S (fun vs H Q E h => ?_) (fun cdv A outer s H vs Q E hr h => ?_)
  · obtain ⟨q, pts, ls, rfl, _⟩ := h
    rfl
  · obtain ⟨q, pts, ls, rfl, hW, nd, hpts, hls, hend, k⟩ := h
    have S := sc_settled.sx (CX := CX0) (P := P) (w := w) (K := K) (mg := mg) (base := base) (qual := "settled") (f := f) (cd := cdv) (A := A) (outer := outer) (s := s) (H := H) (E := E)
    have Sg := fun i {x} h => sc_settled.gx (CX := CX0) (P := P) (w := w) (K := K) (mg := mg) (base := base) (qual := "settled") (f := f) (cd := cdv) (A := A) (outer := outer) (s := s) (H := H) (E := E) i (x := x) h
    have hU := hr.units
    have S0 : CompSc ["name"] ["waits"] (scopeOf (kidS (bodyAt (top 35) 4) 0)) (cxOf CX0 P w K mg base ["works", "direct", "waits", "name", "start", "end", "order", "passed"] "settled" (defScope s_settled) f cdv A outer s H E).nox.env.scope := cs_settled_0
    have K0 := fun C s₀ H₀ ex => S0.sx (C := C) (s₀ := s₀) (H₀ := H₀) (ex := ex) rfl cn_settled_0
    have S1 : CompSc ["start", "end", "stores"] [] (scopeOf (kidS (bodyAt (top 35) 0) 0)) (cxOf CX0 P w K mg base ["works", "direct", "waits", "name", "start", "end", "order", "passed"] "settled" (defScope s_settled) f cdv A outer s H E).nox.env.scope := cs_settled_1
    have K1 := fun C s₀ H₀ ex => S1.sx (C := C) (s₀ := s₀) (H₀ := H₀) (ex := ex) rfl cn_settled_1
    refine ⟨_, (pss_cons (ps_cp S 1 S1 (js := []) rfl rfl (i_val (K := K) rfl (m_call0 1 (hr.mono (by decide)) (MS := M_lines P w K mg base) (fun _ _ h => h) (nv S 0))) (pg3 (K := K) rfl rfl S1) (fun C s₀ H₀ ex => (pts_one (pt_of (o_eq4 (K := K) rfl hU) (nv (K1 C s₀ H₀ ex) 2) pe_int))) (fun C s₀ H₀ ex => (pe_tup (pa_cons (nv (K1 C s₀ H₀ ex) 0) (pa_cons (nv (K1 C s₀ H₀ ex) 1) pa_nil)))))
      (pss_cons (ps_st S 2 pe_dnewK)
      (pss_cons (ps_for PassesOwn.never rfl (i_val (K := K) rfl (m_call0 1 (hr.mono (by decide)) (MS := M_names P w K mg base) (fun _ _ h => h) (nv S 0))) (pn S 3) (pss_one (ps_asg pe_int (pg_sub (nv S 2) (nv S 3) (o_set3 hU)))))
      (pss_cons (ps_for PassesOwn.never rfl (i_val (K := K) rfl (nv S 1)) (pg_tup rfl (pgs_cons (pn S 4) (pgs_cons (pn S 5) pgs_nil))) (pss_one (ps_augS (nv S 2) (nv S 5) (o_get3 hU) pe_int ip_add (o_set3 hU))))
      (pss_cons (ps_cp S 6 S0 (js := [2]) rfl rfl (i_val (K := K) rfl (m_call0 1 (hr.mono (by decide)) (MS := M_names P w K mg base) (fun _ _ h => h) (nv S 0))) (pg1 S0) (fun C s₀ H₀ ex => (pts_one (pt_of (o_eq4 (K := K) rfl hU) (pe_ix (o_ix3 (K := K) rfl hU) (nv (K0 C s₀ H₀ ex) 1) (nv (K0 C s₀ H₀ ex) 0) (fun _ _ => rfl)) pe_int))) (fun C s₀ H₀ ex => (nv (K0 C s₀ H₀ ex) 0)))
      (pss_cons (ps_st S 7 pe_int)
      (pss_cons (ps_while PassesOwn.never (pt_of o_lt (nv S 7) (k_len (K := K) rfl (Sg 0 rfl) n_len (pa_cons (nv S 6) pa_nil))) (pss_cons (ps_for PassesOwn.never rfl (i_val (K := K) rfl (nv S 1)) (pg_tup rfl (pgs_cons (pn S 4) (pgs_cons (pn S 5) pgs_nil))) (pss_one (ps_if (pt_of (o_eq4 (K := K) rfl hU) (nv S 4) (pe_ix (o_ix3 (K := K) rfl hU) (nv S 6) (nv S 7) (fun _ _ => rfl))) (pss_cons (ps_augS (nv S 2) (nv S 5) (o_get3 hU) pe_int ip_sub (o_set3 hU))
      (pss_one (ps_if (pt_of (o_eq4 (K := K) rfl hU) (pe_ix (o_ix3 (K := K) rfl hU) (nv S 2) (nv S 5) (fun _ _ => rfl)) pe_int) (pss_one (ps_expr (m_append (K := K) rfl (nv S 6) (pa_cons (nv S 5) pa_nil)))) pss_nil))) pss_nil)))
      (pss_one (ps_au S 7 pe_int ip_add))))
      (pss_one (ps_ret (nv S 6)))))))))), ?_⟩
    show (_ : TS) _ [some (.ref q), none, none, none, none, none, none, none] H
    simp only [tRet, tRetN, tCB, tCons, tNil, tSeq, tIfS, tAsg, gName, tV, x0, x1, x2, x3, tC, tOp, e_tst, e_isB, e_tru, e_truB, e_truI, e_truN, tSp, tDrop, tNext, tNot, tOr, tAnd, tIf, e_tup, e_lst, tCont, tBreak, tAug, tAugS, tAndV, tOrV, tNotV, tChain, e_dnew, gSub, ipI, tSl, tNoPart, tPart, tMk, ex_bl, ex_int, ex_int2, ex_some, e_eqI4, e_eqS4, e_neI3, e_neS3, e_i0, e_i2, e_addI, e_addS, e_addL4, e_mulI3, e_mulS, e_ix3S, e_ix3D, e_lenS, e_strI, e_intS, e_ival, e_for, e_comp, e_rg1, e_rg2, e_en, e_rg1I, e_rg2I, e_tMt, e_lm, e_lmR, e_app, e_ext, e_bmS, e_bmSS, e_split, e_part, e_sl2S, e_isi3T, e_gTup, e_gxT, e_get3D, e_set3D, gx1, tYes, frv, x4, x5, x6, x7, x8, Function.comp, if_true, x9, if_false]
    refine mt_lines hW mL fun l1 lv H1 s1 n1 g1 t1 => ?_
    have lvl : lv.length = ls.length := by rw [t1.1, List.length_map]
    refine comp_L (xs := lv) (SqL.of g1) (fun i ys H' => Same H1 H' ∧ ys.length ≤ i ∧ Tups H' ys ((dir (ls.take i)).map drow)) ⟨Same.rfl', Nat.le_refl _, Tups.nil⟩ (small_size (by omega)) (fun i ys H' hi h => h.2.1) (fun i ys H' hi h => SqL.of (h.1 _ _ g1)) (fun i x ys H2 hi hx h => ?_) (fun ys H2 h => ?_)
    · obtain ⟨s2, yl, ty⟩ := h
      obtain ⟨p, row, rfl, hr, hp⟩ := (t1.fix s2.fix).at hx
      obtain ⟨l, hl, rfl⟩ := get_map hr
      rw [e_gxT]
      refine ⟨_, SqT.of hp, rfl, ?_⟩
      simp only [lrow, tRet, tRetN, tCB, tCons, tNil, tSeq, tIfS, tAsg, gName, tV, x0, x1, x2, x3, tC, tOp, e_tst, e_isB, e_tru, e_truB, e_truI, e_truN, tSp, tDrop, tNext, tNot, tOr, tAnd, tIf, e_tup, e_lst, tCont, tBreak, tAug, tAugS, tAndV, tOrV, tNotV, tChain, e_dnew, gSub, ipI, tSl, tNoPart, tPart, tMk, ex_bl, ex_int, ex_int2, ex_some, e_eqI4, e_eqS4, e_neI3, e_neS3, e_i0, e_i2, e_addI, e_addS, e_addL4, e_mulI3, e_mulS, e_ix3S, e_ix3D, e_lenS, e_strI, e_intS, e_ival, e_for, e_comp, e_rg1, e_rg2, e_en, e_rg1I, e_rg2I, e_tMt, e_lm, e_lmR, e_app, e_ext, e_bmS, e_bmSS, e_split, e_part, e_sl2S, e_isi3T, e_gTup, e_gxT, e_get3D, e_set3D, gx1, tYes, frv, x4, x5, x6, x7, x8, Function.comp, if_true, x9, if_false]
      rw [take_get hl, dir_snoc]
      refine ite2 (fun h0 => ?_) (fun h0 => ?_)
      · have h0 := of_decide_eq_true h0
        refine ⟨by show 2 ≤ sizeLine; decide, alloc fun t H3 s3 n3 g3 => ?_⟩
        refine ⟨s2.trans s3, by rw [List.length_append]; exact Nat.succ_le_succ yl, ?_⟩
        rw [if_pos h0, List.map_append]
        exact (ty.fix s3.fix).snoc g3
      · have h0 := of_decide_eq_false (Bool.eq_false_iff.mpr h0)
        rw [if_neg h0, List.append_nil]
        exact ⟨s2, Nat.le_succ_of_le yl, ty⟩
    obtain ⟨s2, yl, ty⟩ := h
    rw [lvl, List.take_length] at ty
    refine alloc fun pd H3 s3 n3 g3 => ?_
    have s03 : Same H H3 := (s1.trans s2).trans s3
    have td := ty.fix s3.fix
    refine alloc (o := .dK []) fun pw H4 s4 n4 g4 => ?_
    refine mt_names (hW.mono (s03.trans s4)) mN fun l2 H5 s5 n5 g5 => ?_
    refine for_L (xs := (nms pts).map V.str) (SqL.of g5) (fun i σ H' => Same H3 H' ∧ H' l2 = some (.lst ((nms pts).map V.str)) ∧ (∃ kvs, H' pw = some (.dK kvs) ∧ kvs.map (·.1) = ((nms pts).take i).map (fun n => (Sum.inr n : Key)) ∧ ∀ n ∈ (nms pts).take i, valV kvs (Sum.inr n) = some (.int 0)) ∧ ∃ o3, σ = [some (.ref q), some (.ref pd), some (.ref pw), o3, none, none, none, none]) ⟨s4.trans s5, g5, ⟨[], s5 _ _ g4, rfl, fun n hn => by simp at hn⟩, _, rfl⟩ (fun i σ H' hi h => SqL.of h.2.1) (fun i x σ H6 hi hx h => ?_) (fun σ H6 h => ?_)
    · obtain ⟨s6, g6, ⟨kvs, d6, ky, kv⟩, o3, rfl⟩ := h
      obtain ⟨n, hn, rfl⟩ := get_map hx
      simp only [tRet, tRetN, tCB, tCons, tNil, tSeq, tIfS, tAsg, gName, tV, x0, x1, x2, x3, tC, tOp, e_tst, e_isB, e_tru, e_truB, e_truI, e_truN, tSp, tDrop, tNext, tNot, tOr, tAnd, tIf, e_tup, e_lst, tCont, tBreak, tAug, tAugS, tAndV, tOrV, tNotV, tChain, e_dnew, gSub, ipI, tSl, tNoPart, tPart, tMk, ex_bl, ex_int, ex_int2, ex_some, e_eqI4, e_eqS4, e_neI3, e_neS3, e_i0, e_i2, e_addI, e_addS, e_addL4, e_mulI3, e_mulS, e_ix3S, e_ix3D, e_lenS, e_strI, e_intS, e_ival, e_for, e_comp, e_rg1, e_rg2, e_en, e_rg1I, e_rg2I, e_tMt, e_lm, e_lmR, e_app, e_ext, e_bmS, e_bmSS, e_split, e_part, e_sl2S, e_isi3T, e_gTup, e_gxT, e_get3D, e_set3D, gx1, tYes, frv, x4, x5, x6, x7, x8, Function.comp, if_true, x9, if_false]
      have klen : kvs.length = i := by
        have := congrArg List.length ky
        rw [List.length_map, List.length_map, List.length_take] at this
        rw [List.length_map] at hi
        omega
      refine ⟨kvs, d6, by rw [klen]; rw [List.length_map, List.length_map] at hi; exact small_lt (by omega), ?_⟩
      have nk : valV kvs (Sum.inr n) = none := by
        cases e : valV kvs (Sum.inr n) with
        | none => rfl
        | some v =>
          exfalso
          have hm := valV_in e
          rw [ky] at hm
          obtain ⟨n', hn', en⟩ := List.mem_map.mp hm
          have en : n' = n := Sum.inr.inj en
          subst en
          have nd' := nd
          rw [← List.take_append_drop i (nms pts), drop_get hn, List.nodup_append] at nd'
          exact nd'.2.2 n' hn' n' (by simp) rfl
      rw [putK_app nk]
      refine ⟨s6.upd_free n4, upd_keep d6 g6 (by intro z; cases z), ⟨_, upd_same, ?_, fun m hm => ?_⟩, _, rfl⟩
      · rw [List.map_append, ky, take_get hn, List.map_append]
        rfl
      · rw [valV_snoc _ _ _ _ nk]
        by_cases e : m = n
        · subst e; rw [if_pos rfl]
        · rw [if_neg (fun z => e (Sum.inr.inj z))]
          rw [take_get hn] at hm
          rcases List.mem_append.mp hm with hm | hm
          · exact kv m hm
          · exact absurd (List.mem_singleton.mp hm) e
    obtain ⟨s6, g6, ⟨kvs, d6, ky, kv⟩, o3, rfl⟩ := h
    rw [List.length_map, List.take_of_length_le (Nat.le_refl _)] at ky kv
    have dv6 : DVals kvs pts (lf [] ((dir ls).take 0)) := ⟨ky, kv⟩
    simp only [tRet, tRetN, tCB, tCons, tNil, tSeq, tIfS, tAsg, gName, tV, x0, x1, x2, x3, tC, tOp, e_tst, e_isB, e_tru, e_truB, e_truI, e_truN, tSp, tDrop, tNext, tNot, tOr, tAnd, tIf, e_tup, e_lst, tCont, tBreak, tAug, tAugS, tAndV, tOrV, tNotV, tChain, e_dnew, gSub, ipI, tSl, tNoPart, tPart, tMk, ex_bl, ex_int, ex_int2, ex_some, e_eqI4, e_eqS4, e_neI3, e_neS3, e_i0, e_i2, e_addI, e_addS, e_addL4, e_mulI3, e_mulS, e_ix3S, e_ix3D, e_lenS, e_strI, e_intS, e_ival, e_for, e_comp, e_rg1, e_rg2, e_en, e_rg1I, e_rg2I, e_tMt, e_lm, e_lmR, e_app, e_ext, e_bmS, e_bmSS, e_split, e_part, e_sl2S, e_isi3T, e_gTup, e_gxT, e_get3D, e_set3D, gx1, tYes, frv, x4, x5, x6, x7, x8, Function.comp, if_true, x9, if_false]
    have ysl : ys.length = (dir ls).length := by rw [td.1, List.length_map]
    refine for_L (xs := ys) (SqL.of (s6 _ _ g3)) (fun i σ H' => Same H3 H' ∧ (∃ kvs, H' pw = some (.dK kvs) ∧ DVals kvs pts (lf [] ((dir ls).take i))) ∧ ∃ o3 o4 o5, σ = [some (.ref q), some (.ref pd), some (.ref pw), o3, o4, o5, none, none]) ⟨s6, ⟨kvs, d6, dv6⟩, _, _, _, rfl⟩ (fun i σ H' hi h => SqL.of (h.1 _ _ g3)) (fun i x σ H7 hi hx h => ?_) (fun σ H7 h => ?_)
    · obtain ⟨s7, ⟨kvs, d7, dv7⟩, o3, o4, o5, rfl⟩ := h
      obtain ⟨p, row, rfl, hr, hp⟩ := (td.fix s7.fix).at hx
      obtain ⟨d, hd, rfl⟩ := get_map hr
      rw [e_gTup]
      refine ⟨_, SqT.of hp, rfl, ?_⟩
      simp only [drow, e_gCons, e_gNil, tRet, tRetN, tCB, tCons, tNil, tSeq, tIfS, tAsg, gName, tV, x0, x1, x2, x3, tC, tOp, e_tst, e_isB, e_tru, e_truB, e_truI, e_truN, tSp, tDrop, tNext, tNot, tOr, tAnd, tIf, e_tup, e_lst, tCont, tBreak, tAug, tAugS, tAndV, tOrV, tNotV, tChain, e_dnew, gSub, ipI, tSl, tNoPart, tPart, tMk, ex_bl, ex_int, ex_int2, ex_some, e_eqI4, e_eqS4, e_neI3, e_neS3, e_i0, e_i2, e_addI, e_addS, e_addL4, e_mulI3, e_mulS, e_ix3S, e_ix3D, e_lenS, e_strI, e_intS, e_ival, e_for, e_comp, e_rg1, e_rg2, e_en, e_rg1I, e_rg2I, e_tMt, e_lm, e_lmR, e_app, e_ext, e_bmS, e_bmSS, e_split, e_part, e_sl2S, e_isi3T, e_gTup, e_gxT, e_get3D, e_set3D, gx1, tYes, frv, x4, x5, x6, x7, x8, Function.comp, if_true, x9, if_false]
      obtain ⟨l, hl, l0, rfl⟩ := dir_mem (List.mem_of_getElem? hd)
      have hm : l.2.1 ∈ nms pts := hend l hl
      refine ⟨kvs, _, d7, dv7.2 _ hm, ?_⟩
      simp only [tRet, tRetN, tCB, tCons, tNil, tSeq, tIfS, tAsg, gName, tV, x0, x1, x2, x3, tC, tOp, e_tst, e_isB, e_tru, e_truB, e_truI, e_truN, tSp, tDrop, tNext, tNot, tOr, tAnd, tIf, e_tup, e_lst, tCont, tBreak, tAug, tAugS, tAndV, tOrV, tNotV, tChain, e_dnew, gSub, ipI, tSl, tNoPart, tPart, tMk, ex_bl, ex_int, ex_int2, ex_some, e_eqI4, e_eqS4, e_neI3, e_neS3, e_i0, e_i2, e_addI, e_addS, e_addL4, e_mulI3, e_mulS, e_ix3S, e_ix3D, e_lenS, e_strI, e_intS, e_ival, e_for, e_comp, e_rg1, e_rg2, e_en, e_rg1I, e_rg2I, e_tMt, e_lm, e_lmR, e_app, e_ext, e_bmS, e_bmSS, e_split, e_part, e_sl2S, e_isi3T, e_gTup, e_gxT, e_get3D, e_set3D, gx1, tYes, frv, x4, x5, x6, x7, x8, Function.comp, if_true, x9, if_false]
      refine ⟨kvs, d7, by rw [dv7.len]; exact small_lt (by omega), ?_⟩
      refine ⟨s7.upd_free n4, ⟨_, upd_same, dv7.put hm ?_ fun m hne => ?_⟩, _, _, _, rfl⟩
      · rw [take_get hd, lf_app, lf_one, if_pos ⟨rfl, by simp⟩]
        simp
      · rw [take_get hd, lf_app, lf_one, if_neg (fun z => hne z.1.symm), Nat.add_zero]
    obtain ⟨s7, ⟨kvs, d7, dv7⟩, o3, o4, o5, rfl⟩ := h
    rw [ysl, List.take_length] at dv7
    simp only [tRet, tRetN, tCB, tCons, tNil, tSeq, tIfS, tAsg, gName, tV, x0, x1, x2, x3, tC, tOp, e_tst, e_isB, e_tru, e_truB, e_truI, e_truN, tSp, tDrop, tNext, tNot, tOr, tAnd, tIf, e_tup, e_lst, tCont, tBreak, tAug, tAugS, tAndV, tOrV, tNotV, tChain, e_dnew, gSub, ipI, tSl, tNoPart, tPart, tMk, ex_bl, ex_int, ex_int2, ex_some, e_eqI4, e_eqS4, e_neI3, e_neS3, e_i0, e_i2, e_addI, e_addS, e_addL4, e_mulI3, e_mulS, e_ix3S, e_ix3D, e_lenS, e_strI, e_intS, e_ival, e_for, e_comp, e_rg1, e_rg2, e_en, e_rg1I, e_rg2I, e_tMt, e_lm, e_lmR, e_app, e_ext, e_bmS, e_bmSS, e_split, e_part, e_sl2S, e_isi3T, e_gTup, e_gxT, e_get3D, e_set3D, gx1, tYes, frv, x4, x5, x6, x7, x8, Function.comp, if_true, x9, if_false]
    refine mt_names (hW.mono (s03.trans s7)) mN fun l3 H8 s8 n8 g8 => ?_
    have d8 := s8 _ _ d7
    refine comp_L (xs := (nms pts).map V.str) (SqL.of g8) (fun i ys H' => H' = H8 ∧ ys = (((nms pts).take i).filter fun n => decide (lf [] (dir ls) n = 0)).map V.str) ⟨rfl, rfl⟩ (by rw [List.length_map, List.length_map]; exact small_size (by omega)) (fun i ys H' hi h => ?_) (fun i ys H' hi h => by rw [h.1]; exact SqL.of g8) (fun i x ys H9 hi hx h => ?_) (fun ys H9 h => ?_)
    · rw [h.2, List.length_map]
      exact Nat.le_trans (List.length_filter_le _ _) (by rw [List.length_take]; exact Nat.min_le_left _ _)
    · obtain ⟨rfl, rfl⟩ := h
      obtain ⟨n, hn, rfl⟩ := get_map hx
      simp only [tRet, tRetN, tCB, tCons, tNil, tSeq, tIfS, tAsg, gName, tV, x0, x1, x2, x3, tC, tOp, e_tst, e_isB, e_tru, e_truB, e_truI, e_truN, tSp, tDrop, tNext, tNot, tOr, tAnd, tIf, e_tup, e_lst, tCont, tBreak, tAug, tAugS, tAndV, tOrV, tNotV, tChain, e_dnew, gSub, ipI, tSl, tNoPart, tPart, tMk, ex_bl, ex_int, ex_int2, ex_some, e_eqI4, e_eqS4, e_neI3, e_neS3, e_i0, e_i2, e_addI, e_addS, e_addL4, e_mulI3, e_mulS, e_ix3S, e_ix3D, e_lenS, e_strI, e_intS, e_ival, e_for, e_comp, e_rg1, e_rg2, e_en, e_rg1I, e_rg2I, e_tMt, e_lm, e_lmR, e_app, e_ext, e_bmS, e_bmSS, e_split, e_part, e_sl2S, e_isi3T, e_gTup, e_gxT, e_get3D, e_set3D, gx1, tYes, frv, x4, x5, x6, x7, x8, Function.comp, if_true, x9, if_false]
      have hm : n ∈ nms pts := List.mem_of_getElem? hn
      refine ⟨kvs, _, d8, dv7.2 n hm, ?_⟩
      simp only [tRet, tRetN, tCB, tCons, tNil, tSeq, tIfS, tAsg, gName, tV, x0, x1, x2, x3, tC, tOp, e_tst, e_isB, e_tru, e_truB, e_truI, e_truN, tSp, tDrop, tNext, tNot, tOr, tAnd, tIf, e_tup, e_lst, tCont, tBreak, tAug, tAugS, tAndV, tOrV, tNotV, tChain, e_dnew, gSub, ipI, tSl, tNoPart, tPart, tMk, ex_bl, ex_int, ex_int2, ex_some, e_eqI4, e_eqS4, e_neI3, e_neS3, e_i0, e_i2, e_addI, e_addS, e_addL4, e_mulI3, e_mulS, e_ix3S, e_ix3D, e_lenS, e_strI, e_intS, e_ival, e_for, e_comp, e_rg1, e_rg2, e_en, e_rg1I, e_rg2I, e_tMt, e_lm, e_lmR, e_app, e_ext, e_bmS, e_bmSS, e_split, e_part, e_sl2S, e_isi3T, e_gTup, e_gxT, e_get3D, e_set3D, gx1, tYes, frv, x4, x5, x6, x7, x8, Function.comp, if_true, x9, if_false]
      rw [take_get hn, List.filter_append, List.map_append]
      refine ite2 (fun h0 => ?_) (fun h0 => ?_)
      · have h0 := of_decide_eq_true h0
        have e : lf [] (dir ls) n = 0 := by omega
        refine ⟨trivial, ?_⟩
        simp [e]
      · have h0 := of_decide_eq_false (Bool.eq_false_iff.mpr h0)
        have e : ¬ lf [] (dir ls) n = 0 := by omega
        refine ⟨trivial, ?_⟩
        simp [e]
    obtain ⟨rfl, rfl⟩ := h
    rw [List.length_map, List.take_of_length_le (Nat.le_refl _)]
    refine alloc fun po HA sA nA gA => ?_
    have dA := sA _ _ d8
    have sA3 : Same H3 HA := (s7.trans s8).trans sA
    have np : H po = none := (s03.trans (s7.trans s8)).free nA
    have nw3 : H3 po = none := (s7.trans s8).free nA
    refine ⟨fun m σ H' => ∃ passed : Nat, m = pts.length - passed ∧ SInv q pd pw po pts ls H3 passed σ H', ⟨_, 0, rfl, _, kvs, _, _, _, sA3, dA, by rw [List.take_zero]; exact dv7, gA, ko_start nd, rfl⟩, ?_⟩
    rintro m σ HB ⟨passed, rfl, order, kvB, o3, o4, o5, sB, dB, dvB, gB, ko, rfl⟩
    simp only [tRet, tRetN, tCB, tCons, tNil, tSeq, tIfS, tAsg, gName, tV, x0, x1, x2, x3, tC, tOp, e_tst, e_isB, e_tru, e_truB, e_truI, e_truN, tSp, tDrop, tNext, tNot, tOr, tAnd, tIf, e_tup, e_lst, tCont, tBreak, tAug, tAugS, tAndV, tOrV, tNotV, tChain, e_dnew, gSub, ipI, tSl, tNoPart, tPart, tMk, ex_bl, ex_int, ex_int2, ex_some, e_eqI4, e_eqS4, e_neI3, e_neS3, e_i0, e_i2, e_addI, e_addS, e_addL4, e_mulI3, e_mulS, e_ix3S, e_ix3D, e_lenS, e_strI, e_intS, e_ival, e_for, e_comp, e_rg1, e_rg2, e_en, e_rg1I, e_rg2I, e_tMt, e_lm, e_lmR, e_app, e_ext, e_bmS, e_bmSS, e_split, e_part, e_sl2S, e_isi3T, e_gTup, e_gxT, e_get3D, e_set3D, gx1, tYes, frv, x4, x5, x6, x7, x8, Function.comp, if_true, x9, if_false]
    refine len_L gB ?_
    simp only [tRet, tRetN, tCB, tCons, tNil, tSeq, tIfS, tAsg, gName, tV, x0, x1, x2, x3, tC, tOp, e_tst, e_isB, e_tru, e_truB, e_truI, e_truN, tSp, tDrop, tNext, tNot, tOr, tAnd, tIf, e_tup, e_lst, tCont, tBreak, tAug, tAugS, tAndV, tOrV, tNotV, tChain, e_dnew, gSub, ipI, tSl, tNoPart, tPart, tMk, ex_bl, ex_int, ex_int2, ex_some, e_eqI4, e_eqS4, e_neI3, e_neS3, e_i0, e_i2, e_addI, e_addS, e_addL4, e_mulI3, e_mulS, e_ix3S, e_ix3D, e_lenS, e_strI, e_intS, e_ival, e_for, e_comp, e_rg1, e_rg2, e_en, e_rg1I, e_rg2I, e_tMt, e_lm, e_lmR, e_app, e_ext, e_bmS, e_bmSS, e_split, e_part, e_sl2S, e_isi3T, e_gTup, e_gxT, e_get3D, e_set3D, gx1, tYes, frv, x4, x5, x6, x7, x8, Function.comp, if_true, x9, if_false]
    rw [List.length_map]
    have ole : order.length ≤ pts.length := by
      have := sub_len ko.nd ko.sub
      rw [List.length_map] at this
      exact this
    refine ite2 (fun h => ?_) (fun h => ?_)
    · have h : passed < order.length := by have := of_decide_eq_true h; omega
      refine ⟨SInv q pd pw po pts ls H3 (passed + 1), fun σ' H' g => ⟨pts.length - (passed + 1), by omega, passed + 1, rfl, g⟩, ?_⟩
      obtain ⟨cur, hcur⟩ : ∃ cur, order[passed]? = some cur := ⟨_, List.getElem?_eq_getElem h⟩
      have ki := ki_start ko hcur
      have dl : (order.take passed).length = passed := by rw [List.length_take]; omega
      generalize order.take passed = done at ki dl dvB
      refine for_L (xs := ys) (SqL.of (sB _ _ g3)) (fun i σ H' => ∃ order kvs o3 o4 o5, Same H3 H' ∧ H' pw = some (.dK kvs) ∧ DVals kvs pts (WF ((dir ls).take i) ((dir ls).drop i) done cur) ∧ H' po = some (.lst (order.map V.str)) ∧ KI (nms pts) (dir ls) ((dir ls).take i) ((dir ls).drop i) done cur order ∧ σ = [some (.ref q), some (.ref pd), some (.ref pw), o3, o4, o5, some (.ref po), some (.int (passed : Nat))]) ⟨order, kvB, _, _, _, sB, dB, ?_, gB, ki, rfl⟩ (fun i σ H' hi g => ?_) (fun i x σ HC hi hx g => ?_) (fun σ HC g => ?_)
      · have e : WF ((dir ls).take 0) ((dir ls).drop 0) done cur = lf done (dir ls) := by
          funext n
          unfold WF
          rw [List.take_zero, List.drop_zero, lf_nil, Nat.zero_add]
        rw [e]
        exact dvB
      · obtain ⟨_, _, _, _, _, s', _⟩ := g
        exact SqL.of (s' _ _ g3)
      · obtain ⟨order, kvs, o3, o4, o5, sC, dC, dvC, gC, ki, rfl⟩ := g
        obtain ⟨p, row, rfl, hr, hp⟩ := (td.fix sC.fix).at hx
        obtain ⟨d, hd, rfl⟩ := get_map hr
        rw [e_gTup]
        refine ⟨_, SqT.of hp, rfl, ?_⟩
        simp only [drow, e_gCons, e_gNil, tRet, tRetN, tCB, tCons, tNil, tSeq, tIfS, tAsg, gName, tV, x0, x1, x2, x3, tC, tOp, e_tst, e_isB, e_tru, e_truB, e_truI, e_truN, tSp, tDrop, tNext, tNot, tOr, tAnd, tIf, e_tup, e_lst, tCont, tBreak, tAug, tAugS, tAndV, tOrV, tNotV, tChain, e_dnew, gSub, ipI, tSl, tNoPart, tPart, tMk, ex_bl, ex_int, ex_int2, ex_some, e_eqI4, e_eqS4, e_neI3, e_neS3, e_i0, e_i2, e_addI, e_addS, e_addL4, e_mulI3, e_mulS, e_ix3S, e_ix3D, e_lenS, e_strI, e_intS, e_ival, e_for, e_comp, e_rg1, e_rg2, e_en, e_rg1I, e_rg2I, e_tMt, e_lm, e_lmR, e_app, e_ext, e_bmS, e_bmSS, e_split, e_part, e_sl2S, e_isi3T, e_gTup, e_gxT, e_get3D, e_set3D, gx1, tYes, frv, x4, x5, x6, x7, x8, Function.comp, if_true, x9, if_false]
        have hat : (order.map V.str)[passed]? = some (.str cur) := by
          obtain ⟨r, e⟩ := ki.tk
          rw [e, List.map_append, List.getElem?_append_right (by rw [List.length_map, dl]; exact Nat.le_refl _), List.length_map, dl, Nat.sub_self]
          rfl
        refine ix_L gC (atI_nat hat) ?_
        simp only [tRet, tRetN, tCB, tCons, tNil, tSeq, tIfS, tAsg, gName, tV, x0, x1, x2, x3, tC, tOp, e_tst, e_isB, e_tru, e_truB, e_truI, e_truN, tSp, tDrop, tNext, tNot, tOr, tAnd, tIf, e_tup, e_lst, tCont, tBreak, tAug, tAugS, tAndV, tOrV, tNotV, tChain, e_dnew, gSub, ipI, tSl, tNoPart, tPart, tMk, ex_bl, ex_int, ex_int2, ex_some, e_eqI4, e_eqS4, e_neI3, e_neS3, e_i0, e_i2, e_addI, e_addS, e_addL4, e_mulI3, e_mulS, e_ix3S, e_ix3D, e_lenS, e_strI, e_intS, e_ival, e_for, e_comp, e_rg1, e_rg2, e_en, e_rg1I, e_rg2I, e_tMt, e_lm, e_lmR, e_app, e_ext, e_bmS, e_bmSS, e_split, e_part, e_sl2S, e_isi3T, e_gTup, e_gxT, e_get3D, e_set3D, gx1, tYes, frv, x4, x5, x6, x7, x8, Function.comp, if_true, x9, if_false]
        have hd' := hd
        rw [drop_get hd] at ki
        rw [drop_get hd] at dvC
        obtain ⟨l, hl, l0, ed⟩ := dir_mem (List.mem_of_getElem? hd)
        have hm : d.2 ∈ nms pts := by rw [ed]; exact hend l hl
        rw [take_get hd]
        refine ite2 (fun h0 => ?_) (fun h0 => ?_)
        · have h0 : d.1 = cur := of_decide_eq_true h0
          have ws := wf_step (pre := (dir ls).take i) (post := (dir ls).drop (i + 1)) h0 (cur_not ki)
          refine ⟨kvs, _, dC, dvC.2 _ hm, ?_⟩
          simp only [tRet, tRetN, tCB, tCons, tNil, tSeq, tIfS, tAsg, gName, tV, x0, x1, x2, x3, tC, tOp, e_tst, e_isB, e_tru, e_truB, e_truI, e_truN, tSp, tDrop, tNext, tNot, tOr, tAnd, tIf, e_tup, e_lst, tCont, tBreak, tAug, tAugS, tAndV, tOrV, tNotV, tChain, e_dnew, gSub, ipI, tSl, tNoPart, tPart, tMk, ex_bl, ex_int, ex_int2, ex_some, e_eqI4, e_eqS4, e_neI3, e_neS3, e_i0, e_i2, e_addI, e_addS, e_addL4, e_mulI3, e_mulS, e_ix3S, e_ix3D, e_lenS, e_strI, e_intS, e_ival, e_for, e_comp, e_rg1, e_rg2, e_en, e_rg1I, e_rg2I, e_tMt, e_lm, e_lmR, e_app, e_ext, e_bmS, e_bmSS, e_split, e_part, e_sl2S, e_isi3T, e_gTup, e_gxT, e_get3D, e_set3D, gx1, tYes, frv, x4, x5, x6, x7, x8, Function.comp, if_true, x9, if_false]
          refine ⟨kvs, dC, by rw [dvC.len]; exact small_lt (by omega), ?_⟩
          have dvD : DVals (putK kvs (Sum.inr d.2) (.int ((WF ((dir ls).take i) (d :: (dir ls).drop (i + 1)) done cur d.2 : Nat) - 1))) pts (WF ((dir ls).take i ++ [d]) ((dir ls).drop (i + 1)) done cur) := dvC.put hm (by have := ws d.2; rw [if_pos rfl] at this; omega) fun m hne => by
            have := ws m
            rw [if_neg (fun z => hne z.symm), Nat.add_zero] at this
            exact this.symm
          refine ⟨_, _, upd_same, dvD.2 _ hm, ?_⟩
          simp only [tRet, tRetN, tCB, tCons, tNil, tSeq, tIfS, tAsg, gName, tV, x0, x1, x2, x3, tC, tOp, e_tst, e_isB, e_tru, e_truB, e_truI, e_truN, tSp, tDrop, tNext, tNot, tOr, tAnd, tIf, e_tup, e_lst, tCont, tBreak, tAug, tAugS, tAndV, tOrV, tNotV, tChain, e_dnew, gSub, ipI, tSl, tNoPart, tPart, tMk, ex_bl, ex_int, ex_int2, ex_some, e_eqI4, e_eqS4, e_neI3, e_neS3, e_i0, e_i2, e_addI, e_addS, e_addL4, e_mulI3, e_mulS, e_ix3S, e_ix3D, e_lenS, e_strI, e_intS, e_ival, e_for, e_comp, e_rg1, e_rg2, e_en, e_rg1I, e_rg2I, e_tMt, e_lm, e_lmR, e_app, e_ext, e_bmS, e_bmSS, e_split, e_part, e_sl2S, e_isi3T, e_gTup, e_gxT, e_get3D, e_set3D, gx1, tYes, frv, x4, x5, x6, x7, x8, Function.comp, if_true, x9, if_false]
          have gD : ∀ o, upd HC pw (.dK o) po = some (.lst (order.map V.str)) := fun o => upd_keep dC gC (by intro z; cases z)
          refine ite2 (fun h1 => ?_) (fun h1 => ?_)
          · have h1 : WF ((dir ls).take i ++ [d]) ((dir ls).drop (i + 1)) done cur d.2 = 0 := by have := of_decide_eq_true h1; omega
            have kp := ki_put ki h0 hm h1
            have ol := sub_len kp.nd kp.sub
            rw [List.length_append, List.length_map] at ol
            refine ⟨⟨_, SqL.of (gD _)⟩, _, gD _, by rw [List.length_map]; exact small_lt (by simp at ol; omega), ?_⟩
            have nwo : pw ≠ po := fun z => by subst z; rw [dC] at gC; cases gC
            refine ⟨order ++ [d.2], _, _, _, _, (sC.upd_free n4).upd_free nw3, by rw [upd_ne nwo]; exact upd_same, dvD, by rw [List.map_append]; exact upd_same, kp, rfl⟩
          · have h1 : WF ((dir ls).take i ++ [d]) ((dir ls).drop (i + 1)) done cur d.2 ≠ 0 := by have := of_decide_eq_false (Bool.eq_false_iff.mpr h1); omega
            exact ⟨order, _, _, _, _, sC.upd_free n4, upd_same, dvD, gD _, ki_stay ki h0 h1, rfl⟩
        · have h0 : d.1 ≠ cur := of_decide_eq_false (Bool.eq_false_iff.mpr h0)
          refine ⟨order, kvs, _, _, _, sC, dC, ?_, gC, ki_skip ki h0, rfl⟩
          have e : WF ((dir ls).take i ++ [d]) ((dir ls).drop (i + 1)) done cur = WF ((dir ls).take i) (d :: (dir ls).drop (i + 1)) done cur := funext fun n => wf_skip h0 n
          rw [e]
          exact dvC
      · obtain ⟨order, kvs, o3, o4, o5, sC, dC, dvC, gC, ki, rfl⟩ := g
        rw [ysl, List.take_length, List.drop_length] at ki dvC
        simp only [tRet, tRetN, tCB, tCons, tNil, tSeq, tIfS, tAsg, gName, tV, x0, x1, x2, x3, tC, tOp, e_tst, e_isB, e_tru, e_truB, e_truI, e_truN, tSp, tDrop, tNext, tNot, tOr, tAnd, tIf, e_tup, e_lst, tCont, tBreak, tAug, tAugS, tAndV, tOrV, tNotV, tChain, e_dnew, gSub, ipI, tSl, tNoPart, tPart, tMk, ex_bl, ex_int, ex_int2, ex_some, e_eqI4, e_eqS4, e_neI3, e_neS3, e_i0, e_i2, e_addI, e_addS, e_addL4, e_mulI3, e_mulS, e_ix3S, e_ix3D, e_lenS, e_strI, e_intS, e_ival, e_for, e_comp, e_rg1, e_rg2, e_en, e_rg1I, e_rg2I, e_tMt, e_lm, e_lmR, e_app, e_ext, e_bmS, e_bmSS, e_split, e_part, e_sl2S, e_isi3T, e_gTup, e_gxT, e_get3D, e_set3D, gx1, tYes, frv, x4, x5, x6, x7, x8, Function.comp, if_true, x9, if_false]
        have ko' := ki_end ki
        rw [dl] at ko'
        obtain ⟨r, eo⟩ := ki.tk
        have tk : order.take (passed + 1) = done ++ [cur] := by
          rw [eo]
          have : done ++ cur :: r = (done ++ [cur]) ++ r := by simp
          rw [this, List.take_left' (by simp [dl])]
        refine ⟨order, kvs, _, _, _, sC, dC, ?_, gC, ko', rfl⟩
        have e : lf (order.take (passed + 1)) (dir ls) = WF (dir ls) [] done cur := by
          funext n
          unfold WF
          rw [tk, lf_nil, Nat.add_zero]
        rw [e]
        exact dvC
    · have h : passed = order.length := by
        have := of_decide_eq_false (Bool.eq_false_iff.mpr h)
        have := ko.le
        omega
      subst h
      exact k po order HB (s03.trans sB) np gB ko
end
end K2
end
section
set_option maxRecDepth 100000
set_option maxHeartbeats 4000000
set_option linter.all false
namespace K2
open PySem L2
seal L2.PE L2.PS L2.PSs L2.PT L2.PA L2.PG L2.PI L2.PW
open TX
structure KC (P : Program) (w : World) (K : PySem.W.Frag) (mg : Str → Option Value) (base : Heap) (c : Cs) : Prop where
  ok : ∀ kd, ClsOk K (c.of kd)
  Mw : ∀ kd, M_word P w K mg base (c.of kd) (spGet K "told")
  Ml : ∀ kd, M_lines P w K mg base (c.of kd) (spGet K "asked")
  isT : ∀ (kd : Kd) (H : Hp) (p dx : Addr) (fs : List (Str × V)), H p = some (.ins (c.of kd) dx fs) → TyOf K H (.ref p) (.ref (c.of kd))
  kS : ∀ kd, PySem.W.kitOne K (.ref (c.of kd)) (.ref c.snk) = some (decide (kd = .snk))
  kE : ∀ kd, PySem.W.kitAny K (.ref (c.of kd)) [.ref c.src, .ref c.snk] = some kd.isEnd
theorem mt_klines {P : Program} {w : World} {K : PySem.W.Frag} {mg : Str → Option Value} {base : Heap} {c : Cs} {q : Addr} {kd : Kd} {σ : St} {H : Hp} {Q : VK} (kc : KC P w K mg base c) (W : KindAt c H q kd) (k : Q (.int kd.asked) H) : mtR (M_lines P w K mg base) "lines" tNil (.ref q) σ H Q := by
  obtain ⟨dx, h⟩ := W
  exact ⟨_, dx, _, _, h, flds_no _ (by decide +kernel) (by decide +kernel) (by decide +kernel), kc.Ml kd, q, _, dx, _, .int kd.asked, rfl, h, (kc.ok kd).cl, (kc.ok kd).nA, flds_asked kd, k⟩
theorem mt_kword {P : Program} {w : World} {K : PySem.W.Frag} {mg : Str → Option Value} {base : Heap} {c : Cs} {q : Addr} {kd : Kd} {σ : St} {H : Hp} {Q : VK} (kc : KC P w K mg base c) (W : KindAt c H q kd) (k : Q (.str kd.word) H) : mtR (M_word P w K mg base) "word" tNil (.ref q) σ H Q := by
  obtain ⟨dx, h⟩ := W
  exact ⟨_, dx, _, _, h, flds_no _ (by decide +kernel) (by decide +kernel) (by decide +kernel), kc.Mw kd, q, _, dx, _, .str kd.word, rfl, h, (kc.ok kd).cl, (kc.ok kd).nT, flds_told kd, k⟩
def spIsEnd (c : Cs) : Sp := fun vs H Q _ => ∃ (q : Addr) (kd : Kd), vs = [.ref q] ∧ KindAt c H q kd ∧ ∀ H', Same H H' → Q (.bl kd.isEnd) H'
def spWordsOf : Sp := fun vs H Q _ => ∃ z : Str, vs = [.str z] ∧ z.length ≤ 900000 ∧ ∀ p H', Same H H' → H p = none → H' p = some (.lst ((wordsT z).map V.str)) → Q (.ref p) H'
def spPartBy (c : Cs) : Sp := fun vs H Q _ => ∃ (l : Addr) (place : Int) (name kw tw : Str) (rest : List Str) (kd : Kd) (time : Int), vs = [.ref l, .int place] ∧ H l = some (.lst ((name :: kw :: tw :: rest).map V.str)) ∧ name.length ≤ 900000 ∧ kw.length ≤ 900000 ∧ tw.length ≤ 900000 ∧
  isName name = true ∧ kindBy kw = some kd ∧ numberBy tw 1000 = some time ∧ (rest.length : Int) = kd.asked ∧ (0 < time → kd.isEnd = false) ∧
  ∀ t kp H', Same H H' → H t = none → H' t = some (.tup [.str name, .ref kp, .int time]) → KindAt c H' kp kd → Q (.ref t) H'
def LineW (wd s : Str) (n : Int) : Prop := (Txt.partition wd "/").1 = s ∧ (((Txt.partition wd "/").2.1 = "" ∧ n = 0) ∨ (¬ (Txt.partition wd "/").2.1 = "" ∧ numberBy (Txt.partition wd "/").2.2 100 = some n)) ∧ isName s = true
def spLineBy : Sp := fun vs H Q _ => ∃ (wd e : Str) (place : Int) (s : Str) (n : Int), vs = [.str wd, .str e, .int place] ∧ wd.length ≤ 900000 ∧ LineW wd s n ∧ ∀ t H', Same H H' → H t = none → H' t = some (.tup (lrow (s, e, n))) → Q (.ref t) H'
theorem splitC_len (c : Nat) : ∀ l : List Nat, (splitC c l).length ≤ l.length + 1
  | [] => by simp [splitC]
  | x :: xs => by
    have ih := splitC_len c xs
    rw [splitC_cons]
    split
    · simp; omega
    · split <;> rename_i h <;> rw [h] at ih <;> simp at ih ⊢ <;> omega
theorem split_sp_len (z : Str) : (Txt.split z " ").length ≤ z.length + 1 := by
  rw [split_sp, List.length_map, ← ls_len]; exact splitC_len _ _
theorem split_nl_len (z : Str) : (Txt.split z "\n").length ≤ z.length + 1 := by
  rw [split_nl, List.length_map, ← ls_len]; exact splitC_len _ _
theorem part_le (z y : Str) : (Txt.partition z y).2.2.length ≤ z.length := by
  unfold Txt.partition
  split
  · exact le_strSub _ _ _
  · exact Nat.zero_le _
theorem part_le1 (z y : Str) : (Txt.partition z y).1.length ≤ z.length := by
  unfold Txt.partition
  split
  · exact le_strSub _ _ _
  · exact Nat.le_refl _
section
variable {P : Program} {w : World} {K : PySem.W.Frag} {mg : Str → Option Value} {base : Heap} {c : Cs} {cW : Addr}
abbrev s_is_end : Stmt := top 28
theorem sc_is_end : FnSc ["kind"] ["kind"] ["isinstance", "Sink", "Source"] (defScope s_is_end) := ⟨⟨rfl, rfl, rfl, by decide +kernel, rfl, by decide +kernel, by decide +kernel⟩, by decide +kernel, by decide +kernel, by decide +kernel⟩
theorem ok_is_end {f : Addr} {fd : FuncData} (F : Fun K "is_end" "is_end" s_is_end f fd) (kc : KC P w K mg base c) (v_Source : mg "Source" = some (.ref c.src) ∧ RelV (.ref c.src) (.ref c.src)) (v_Sink : mg "Sink" = some (.ref c.snk) ∧ RelV (.ref c.snk) (.ref c.snk)) (n_isinstance : mg "isinstance" = none) : FnOk P w K mg base CX0 1 f fd ["kind"] (spIsEnd c) := by
  refine F.ok sc_is_end.S (fun vs H Q E h => ?_) (fun cdv A outer s H vs Q E hr h => ?_)
  · obtain ⟨q, kd, rfl, _⟩ := h
    rfl
  · obtain ⟨q, kd, rfl, hk, k⟩ := h
    have S := sc_is_end.sx (CX := CX0) (P := P) (w := w) (K := K) (mg := mg) (base := base) (qual := "is_end") (f := f) (cd := cdv) (A := A) (outer := outer) (s := s) (H := H) (E := E)
    have Sg := fun i {x} h => sc_is_end.gx (CX := CX0) (P := P) (w := w) (K := K) (mg := mg) (base := base) (qual := "is_end") (f := f) (cd := cdv) (A := A) (outer := outer) (s := s) (H := H) (E := E) i (x := x) h
    have hU := hr.units
    refine ⟨_, (pss_one (ps_ret (k_isinstance3 (K := K) rfl (Sg 0 rfl) n_isinstance (pa_cons (nv S 0) (pa_cons (pe_tup (pa_cons (g_val (Sg 2 rfl) v_Source.1 v_Source.2) (pa_cons (g_val (Sg 1 rfl) v_Sink.1 v_Sink.2) pa_nil))) pa_nil))))), ?_⟩
    show (_ : TS) _ [some (.ref q)] H
    simp only [tRet, tRetN, tCB, tCons, tNil, tSeq, tIfS, tAsg, gName, tV, x0, x1, x2, x3, tC, tOp, e_tst, e_isB, e_tru, e_truB, e_truI, e_truN, tSp, tDrop, tNext, tNot, tOr, tAnd, tIf, e_tup, e_lst, tCont, tBreak, tAug, tAugS, tAndV, tOrV, tNotV, tChain, e_dnew, gSub, ipI, tSl, tNoPart, tPart, tMk, ex_bl, ex_int, ex_int2, ex_some, e_eqI4, e_eqS4, e_neI3, e_neS3, e_i0, e_i2, e_addI, e_addS, e_addL4, e_mulI3, e_mulS, e_ix3S, e_ix3D, e_lenS, e_strI, e_intS, e_ival, e_for, e_comp, e_rg1, e_rg2, e_en, e_rg1I, e_rg2I, e_tMt, e_lm, e_lmR, e_app, e_ext, e_bmS, e_bmSS, e_split, e_part, e_sl2S, e_isi3T, e_gTup, e_gxT, e_get3D, e_set3D, gx1, tYes, frv, x4, x5, x6, x7, x8, Function.comp, if_true, x9, if_false]
    refine ⟨by show 2 ≤ sizeLine; decide, alloc fun p H1 s1 n1 g1 => ?_⟩
    obtain ⟨dx, hk⟩ := hk.mono s1
    rw [e_isi3]
    exact .inr ⟨_, _, _, g1, rfl, kc.isT _ _ _ _ _ hk, kc.kE kd, k H1 s1⟩
abbrev s_words_of : Stmt := top 36
theorem sc_words_of : FnSc ["row"] ["row"] [] (defScope s_words_of) := ⟨⟨rfl, rfl, rfl, by decide +kernel, rfl, by decide +kernel, by decide +kernel⟩, by decide +kernel, by decide +kernel, by decide +kernel⟩
theorem cs_words_of_0 : CompSc ["word"] [] (scopeOf (kidS (bodyAt (top 36) 0) 0)) (defScope s_words_of) := ⟨rfl, by decide +kernel, by decide +kernel, by decide +kernel, by decide +kernel, by decide +kernel, by decide +kernel⟩
theorem cn_words_of_0 : ∀ x ∈ ((["word"] : List Str) ++ ([] : List Str)), (x == ("__debug__" : Str)) = false ∧ (x == ("__classdict__" : Str)) = false := by decide +kernel
theorem ok_words_of {f : Addr} {fd : FuncData} (F : Fun K "words_of" "words_of" s_words_of f fd)  : FnOk P w K mg base CX0 1 f fd ["row"] spWordsOf := by
  refine F.ok sc_words_of.S (fun vs H Q E h => ?_) (fun cdv A outer s H vs Q E hr h => ?_)
  · obtain ⟨z, rfl, _⟩ := h
    rfl
  · obtain ⟨z, rfl, hz, k⟩ := h
    have S := sc_words_of.sx (CX := CX0) (P := P) (w := w) (K := K) (mg := mg) (base := base) (qual := "words_of") (f := f) (cd := cdv) (A := A) (outer := outer) (s := s) (H := H) (E := E)
    have hU := hr.units
    have S0 : CompSc ["word"] [] (scopeOf (kidS (bodyAt (top 36) 0) 0)) (cxOf CX0 P w K mg base ["row"] "words_of" (defScope s_words_of) f cdv A outer s H E).nox.env.scope := cs_words_of_0
    have K0 := fun C s₀ H₀ ex => S0.sx (C := C) (s₀ := s₀) (H₀ := H₀) (ex := ex) rfl cn_words_of_0
    refine ⟨_, (pss_one (ps_ret (pe_cp S0 (js := []) rfl rfl (i_val (K := K) rfl (m_split (nv S 0) (pa_cons pe_str pa_nil))) (pg1 S0) (fun C s₀ H₀ ex => (pts_one (pt_of (o_ne3 (K := K) rfl hU) (nv (K0 C s₀ H₀ ex) 0) pe_str))) (fun C s₀ H₀ ex => (nv (K0 C s₀ H₀ ex) 0))))), ?_⟩
    show (_ : TS) _ [some (.str z)] H
    simp only [tRet, tRetN, tCB, tCons, tNil, tSeq, tIfS, tAsg, gName, tV, x0, x1, x2, x3, tC, tOp, e_tst, e_isB, e_tru, e_truB, e_truI, e_truN, tSp, tDrop, tNext, tNot, tOr, tAnd, tIf, e_tup, e_lst, tCont, tBreak, tAug, tAugS, tAndV, tOrV, tNotV, tChain, e_dnew, gSub, ipI, tSl, tNoPart, tPart, tMk, ex_bl, ex_int, ex_int2, ex_some, e_eqI4, e_eqS4, e_neI3, e_neS3, e_i0, e_i2, e_addI, e_addS, e_addL4, e_mulI3, e_mulS, e_ix3S, e_ix3D, e_lenS, e_strI, e_intS, e_ival, e_for, e_comp, e_rg1, e_rg2, e_en, e_rg1I, e_rg2I, e_tMt, e_lm, e_lmR, e_app, e_ext, e_bmS, e_bmSS, e_split, e_part, e_sl2S, e_isi3T, e_gTup, e_gxT, e_get3D, e_set3D, gx1, tYes, frv, x4, x5, x6, x7, x8, Function.comp, if_true, x9, if_false]
    refine ⟨⟨by decide +kernel, Nat.le_trans (show z.length + 2 ≤ 1000000 by omega) (by decide)⟩, alloc fun l H1 s1 n1 g1 => ?_⟩
    have hl := split_sp_len z
    refine comp_L (xs := (Txt.split z " ").map V.str) (SqL.of g1) (fun i ys H' => H' = H1 ∧ ys = (((Txt.split z " ").take i).filter fun w : Str => !decide (w = "")).map V.str) ⟨rfl, rfl⟩ (by rw [List.length_map]; exact small_size (by omega)) (fun i ys H' hi h => ?_) (fun i ys H' hi h => by rw [h.1]; exact SqL.of g1) (fun i x ys H2 hi hx h => ?_) (fun ys H2 h => ?_)
    · rw [h.2, List.length_map]
      exact Nat.le_trans (List.length_filter_le _ _) (by rw [List.length_take]; exact Nat.min_le_left _ _)
    · obtain ⟨rfl, rfl⟩ := h
      obtain ⟨x, hw, rfl⟩ := get_map hx
      simp only [tRet, tRetN, tCB, tCons, tNil, tSeq, tIfS, tAsg, gName, tV, x0, x1, x2, x3, tC, tOp, e_tst, e_isB, e_tru, e_truB, e_truI, e_truN, tSp, tDrop, tNext, tNot, tOr, tAnd, tIf, e_tup, e_lst, tCont, tBreak, tAug, tAugS, tAndV, tOrV, tNotV, tChain, e_dnew, gSub, ipI, tSl, tNoPart, tPart, tMk, ex_bl, ex_int, ex_int2, ex_some, e_eqI4, e_eqS4, e_neI3, e_neS3, e_i0, e_i2, e_addI, e_addS, e_addL4, e_mulI3, e_mulS, e_ix3S, e_ix3D, e_lenS, e_strI, e_intS, e_ival, e_for, e_comp, e_rg1, e_rg2, e_en, e_rg1I, e_rg2I, e_tMt, e_lm, e_lmR, e_app, e_ext, e_bmS, e_bmSS, e_split, e_part, e_sl2S, e_isi3T, e_gTup, e_gxT, e_get3D, e_set3D, gx1, tYes, frv, x4, x5, x6, x7, x8, Function.comp, if_true, x9, if_false]
      rw [take_get hw, List.filter_append, List.map_append]
      refine ite2 (fun h0 => ?_) (fun h0 => ?_)
      · refine ⟨trivial, ?_⟩
        simp [h0]
      · refine ⟨trivial, ?_⟩
        simp [h0]
    obtain ⟨rfl, rfl⟩ := h
    rw [List.length_map, List.take_of_length_le (Nat.le_refl _)]
    exact alloc fun p H3 s3 n3 g3 => k p H3 (s1.trans s3) (s1.free n3) g3
abbrev s_part_by : Stmt := top 37
theorem sc_part_by : FnSc ["words", "place", "kind", "time"] ["words", "place"] ["is_end", "len", "number_by", "MOST_TIME", "kind_by", "is_name"] (defScope s_part_by) := ⟨⟨rfl, rfl, rfl, by decide +kernel, rfl, by decide +kernel, by decide +kernel⟩, by decide +kernel, by decide +kernel, by decide +kernel⟩
theorem ok_part_by {f : Addr} {fd : FuncData} (F : Fun K "part_by" "part_by" s_part_by f fd) (kc : KC P w K mg base c) (C_is_name : Cal P w K mg base 2 "is_name" ["word"] spIsName) (C_kind_by : Cal P w K mg base 5 "kind_by" ["word"] (spKindBy c)) (C_number_by : Cal P w K mg base 2 "number_by" ["word", "most"] spNumberBy) (C_is_end : Cal P w K mg base 1 "is_end" ["kind"] (spIsEnd c)) {uM : Value} (v_MOST_TIME : mg "MOST_TIME" = some uM ∧ RelV (.int 1000) uM) (n_len : mg "len" = none) : FnOk P w K mg base CX0 6 f fd ["words", "place"] (spPartBy c) := by
  refine F.ok sc_part_by.S (fun vs H Q E h => ?_) (fun cdv A outer s H vs Q E hr h => ?_)
  · obtain ⟨l, place, name, kw, tw, rest, kd, time, rfl, _⟩ := h
    rfl
  · obtain ⟨l, place, name, kw, tw, rest, kd, time, rfl, hl, z1, z2, z3, hN, hK, hT, hR, hE, k⟩ := h
    have S := sc_part_by.sx (CX := CX0) (P := P) (w := w) (K := K) (mg := mg) (base := base) (qual := "part_by") (f := f) (cd := cdv) (A := A) (outer := outer) (s := s) (H := H) (E := E)
    have Sg := fun i {x} h => sc_part_by.gx (CX := CX0) (P := P) (w := w) (K := K) (mg := mg) (base := base) (qual := "part_by") (f := f) (cd := cdv) (A := A) (outer := outer) (s := s) (H := H) (E := E) i (x := x) h
    have hU := hr.units
    refine ⟨_, (pss_cons (ps_if (PW.pt (pw_or (pt_of o_lt (k_len (K := K) rfl (Sg 1 rfl) n_len (pa_cons (nv S 0) pa_nil)) pe_int) (pw_or1 (pt_not (pt_tr (K := K) rfl (c_call C_is_name (hr.mono (by decide)) (Sg 5 rfl) (pa_cons (pe_ix (o_ix3 (K := K) rfl hU) (nv S 0) pe_int (fun _ _ => rfl)) pa_nil))))))) (pss_one ps_never) pss_nil)
      (pss_cons (ps_st S 2 (c_call C_kind_by (hr.mono (by decide)) (Sg 4 rfl) (pa_cons (pe_ix (o_ix3 (K := K) rfl hU) (nv S 0) pe_int (fun _ _ => rfl)) pa_nil)))
      (pss_cons (ps_st S 3 (c_call C_number_by (hr.mono (by decide)) (Sg 2 rfl) (pa_cons (pe_ix (o_ix3 (K := K) rfl hU) (nv S 0) pe_int (fun _ _ => rfl)) (pa_cons (g_val (Sg 3 rfl) v_MOST_TIME.1 v_MOST_TIME.2) pa_nil))))
      (pss_cons (ps_if (PW.pt (pw_or (pt_of o_is (nv S 2) pe_non) (pw_or (pt_of o_is (nv S 3) pe_non) (pw_or1 (pt_of (o_ne3 (K := K) rfl hU) (k_len (K := K) rfl (Sg 1 rfl) n_len (pa_cons (nv S 0) pa_nil)) (pe_op o_add pe_int (m_call0 1 (hr.mono (by decide)) (MS := M_lines P w K mg base) (fun _ _ h => h) (nv S 2)))))))) (pss_one ps_never) pss_nil)
      (pss_cons (ps_if (PW.pt (pw_and (pt_of o_gt (nv S 3) pe_int) (pw_and1 (pt_tr (K := K) rfl (c_call C_is_end (hr.mono (by decide)) (Sg 0 rfl) (pa_cons (nv S 2) pa_nil)))))) (pss_one ps_never) pss_nil)
      (pss_one (ps_ret (pe_tup (pa_cons (pe_ix (o_ix3 (K := K) rfl hU) (nv S 0) pe_int (fun _ _ => rfl)) (pa_cons (nv S 2) (pa_cons (nv S 3) pa_nil))))))))))), ?_⟩
    show (_ : TS) _ [some (.ref l), some (.int place), none, none] H
    simp only [tRet, tRetN, tCB, tCons, tNil, tSeq, tIfS, tAsg, gName, tV, x0, x1, x2, x3, tC, tOp, e_tst, e_isB, e_tru, e_truB, e_truI, e_truN, tSp, tDrop, tNext, tNot, tOr, tAnd, tIf, e_tup, e_lst, tCont, tBreak, tAug, tAugS, tAndV, tOrV, tNotV, tChain, e_dnew, gSub, ipI, tSl, tNoPart, tPart, tMk, ex_bl, ex_int, ex_int2, ex_some, e_eqI4, e_eqS4, e_neI3, e_neS3, e_i0, e_i2, e_addI, e_addS, e_addL4, e_mulI3, e_mulS, e_ix3S, e_ix3D, e_lenS, e_strI, e_intS, e_ival, e_for, e_comp, e_rg1, e_rg2, e_en, e_rg1I, e_rg2I, e_tMt, e_lm, e_lmR, e_app, e_ext, e_bmS, e_bmSS, e_split, e_part, e_sl2S, e_isi3T, e_gTup, e_gxT, e_get3D, e_set3D, gx1, tYes, frv, x4, x5, x6, x7, x8, Function.comp, if_true, x9, if_false]
    refine len_L hl ?_
    simp only [tRet, tRetN, tCB, tCons, tNil, tSeq, tIfS, tAsg, gName, tV, x0, x1, x2, x3, tC, tOp, e_tst, e_isB, e_tru, e_truB, e_truI, e_truN, tSp, tDrop, tNext, tNot, tOr, tAnd, tIf, e_tup, e_lst, tCont, tBreak, tAug, tAugS, tAndV, tOrV, tNotV, tChain, e_dnew, gSub, ipI, tSl, tNoPart, tPart, tMk, ex_bl, ex_int, ex_int2, ex_some, e_eqI4, e_eqS4, e_neI3, e_neS3, e_i0, e_i2, e_addI, e_addS, e_addL4, e_mulI3, e_mulS, e_ix3S, e_ix3D, e_lenS, e_strI, e_intS, e_ival, e_for, e_comp, e_rg1, e_rg2, e_en, e_rg1I, e_rg2I, e_tMt, e_lm, e_lmR, e_app, e_ext, e_bmS, e_bmSS, e_split, e_part, e_sl2S, e_isi3T, e_gTup, e_gxT, e_get3D, e_set3D, gx1, tYes, frv, x4, x5, x6, x7, x8, Function.comp, if_true, x9, if_false]
    rw [if_neg (by simp; omega)]
    refine ix_L hl (atI_nat (j := 0) rfl) ?_
    refine ⟨name, rfl, by omega, fun H1 s1 => ?_⟩
    simp only [tRet, tRetN, tCB, tCons, tNil, tSeq, tIfS, tAsg, gName, tV, x0, x1, x2, x3, tC, tOp, e_tst, e_isB, e_tru, e_truB, e_truI, e_truN, tSp, tDrop, tNext, tNot, tOr, tAnd, tIf, e_tup, e_lst, tCont, tBreak, tAug, tAugS, tAndV, tOrV, tNotV, tChain, e_dnew, gSub, ipI, tSl, tNoPart, tPart, tMk, ex_bl, ex_int, ex_int2, ex_some, e_eqI4, e_eqS4, e_neI3, e_neS3, e_i0, e_i2, e_addI, e_addS, e_addL4, e_mulI3, e_mulS, e_ix3S, e_ix3D, e_lenS, e_strI, e_intS, e_ival, e_for, e_comp, e_rg1, e_rg2, e_en, e_rg1I, e_rg2I, e_tMt, e_lm, e_lmR, e_app, e_ext, e_bmS, e_bmSS, e_split, e_part, e_sl2S, e_isi3T, e_gTup, e_gxT, e_get3D, e_set3D, gx1, tYes, frv, x4, x5, x6, x7, x8, Function.comp, if_true, x9, if_false]
    rw [hN, if_neg (by decide)]
    refine ix_L (s1 _ _ hl) (atI_nat (j := 1) rfl) ?_
    refine ⟨kw, rfl, by omega, ?_⟩
    rw [hK]
    refine fun kp H2 s2 n2 k2 => ?_
    simp only [tRet, tRetN, tCB, tCons, tNil, tSeq, tIfS, tAsg, gName, tV, x0, x1, x2, x3, tC, tOp, e_tst, e_isB, e_tru, e_truB, e_truI, e_truN, tSp, tDrop, tNext, tNot, tOr, tAnd, tIf, e_tup, e_lst, tCont, tBreak, tAug, tAugS, tAndV, tOrV, tNotV, tChain, e_dnew, gSub, ipI, tSl, tNoPart, tPart, tMk, ex_bl, ex_int, ex_int2, ex_some, e_eqI4, e_eqS4, e_neI3, e_neS3, e_i0, e_i2, e_addI, e_addS, e_addL4, e_mulI3, e_mulS, e_ix3S, e_ix3D, e_lenS, e_strI, e_intS, e_ival, e_for, e_comp, e_rg1, e_rg2, e_en, e_rg1I, e_rg2I, e_tMt, e_lm, e_lmR, e_app, e_ext, e_bmS, e_bmSS, e_split, e_part, e_sl2S, e_isi3T, e_gTup, e_gxT, e_get3D, e_set3D, gx1, tYes, frv, x4, x5, x6, x7, x8, Function.comp, if_true, x9, if_false]
    refine ix_L ((s1.trans s2) _ _ hl) (atI_nat (j := 2) rfl) ?_
    refine ⟨tw, 1000, rfl, by omega, by decide, by decide, fun H3 s3 => ?_⟩
    rw [hT, show numV (some time) = V.int time from rfl]
    simp only [tRet, tRetN, tCB, tCons, tNil, tSeq, tIfS, tAsg, gName, tV, x0, x1, x2, x3, tC, tOp, e_tst, e_isB, e_tru, e_truB, e_truI, e_truN, tSp, tDrop, tNext, tNot, tOr, tAnd, tIf, e_tup, e_lst, tCont, tBreak, tAug, tAugS, tAndV, tOrV, tNotV, tChain, e_dnew, gSub, ipI, tSl, tNoPart, tPart, tMk, ex_bl, ex_int, ex_int2, ex_some, e_eqI4, e_eqS4, e_neI3, e_neS3, e_i0, e_i2, e_addI, e_addS, e_addL4, e_mulI3, e_mulS, e_ix3S, e_ix3D, e_lenS, e_strI, e_intS, e_ival, e_for, e_comp, e_rg1, e_rg2, e_en, e_rg1I, e_rg2I, e_tMt, e_lm, e_lmR, e_app, e_ext, e_bmS, e_bmSS, e_split, e_part, e_sl2S, e_isi3T, e_gTup, e_gxT, e_get3D, e_set3D, gx1, tYes, frv, x4, x5, x6, x7, x8, Function.comp, if_true, x9, if_false]
    refine ⟨trivial, ?_⟩
    rw [if_neg (by simp)]
    refine ⟨trivial, ?_⟩
    rw [if_neg (by simp)]
    have s3' := (s1.trans s2).trans s3
    refine len_L (s3' _ _ hl) ?_
    refine mt_klines kc (k2.mono s3) ?_
    simp only [tRet, tRetN, tCB, tCons, tNil, tSeq, tIfS, tAsg, gName, tV, x0, x1, x2, x3, tC, tOp, e_tst, e_isB, e_tru, e_truB, e_truI, e_truN, tSp, tDrop, tNext, tNot, tOr, tAnd, tIf, e_tup, e_lst, tCont, tBreak, tAug, tAugS, tAndV, tOrV, tNotV, tChain, e_dnew, gSub, ipI, tSl, tNoPart, tPart, tMk, ex_bl, ex_int, ex_int2, ex_some, e_eqI4, e_eqS4, e_neI3, e_neS3, e_i0, e_i2, e_addI, e_addS, e_addL4, e_mulI3, e_mulS, e_ix3S, e_ix3D, e_lenS, e_strI, e_intS, e_ival, e_for, e_comp, e_rg1, e_rg2, e_en, e_rg1I, e_rg2I, e_tMt, e_lm, e_lmR, e_app, e_ext, e_bmS, e_bmSS, e_split, e_part, e_sl2S, e_isi3T, e_gTup, e_gxT, e_get3D, e_set3D, gx1, tYes, frv, x4, x5, x6, x7, x8, Function.comp, if_true, x9, if_false]
    rw [if_neg (by simp; omega)]
    by_cases ht : 0 < time
    · rw [decide_eq_true ht, if_pos rfl]
      refine ⟨kp, kd, rfl, k2.mono s3, fun H4 s4 => ?_⟩
      simp only [tRet, tRetN, tCB, tCons, tNil, tSeq, tIfS, tAsg, gName, tV, x0, x1, x2, x3, tC, tOp, e_tst, e_isB, e_tru, e_truB, e_truI, e_truN, tSp, tDrop, tNext, tNot, tOr, tAnd, tIf, e_tup, e_lst, tCont, tBreak, tAug, tAugS, tAndV, tOrV, tNotV, tChain, e_dnew, gSub, ipI, tSl, tNoPart, tPart, tMk, ex_bl, ex_int, ex_int2, ex_some, e_eqI4, e_eqS4, e_neI3, e_neS3, e_i0, e_i2, e_addI, e_addS, e_addL4, e_mulI3, e_mulS, e_ix3S, e_ix3D, e_lenS, e_strI, e_intS, e_ival, e_for, e_comp, e_rg1, e_rg2, e_en, e_rg1I, e_rg2I, e_tMt, e_lm, e_lmR, e_app, e_ext, e_bmS, e_bmSS, e_split, e_part, e_sl2S, e_isi3T, e_gTup, e_gxT, e_get3D, e_set3D, gx1, tYes, frv, x4, x5, x6, x7, x8, Function.comp, if_true, x9, if_false]
      rw [hE ht, if_neg (by decide)]
      refine ix_L ((s3'.trans s4) _ _ hl) (atI_nat (j := 0) rfl) ?_
      exact ⟨by show 3 ≤ sizeLine; decide, alloc fun t H5 s5 n5 g5 => k t kp H5 ((s3'.trans s4).trans s5) ((s3'.trans s4).free n5) g5 (k2.mono ((s3.trans s4).trans s5))⟩
    · rw [decide_eq_false ht, if_neg (by decide)]
      refine ix_L (s3' _ _ hl) (atI_nat (j := 0) rfl) ?_
      exact ⟨by show 3 ≤ sizeLine; decide, alloc fun t H5 s5 n5 g5 => k t kp H5 (s3'.trans s5) (s3'.free n5) g5 (k2.mono (s3.trans s5))⟩
end
end K2
end
section
set_option maxRecDepth 100000
set_option maxHeartbeats 4000000
set_option linter.all false
namespace K2
open PySem L2
open TX
def lineWord (s : Str) (n : Int) : Str := if n = 0 then s else s ++ "/" ++ Str.ofString (toString n)
structure Pt where
  p : PK
  feeds : List (Str × Int)
def rowOf (q : Pt) : List Str := q.p.name :: q.p.kd.word :: Str.ofString (toString q.p.time) :: q.feeds.map fun f => lineWord f.1 f.2
def lnsOf (qs : List Pt) : List Ln := qs.flatMap fun q => q.feeds.map fun f => (f.1, q.p.name, f.2)
def ptsOf (qs : List Pt) : List PK := qs.map (·.p)
def textOf (qs : List Pt) : Str := Txt.join "\n" (qs.map fun q => Txt.join " " (rowOf q))
def Kd.fit : Kd → Prop
  | .up n => 1 ≤ n ∧ n ≤ 63
  | .down n => 1 ≤ n ∧ n ≤ 63
  | _ => True
structure WOk (pts : List PK) (ls : List Ln) : Prop where
  nd : (nms pts).Nodup
  p1 : 1 ≤ pts.length
  p60 : pts.length ≤ 60
  ll : ls.length ≤ 1000
  nm : ∀ p ∈ pts, isName p.name = true
  fit : ∀ p ∈ pts, p.kd.fit
  tm : ∀ p ∈ pts, 0 ≤ p.time ∧ p.time ≤ 1000
  te : ∀ p ∈ pts, 0 < p.time → p.kd.isEnd = false
  st : ∀ l ∈ ls, 0 ≤ l.2.2 ∧ l.2.2 ≤ 100
  frm : ∀ l ∈ ls, ∃ p ∈ pts, p.name = l.1 ∧ p.kd ≠ .snk
  to : ∀ l ∈ ls, l.2.1 ∈ nms pts
structure ROk (qs : List Pt) : Prop where
  w : WOk (ptsOf qs) (lnsOf qs)
  ask : ∀ q ∈ qs, (q.feeds.length : Int) = q.p.kd.asked
  up : Up (nms (ptsOf qs)) (dir (lnsOf qs))
theorem ns_ok : ∀ c ∈ nameSigns.cps.toList, c ≠ 32 ∧ c ≠ 10 ∧ c ≠ 47 := by decide +kernel
structure WdOk (z : Str) : Prop where
  ne : z ≠ ""
  sp : 32 ∉ ls z
  nl : 10 ∉ ls z
  le : z.length ≤ 20
theorem isName_of {z : Str} (h : isName z = true) : 1 ≤ z.length ∧ z.length ≤ 8 ∧ ∀ c ∈ ls z, c ∈ nameSigns.cps.toList := by
  unfold isName at h
  rw [Bool.and_eq_true, Bool.and_eq_true] at h
  obtain ⟨h1, h2, h3⟩ := h
  have h1 := of_decide_eq_true h1
  have h2 := of_decide_eq_true h2
  refine ⟨by omega, by omega, fun c hc => ?_⟩
  exact of_decide_eq_true (List.all_eq_true.mp h3 c hc)
theorem ne_empty {z : Str} (h : 1 ≤ z.length) : z ≠ "" := fun e => by
  subst e
  revert h
  decide +kernel
theorem name_no {z : Str} (h : isName z = true) : 47 ∉ ls z := fun e => (ns_ok _ ((isName_of h).2.2 _ e)).2.2 rfl
theorem name_wd {z : Str} (h : isName z = true) : WdOk z := by
  obtain ⟨h1, h2, h3⟩ := isName_of h
  exact ⟨ne_empty h1, fun e => (ns_ok _ (h3 _ e)).1 rfl, fun e => (ns_ok _ (h3 _ e)).2.1 rfl, by omega⟩
def numOkB (n : Nat) : Bool := let z := Str.ofString (toString (n : Int)); decide (1 ≤ z.length) && (!(z.cps.toList.contains 32) && (!(z.cps.toList.contains 10) && (decide (z.length ≤ 4) && decide (numberBy z 1000 = some (n : Int)))))
theorem numOk_all : ∀ j : _root_.Fin 1001, numOkB j.val = true := by decide +kernel
theorem num100_all : ∀ j : _root_.Fin 101, numberBy (Str.ofString (toString (j.val : Int))) 100 = some (j.val : Int) := by decide +kernel
theorem num_ok {n : Int} (h0 : 0 ≤ n) (h1 : n ≤ 1000) : WdOk (Str.ofString (toString n)) ∧ (Str.ofString (toString n)).length ≤ 4 ∧ numberBy (Str.ofString (toString n)) 1000 = some n := by
  obtain ⟨m, rfl⟩ := Int.eq_ofNat_of_zero_le h0
  have h := numOk_all ⟨m, by omega⟩
  unfold numOkB at h
  simp only [Bool.and_eq_true, Bool.not_eq_true', decide_eq_true_eq] at h
  obtain ⟨a, b, d, e, f⟩ := h
  refine ⟨⟨ne_empty a, fun z => ?_, fun z => ?_, by omega⟩, e, f⟩
  · rw [List.contains_iff_mem.mpr z] at b; cases b
  · rw [List.contains_iff_mem.mpr z] at d; cases d
theorem num100 {n : Int} (h0 : 0 ≤ n) (h1 : n ≤ 100) : numberBy (Str.ofString (toString n)) 100 = some n := by
  obtain ⟨m, rfl⟩ := Int.eq_ofNat_of_zero_le h0
  exact num100_all ⟨m, by omega⟩
def kdOkB (kd : Kd) : Bool := decide (1 ≤ kd.word.length) && (!(kd.word.cps.toList.contains 32) && (!(kd.word.cps.toList.contains 10) && (decide (kd.word.length ≤ 7) && decide (kindBy kd.word = some kd))))
theorem kdOk_up : ∀ j : _root_.Fin 64, 1 ≤ j.val → kdOkB (.up (j.val : Int)) = true := by decide +kernel
theorem kdOk_down : ∀ j : _root_.Fin 64, 1 ≤ j.val → kdOkB (.down (j.val : Int)) = true := by decide +kernel
theorem kdOk_all {kd : Kd} (h : kd.fit) : kdOkB kd = true := by
  cases kd with
  | up n =>
    obtain ⟨m, rfl⟩ := Int.eq_ofNat_of_zero_le (show 0 ≤ n by have := h.1; omega)
    exact kdOk_up ⟨m, by have := h.2; omega⟩ (by have := h.1; show 1 ≤ m; omega)
  | down n =>
    obtain ⟨m, rfl⟩ := Int.eq_ofNat_of_zero_le (show 0 ≤ n by have := h.1; omega)
    exact kdOk_down ⟨m, by have := h.2; omega⟩ (by have := h.1; show 1 ≤ m; omega)
  | _ => decide +kernel
theorem kd_ok {kd : Kd} (h : kd.fit) : WdOk kd.word ∧ kd.word.length ≤ 7 ∧ kindBy kd.word = some kd := by
  have h := kdOk_all h
  unfold kdOkB at h
  simp only [Bool.and_eq_true, Bool.not_eq_true', decide_eq_true_eq] at h
  obtain ⟨a, b, d, e, f⟩ := h
  refine ⟨⟨ne_empty a, fun z => ?_, fun z => ?_, by omega⟩, e, f⟩
  · rw [List.contains_iff_mem.mpr z] at b; cases b
  · rw [List.contains_iff_mem.mpr z] at d; cases d
theorem sl_str : ("/" : Str) = ⟨#[47]⟩ := by decide +kernel
theorem len_app (x y : Str) : (x ++ y).length = x.length + y.length := by
  rw [← ls_len, ls_app, List.length_append, ls_len, ls_len]
theorem line_wd {s : Str} {n : Int} (h : isName s = true) (h0 : 0 ≤ n) (h1 : n ≤ 100) : WdOk (lineWord s n) ∧ (lineWord s n).length ≤ 13 := by
  have w := name_wd h
  have l8 := (isName_of h).2.1
  unfold lineWord
  split
  · exact ⟨w, by omega⟩
  · obtain ⟨v, v4, _⟩ := num_ok h0 (by omega)
    have e : (s ++ "/" ++ Str.ofString (toString n)).length = s.length + 1 + (Str.ofString (toString n)).length := by
      rw [len_app, len_app, show ("/" : Str).length = 1 from by decide +kernel]
    refine ⟨⟨ne_empty (by omega), ?_, ?_, by omega⟩, by omega⟩
    · rw [ls_app, ls_app, sl_str]
      intro z
      rcases List.mem_append.mp z with z | z
      · rcases List.mem_append.mp z with z | z
        · exact w.sp z
        · revert z; decide
      · exact v.sp z
    · rw [ls_app, ls_app, sl_str]
      intro z
      rcases List.mem_append.mp z with z | z
      · rcases List.mem_append.mp z with z | z
        · exact w.nl z
        · revert z; decide
      · exact v.nl z
theorem lns_mem {qs : List Pt} {q : Pt} {f : Str × Int} (hq : q ∈ qs) (hf : f ∈ q.feeds) : (f.1, q.p.name, f.2) ∈ lnsOf qs := List.mem_flatMap.mpr ⟨q, hq, List.mem_map.mpr ⟨f, hf, rfl⟩⟩
theorem pts_mem {qs : List Pt} {q : Pt} (hq : q ∈ qs) : q.p ∈ ptsOf qs := List.mem_map.mpr ⟨q, hq, rfl⟩
theorem feed_name {qs : List Pt} (ok : ROk qs) {q : Pt} {f : Str × Int} (hq : q ∈ qs) (hf : f ∈ q.feeds) : isName f.1 = true ∧ 0 ≤ f.2 ∧ f.2 ≤ 100 := by
  have m := lns_mem hq hf
  obtain ⟨p, hp, e, _⟩ := ok.w.frm _ m
  have := ok.w.nm p hp
  rw [e] at this
  exact ⟨this, ok.w.st _ m⟩
theorem row_wd {qs : List Pt} (ok : ROk qs) {q : Pt} (hq : q ∈ qs) : ∀ w ∈ rowOf q, WdOk w := by
  intro w hw
  have hp := pts_mem hq
  unfold rowOf at hw
  rcases List.mem_cons.mp hw with rfl | hw
  · exact name_wd (ok.w.nm _ hp)
  rcases List.mem_cons.mp hw with rfl | hw
  · exact (kd_ok (ok.w.fit _ hp)).1
  rcases List.mem_cons.mp hw with rfl | hw
  · exact (num_ok (ok.w.tm _ hp).1 (ok.w.tm _ hp).2).1
  · obtain ⟨f, hf, rfl⟩ := List.mem_map.mp hw
    obtain ⟨a, b, d⟩ := feed_name ok hq hf
    exact (line_wd a b d).1
theorem row_ne (q : Pt) : rowOf q ≠ [] := by unfold rowOf; simp
theorem qs_ne {qs : List Pt} (ok : ROk qs) : qs ≠ [] := fun e => by
  have := ok.w.p1
  rw [e] at this
  exact absurd this (by decide)
theorem rows_of_text {qs : List Pt} (ok : ROk qs) : rowsOf (textOf qs) = qs.map rowOf := by
  have := rows_text (rows := qs.map rowOf) (by simpa using qs_ne ok) (fun r hr => by obtain ⟨q, _, rfl⟩ := List.mem_map.mp hr; exact row_ne q) (fun r hr w hw => by
    obtain ⟨q, hq, rfl⟩ := List.mem_map.mp hr
    have := row_wd ok hq w hw
    exact ⟨this.ne, this.sp, this.nl⟩)
  rw [List.map_map] at this
  exact this
theorem row_len {qs : List Pt} (ok : ROk qs) {q : Pt} (hq : q ∈ qs) : (rowOf q).length ≤ 6 := by
  have := ok.ask q hq
  have h3 : q.p.kd.asked ≤ 3 := by cases q.p.kd <;> simp [Kd.asked]
  unfold rowOf
  simp
  omega
theorem join_row_len {qs : List Pt} (ok : ROk qs) {q : Pt} (hq : q ∈ qs) {sep : Str} (hs : sep.length ≤ 3) : ((rowOf q).map (·.length)).sum ≤ 120 ∧ (Txt.join sep (rowOf q)).length ≤ 138 := by
  have hl := row_len ok hq
  have h1 : ((rowOf q).map (·.length)).sum ≤ ((rowOf q).map (·.length)).length * 20 := sum_le fun x hx => by
    obtain ⟨w, hw, rfl⟩ := List.mem_map.mp hx
    exact (row_wd ok hq w hw).le
  rw [List.length_map] at h1
  have h2 := join_len sep (rowOf q)
  have h3 : (rowOf q).length * sep.length ≤ 6 * 3 := Nat.mul_le_mul hl hs
  have h4 : (rowOf q).length * 20 ≤ 6 * 20 := Nat.mul_le_mul_right 20 hl
  omega
theorem text_len {qs : List Pt} (ok : ROk qs) : ((qs.map fun q => Txt.join " " (rowOf q)).map (·.length)).sum ≤ 8280 ∧ (textOf qs).length ≤ 8340 := by
  have h60 := ok.w.p60
  unfold ptsOf at h60
  rw [List.length_map] at h60
  have h1 : ((qs.map fun q => Txt.join " " (rowOf q)).map (·.length)).sum ≤ ((qs.map fun q => Txt.join " " (rowOf q)).map (·.length)).length * 138 := sum_le fun x hx => by
    obtain ⟨w, hw, rfl⟩ := List.mem_map.mp hx
    obtain ⟨q, hq, rfl⟩ := List.mem_map.mp hw
    exact (join_row_len ok hq (by rw [show (" " : Str).length = 1 from by decide +kernel]; decide)).2
  rw [List.length_map, List.length_map] at h1
  have h2 := join_len "\n" (qs.map fun q => Txt.join " " (rowOf q))
  rw [List.length_map, show ("\n" : Str).length = 1 from by decide +kernel] at h2
  have h4 : qs.length * 138 ≤ 60 * 138 := Nat.mul_le_mul_right 138 h60
  unfold textOf
  omega
def shownRow (p : PK) (lns : List Ln) : List Str := p.name :: p.kd.word :: Str.ofString (toString p.time) :: (lns.filter fun l => decide (l.2.1 = p.name)).map fun l => lineWord l.1 l.2.2
def shownOf (pts : List PK) (lns : List Ln) : Str := Txt.join "\n" (pts.map fun p => Txt.join " " (shownRow p lns))
theorem shown_row {qs : List Pt} (ok : ROk qs) {q : Pt} (hq : q ∈ qs) : shownRow q.p (lnsOf qs) = rowOf q := by
  unfold shownRow rowOf
  have nd : (qs.map fun q => q.p.name).Nodup := by
    have := ok.w.nd
    unfold ptsOf nms at this
    rw [List.map_map] at this
    exact this
  have := flat_pick (fun q : Pt => q.p.name) (fun q => q.feeds) (fun q (f : Str × Int) => ((f.1, q.p.name, f.2) : Ln)) (fun l => l.2.1) (fun _ _ => rfl) qs nd q hq
  unfold lnsOf
  rw [this, List.map_map]
  rfl
theorem shown_text {qs : List Pt} (ok : ROk qs) : shownOf (ptsOf qs) (lnsOf qs) = textOf qs := by
  unfold shownOf textOf ptsOf
  rw [List.map_map]
  congr 1
  apply List.map_congr_left
  intro q hq
  show Txt.join " " (shownRow q.p (lnsOf qs)) = _
  rw [shown_row ok hq]
end K2
end
section
set_option maxRecDepth 100000
set_option maxHeartbeats 4000000
set_option linter.all false
namespace K2
open PySem L2
open TX
seal L2.PE L2.PS L2.PSs L2.PT L2.PA L2.PG L2.PI L2.PW
theorem inV_strs {s : Str} {l : List Str} : inV (.str s) (l.map V.str) = decide (s ∈ l) := by
  unfold inV
  induction l with
  | nil => rfl
  | cons a r ih =>
    rw [List.map_cons, List.any_cons, ih]
    show (eqV (.str a) (.str s) || decide (s ∈ r)) = _
    have e : eqV (.str a) (.str s) = decide (s = a) := by
      show decide (a = s) = decide (s = a)
      exact decide_eq_decide.mpr eq_comm
    rw [e]
    by_cases h : s = a <;> simp [h]
theorem flat_strs (l : List Str) : (l.map V.str).all flatV = true := by
  induction l with
  | nil => rfl
  | cons a r ih => rw [List.map_cons, List.all_cons, ih]; rfl
def spLoose (c : Cs) (cW : Addr) : Sp := fun vs H Q _ => ∃ (q pl : Addr) (pts : List PK) (ls : List Ln), vs = [.ref q, .ref pl] ∧ WorksAt c cW H q pts ls ∧ (nms pts).Nodup ∧ pts.length ≤ 1000 ∧ ls.length ≤ 10000 ∧ (∀ l ∈ ls, ∃ p ∈ pts, p.name = l.1 ∧ p.kd ≠ .snk) ∧ ∀ H', Same H H' → Q .non H'
def spRings (c : Cs) (cW : Addr) : Sp := fun vs H Q _ => ∃ (q : Addr) (pts : List PK) (ls : List Ln), vs = [.ref q] ∧ WorksAt c cW H q pts ls ∧ (nms pts).Nodup ∧ pts.length ≤ 1000 ∧ ls.length ≤ 10000 ∧ (∀ l ∈ ls, l.2.1 ∈ nms pts) ∧ Up (nms pts) (dir ls) ∧ ∀ H', Same H H' → Q .non H'
def spLineWord : Sp := fun vs H Q _ => ∃ (s : Str) (n : Int), vs = [.str s, .int n] ∧ s.length ≤ 900 ∧ 0 ≤ n ∧ n ≤ 100000 ∧ Q (.str (lineWord s n)) H
def spShown (c : Cs) (cW : Addr) : Sp := fun vs H Q _ => ∃ (q : Addr) (pts : List PK) (ls : List Ln), vs = [.ref q] ∧ WorksAt c cW H q pts ls ∧ WOk pts ls ∧ ∀ H', Same H H' → Q (.str (shownOf pts ls)) H'
theorem shown_le {pts : List PK} {ls : List Ln} (ok : WOk pts ls) {p : PK} (hp : p ∈ pts) : ((shownRow p ls).map (·.length)).sum ≤ 20060 ∧ (shownRow p ls).length ≤ 1003 ∧ (Txt.join " " (shownRow p ls)).length ≤ 21063 := by
  have hw : ∀ w ∈ shownRow p ls, w.length ≤ 20 := by
    intro w hw
    unfold shownRow at hw
    rcases List.mem_cons.mp hw with rfl | hw
    · exact (name_wd (ok.nm _ hp)).le
    rcases List.mem_cons.mp hw with rfl | hw
    · exact (kd_ok (ok.fit _ hp)).1.le
    rcases List.mem_cons.mp hw with rfl | hw
    · exact (num_ok (ok.tm _ hp).1 (ok.tm _ hp).2).1.le
    · obtain ⟨l, hl, rfl⟩ := List.mem_map.mp hw
      have hl := (List.mem_filter.mp hl).1
      obtain ⟨p', hp', e, _⟩ := ok.frm l hl
      have := ok.nm p' hp'
      rw [e] at this
      exact (line_wd this (ok.st l hl).1 (ok.st l hl).2).1.le
  have hl : (shownRow p ls).length ≤ 1003 := by
    unfold shownRow
    have := List.length_filter_le (fun l : Ln => decide (l.2.1 = p.name)) ls
    have := ok.ll
    simp only [List.length_cons, List.length_map]
    omega
  have h1 : ((shownRow p ls).map (·.length)).sum ≤ ((shownRow p ls).map (·.length)).length * 20 := sum_le fun x hx => by
    obtain ⟨w, hw', rfl⟩ := List.mem_map.mp hx
    exact hw w hw'
  rw [List.length_map] at h1
  have h2 := join_len " " (shownRow p ls)
  rw [show (" " : Str).length = 1 from by decide +kernel] at h2
  have h4 : (shownRow p ls).length * 20 ≤ 1003 * 20 := Nat.mul_le_mul_right 20 hl
  omega
theorem shown_all {pts : List PK} {ls : List Ln} (ok : WOk pts ls) : ((pts.map fun p => Txt.join " " (shownRow p ls)).map (·.length)).sum ≤ 1263780 := by
  have h1 : ((pts.map fun p => Txt.join " " (shownRow p ls)).map (·.length)).sum ≤ ((pts.map fun p => Txt.join " " (shownRow p ls)).map (·.length)).length * 21063 := sum_le fun x hx => by
    obtain ⟨w, hw, rfl⟩ := List.mem_map.mp hx
    obtain ⟨q, hq, rfl⟩ := List.mem_map.mp hw
    exact (shown_le ok hq).2.2
  rw [List.length_map, List.length_map] at h1
  have h4 : pts.length * 21063 ≤ 60 * 21063 := Nat.mul_le_mul_right _ ok.p60
  omega
section
variable {P : Program} {w : World} {K : PySem.W.Frag} {mg : Str → Option Value} {base : Heap} {c : Cs} {cW : Addr}
abbrev s_refuse_loose : Stmt := top 39
theorem sc_refuse_loose : FnSc ["works", "places", "givers", "start", "end", "stores"] ["works", "places"] [] (defScope s_refuse_loose) := ⟨⟨rfl, rfl, rfl, by decide +kernel, rfl, by decide +kernel, by decide +kernel⟩, by decide +kernel, by decide +kernel, by decide +kernel⟩
theorem cs_refuse_loose_0 : CompSc ["name"] ["works"] (scopeOf (kidS (bodyAt (top 39) 0) 0)) (defScope s_refuse_loose) := ⟨rfl, by decide +kernel, by decide +kernel, by decide +kernel, by decide +kernel, by decide +kernel, by decide +kernel⟩
theorem cn_refuse_loose_0 : ∀ x ∈ ((["name"] : List Str) ++ (["works"] : List Str)), (x == ("__debug__" : Str)) = false ∧ (x == ("__classdict__" : Str)) = false := by decide +kernel
theorem ok_refuse_loose {f : Addr} {fd : FuncData} (F : Fun K "refuse_loose" "refuse_loose" s_refuse_loose f fd) (kc : KC P w K mg base c) (mN : M_names P w K mg base cW (spWNames c cW)) (mL : M_lines P w K mg base cW (spWLines c cW)) (mK : M_kind P w K mg base cW (spWKind c cW)) (v_Sink : mg "Sink" = some (.ref c.snk) ∧ RelV (.ref c.snk) (.ref c.snk)) (n_isinstance : mg "isinstance" = none) : FnOk P w K mg base CX0 2 f fd ["works", "places"] (spLoose c cW) := by
  refine F.ok sc_refuse_loose.S (fun vs H Q E h => ?_) (fun cdv A outer s H vs Q E hr h => ?_)
  · obtain ⟨q, pl, pts, ls, rfl, _⟩ := h
    rfl
  · obtain ⟨q, pl, pts, ls, rfl, hW, nd, hpts, hls, hfr, k⟩ := h
    have S := sc_refuse_loose.sx (CX := CX0) (P := P) (w := w) (K := K) (mg := mg) (base := base) (qual := "refuse_loose") (f := f) (cd := cdv) (A := A) (outer := outer) (s := s) (H := H) (E := E)
    have hU := hr.units
    have S0 : CompSc ["name"] ["works"] (scopeOf (kidS (bodyAt (top 39) 0) 0)) (cxOf CX0 P w K mg base ["works", "places", "givers", "start", "end", "stores"] "refuse_loose" (defScope s_refuse_loose) f cdv A outer s H E).nox.env.scope := cs_refuse_loose_0
    have K0 := fun C s₀ H₀ ex => S0.sx (C := C) (s₀ := s₀) (H₀ := H₀) (ex := ex) rfl cn_refuse_loose_0
    refine ⟨_, (pss_cons (ps_cp S 2 S0 (js := [0]) rfl rfl (i_val (K := K) rfl (m_call0 1 (hr.mono (by decide)) (MS := M_names P w K mg base) (fun _ _ h => h) (nv S 0))) (pg1 S0) (fun C s₀ H₀ ex => (pts_one (pt_not (pt_tr (K := K) rfl (k_isinstance3 (K := K) rfl (comp_gl rfl) n_isinstance (pa_cons (m_call 1 (hr.mono (by decide)) (MS := M_kind P w K mg base) (fun _ _ h => h) (nv (K0 C s₀ H₀ ex) 1) (pa_cons (nv (K0 C s₀ H₀ ex) 0) pa_nil)) (pa_cons (g_val (comp_gl rfl) v_Sink.1 v_Sink.2) pa_nil))))))) (fun C s₀ H₀ ex => (nv (K0 C s₀ H₀ ex) 0)))
      (pss_one (ps_for PassesOwn.never rfl (i_val (K := K) rfl (m_call0 1 (hr.mono (by decide)) (MS := M_lines P w K mg base) (fun _ _ h => h) (nv S 0))) (pg_tup rfl (pgs_cons (pn S 3) (pgs_cons (pn S 4) (pgs_cons (pn S 5) pgs_nil)))) (pss_one (ps_if (pt_of (o_notin3 (K := K) rfl hU) (nv S 3) (nv S 2)) (pss_one ps_never) pss_nil))))), ?_⟩
    show (_ : TS) _ [some (.ref q), some (.ref pl), none, none, none, none] H
    simp only [tRet, tRetN, tCB, tCons, tNil, tSeq, tIfS, tAsg, gName, tV, x0, x1, x2, x3, tC, tOp, e_tst, e_isB, e_tru, e_truB, e_truI, e_truN, tSp, tDrop, tNext, tNot, tOr, tAnd, tIf, e_tup, e_lst, tCont, tBreak, tAug, tAugS, tAndV, tOrV, tNotV, tChain, e_dnew, gSub, ipI, tSl, tNoPart, tPart, tMk, ex_bl, ex_int, ex_int2, ex_some, e_eqI4, e_eqS4, e_neI3, e_neS3, e_i0, e_i2, e_addI, e_addS, e_addL4, e_mulI3, e_mulS, e_ix3S, e_ix3D, e_lenS, e_strI, e_intS, e_ival, e_for, e_comp, e_rg1, e_rg2, e_en, e_rg1I, e_rg2I, e_tMt, e_lm, e_lmR, e_app, e_ext, e_bmS, e_bmSS, e_split, e_part, e_sl2S, e_isi3T, e_gTup, e_gxT, e_get3D, e_set3D, gx1, tYes, frv, x4, x5, x6, x7, x8, Function.comp, if_true, x9, if_false]
    refine mt_names hW mN fun l1 H1 s1 n1 g1 => ?_
    have W1 := hW.mono s1
    refine comp_L (xs := (nms pts).map V.str) (SqL.of g1) (fun i ys H' => H' = H1 ∧ ys = (((pts.take i).filter fun p => !decide (p.kd = .snk)).map (·.name)).map V.str) ⟨rfl, rfl⟩ (by rw [List.length_map, List.length_map]; exact small_size (by omega)) (fun i ys H' hi h => ?_) (fun i ys H' hi h => by rw [h.1]; exact SqL.of g1) (fun i x ys H2 hi hx h => ?_) (fun ys H2 h => ?_)
    · rw [h.2, List.length_map, List.length_map]
      exact Nat.le_trans (List.length_filter_le _ _) (by rw [List.length_take]; exact Nat.min_le_left _ _)
    · obtain ⟨rfl, rfl⟩ := h
      obtain ⟨n, hn, rfl⟩ := get_map hx
      obtain ⟨p, hp, rfl⟩ := get_map hn
      simp only [tRet, tRetN, tCB, tCons, tNil, tSeq, tIfS, tAsg, gName, tV, x0, x1, x2, x3, tC, tOp, e_tst, e_isB, e_tru, e_truB, e_truI, e_truN, tSp, tDrop, tNext, tNot, tOr, tAnd, tIf, e_tup, e_lst, tCont, tBreak, tAug, tAugS, tAndV, tOrV, tNotV, tChain, e_dnew, gSub, ipI, tSl, tNoPart, tPart, tMk, ex_bl, ex_int, ex_int2, ex_some, e_eqI4, e_eqS4, e_neI3, e_neS3, e_i0, e_i2, e_addI, e_addS, e_addL4, e_mulI3, e_mulS, e_ix3S, e_ix3D, e_lenS, e_strI, e_intS, e_ival, e_for, e_comp, e_rg1, e_rg2, e_en, e_rg1I, e_rg2I, e_tMt, e_lm, e_lmR, e_app, e_ext, e_bmS, e_bmSS, e_split, e_part, e_sl2S, e_isi3T, e_gTup, e_gxT, e_get3D, e_set3D, gx1, tYes, frv, x4, x5, x6, x7, x8, Function.comp, if_true, x9, if_false]
      refine mt_kind W1 mK ?_
      refine ⟨q, p.name, pts, ls, i, p, rfl, W1, nd, hp, rfl, fun kp hk => ?_⟩
      obtain ⟨dx, hk⟩ := hk
      rw [e_isi3]
      refine .inl ⟨_, _, kc.isT _ _ _ _ _ hk, kc.kS p.kd, ?_⟩
      simp only [tRet, tRetN, tCB, tCons, tNil, tSeq, tIfS, tAsg, gName, tV, x0, x1, x2, x3, tC, tOp, e_tst, e_isB, e_tru, e_truB, e_truI, e_truN, tSp, tDrop, tNext, tNot, tOr, tAnd, tIf, e_tup, e_lst, tCont, tBreak, tAug, tAugS, tAndV, tOrV, tNotV, tChain, e_dnew, gSub, ipI, tSl, tNoPart, tPart, tMk, ex_bl, ex_int, ex_int2, ex_some, e_eqI4, e_eqS4, e_neI3, e_neS3, e_i0, e_i2, e_addI, e_addS, e_addL4, e_mulI3, e_mulS, e_ix3S, e_ix3D, e_lenS, e_strI, e_intS, e_ival, e_for, e_comp, e_rg1, e_rg2, e_en, e_rg1I, e_rg2I, e_tMt, e_lm, e_lmR, e_app, e_ext, e_bmS, e_bmSS, e_split, e_part, e_sl2S, e_isi3T, e_gTup, e_gxT, e_get3D, e_set3D, gx1, tYes, frv, x4, x5, x6, x7, x8, Function.comp, if_true, x9, if_false]
      rw [take_get hp, List.filter_append, List.map_append, List.map_append]
      refine ite2 (fun h0 => ?_) (fun h0 => ?_)
      · refine ⟨trivial, ?_⟩
        simp only [Bool.not_eq_true'] at h0
        simp [h0]
      · refine ⟨trivial, ?_⟩
        simp only [Bool.not_eq_true', Bool.not_eq_false] at h0
        simp [h0]
    obtain ⟨rfl, rfl⟩ := h
    rw [List.length_map, List.length_map, List.take_length]
    refine alloc fun pg H3 s3 n3 g3 => ?_
    have W3 := W1.mono s3
    refine mt_lines W3 mL fun l2 lv H4 s4 n4 g4 t4 => ?_
    refine for_L (xs := lv) (SqL.of g4) (fun i σ H' => H' = H4 ∧ ∃ o3 o4 o5, σ = [some (.ref q), some (.ref pl), some (.ref pg), o3, o4, o5]) ⟨rfl, _, _, _, rfl⟩ (fun i σ H' hi h => by rw [h.1]; exact SqL.of g4) (fun i x σ H5 hi hx h => ?_) (fun σ H5 h => ?_)
    · obtain ⟨rfl, o3, o4, o5, rfl⟩ := h
      obtain ⟨p, row, rfl, hr, hp⟩ := t4.at hx
      obtain ⟨l, hl, rfl⟩ := get_map hr
      rw [e_gTup]
      refine ⟨_, SqT.of hp, rfl, ?_⟩
      simp only [lrow, e_gCons, e_gNil, tRet, tRetN, tCB, tCons, tNil, tSeq, tIfS, tAsg, gName, tV, x0, x1, x2, x3, tC, tOp, e_tst, e_isB, e_tru, e_truB, e_truI, e_truN, tSp, tDrop, tNext, tNot, tOr, tAnd, tIf, e_tup, e_lst, tCont, tBreak, tAug, tAugS, tAndV, tOrV, tNotV, tChain, e_dnew, gSub, ipI, tSl, tNoPart, tPart, tMk, ex_bl, ex_int, ex_int2, ex_some, e_eqI4, e_eqS4, e_neI3, e_neS3, e_i0, e_i2, e_addI, e_addS, e_addL4, e_mulI3, e_mulS, e_ix3S, e_ix3D, e_lenS, e_strI, e_intS, e_ival, e_for, e_comp, e_rg1, e_rg2, e_en, e_rg1I, e_rg2I, e_tMt, e_lm, e_lmR, e_app, e_ext, e_bmS, e_bmSS, e_split, e_part, e_sl2S, e_isi3T, e_gTup, e_gxT, e_get3D, e_set3D, gx1, tYes, frv, x4, x5, x6, x7, x8, Function.comp, if_true, x9, if_false]
      refine .inl ⟨_, .inl (SqL.of (s4 _ _ g3)), rfl, flat_strs _, ?_⟩
      rw [inV_strs]
      obtain ⟨p', hp', e, ns⟩ := hfr l (List.mem_of_getElem? hl)
      have hin : l.1 ∈ (pts.filter fun p => !decide (p.kd = .snk)).map (·.name) := List.mem_map.mpr ⟨p', List.mem_filter.mpr ⟨hp', by simp [ns]⟩, e⟩
      rw [decide_eq_true hin]
      simp only [tRet, tRetN, tCB, tCons, tNil, tSeq, tIfS, tAsg, gName, tV, x0, x1, x2, x3, tC, tOp, e_tst, e_isB, e_tru, e_truB, e_truI, e_truN, tSp, tDrop, tNext, tNot, tOr, tAnd, tIf, e_tup, e_lst, tCont, tBreak, tAug, tAugS, tAndV, tOrV, tNotV, tChain, e_dnew, gSub, ipI, tSl, tNoPart, tPart, tMk, ex_bl, ex_int, ex_int2, ex_some, e_eqI4, e_eqS4, e_neI3, e_neS3, e_i0, e_i2, e_addI, e_addS, e_addL4, e_mulI3, e_mulS, e_ix3S, e_ix3D, e_lenS, e_strI, e_intS, e_ival, e_for, e_comp, e_rg1, e_rg2, e_en, e_rg1I, e_rg2I, e_tMt, e_lm, e_lmR, e_app, e_ext, e_bmS, e_bmSS, e_split, e_part, e_sl2S, e_isi3T, e_gTup, e_gxT, e_get3D, e_set3D, gx1, tYes, frv, x4, x5, x6, x7, x8, Function.comp, if_true, x9, if_false]
      exact ⟨trivial, _, _, _, rfl⟩
    · obtain ⟨rfl, o3, o4, o5, rfl⟩ := h
      exact k _ ((s1.trans s3).trans s4)
abbrev s_refuse_rings : Stmt := top 40
theorem sc_refuse_rings : FnSc ["works"] ["works"] ["len", "settled"] (defScope s_refuse_rings) := ⟨⟨rfl, rfl, rfl, by decide +kernel, rfl, by decide +kernel, by decide +kernel⟩, by decide +kernel, by decide +kernel, by decide +kernel⟩
theorem ok_refuse_rings {f : Addr} {fd : FuncData} (F : Fun K "refuse_rings" "refuse_rings" s_refuse_rings f fd) (C_settled : Cal P w K mg base 2 "settled" ["works"] (spSettled c cW)) (mN : M_names P w K mg base cW (spWNames c cW)) (n_len : mg "len" = none) : FnOk P w K mg base CX0 3 f fd ["works"] (spRings c cW) := by
  refine F.ok sc_refuse_rings.S (fun vs H Q E h => ?_) (fun cdv A outer s H vs Q E hr h => ?_)
  · obtain ⟨q, pts, ls, rfl, _⟩ := h
    rfl
  · obtain ⟨q, pts, ls, rfl, hW, nd, hpts, hls, hto, up, k⟩ := h
    have S := sc_refuse_rings.sx (CX := CX0) (P := P) (w := w) (K := K) (mg := mg) (base := base) (qual := "refuse_rings") (f := f) (cd := cdv) (A := A) (outer := outer) (s := s) (H := H) (E := E)
    have Sg := fun i {x} h => sc_refuse_rings.gx (CX := CX0) (P := P) (w := w) (K := K) (mg := mg) (base := base) (qual := "refuse_rings") (f := f) (cd := cdv) (A := A) (outer := outer) (s := s) (H := H) (E := E) i (x := x) h
    have hU := hr.units
    refine ⟨_, (pss_one (ps_if (pt_of o_lt (k_len (K := K) rfl (Sg 0 rfl) n_len (pa_cons (c_call C_settled (hr.mono (by decide)) (Sg 1 rfl) (pa_cons (nv S 0) pa_nil)) pa_nil)) (k_len (K := K) rfl (Sg 0 rfl) n_len (pa_cons (m_call0 1 (hr.mono (by decide)) (MS := M_names P w K mg base) (fun _ _ h => h) (nv S 0)) pa_nil))) (pss_one ps_never) pss_nil)), ?_⟩
    show (_ : TS) _ [some (.ref q)] H
    simp only [tRet, tRetN, tCB, tCons, tNil, tSeq, tIfS, tAsg, gName, tV, x0, x1, x2, x3, tC, tOp, e_tst, e_isB, e_tru, e_truB, e_truI, e_truN, tSp, tDrop, tNext, tNot, tOr, tAnd, tIf, e_tup, e_lst, tCont, tBreak, tAug, tAugS, tAndV, tOrV, tNotV, tChain, e_dnew, gSub, ipI, tSl, tNoPart, tPart, tMk, ex_bl, ex_int, ex_int2, ex_some, e_eqI4, e_eqS4, e_neI3, e_neS3, e_i0, e_i2, e_addI, e_addS, e_addL4, e_mulI3, e_mulS, e_ix3S, e_ix3D, e_lenS, e_strI, e_intS, e_ival, e_for, e_comp, e_rg1, e_rg2, e_en, e_rg1I, e_rg2I, e_tMt, e_lm, e_lmR, e_app, e_ext, e_bmS, e_bmSS, e_split, e_part, e_sl2S, e_isi3T, e_gTup, e_gxT, e_get3D, e_set3D, gx1, tYes, frv, x4, x5, x6, x7, x8, Function.comp, if_true, x9, if_false]
    refine ⟨q, pts, ls, rfl, hW, nd, hpts, hls, hto, fun p order H1 s1 n1 g1 ko => ?_⟩
    simp only []
    refine len_L g1 ?_
    refine mt_names (hW.mono s1) mN fun l2 H2 s2 n2 g2 => ?_
    refine len_L g2 ?_
    simp only [tRet, tRetN, tCB, tCons, tNil, tSeq, tIfS, tAsg, gName, tV, x0, x1, x2, x3, tC, tOp, e_tst, e_isB, e_tru, e_truB, e_truI, e_truN, tSp, tDrop, tNext, tNot, tOr, tAnd, tIf, e_tup, e_lst, tCont, tBreak, tAug, tAugS, tAndV, tOrV, tNotV, tChain, e_dnew, gSub, ipI, tSl, tNoPart, tPart, tMk, ex_bl, ex_int, ex_int2, ex_some, e_eqI4, e_eqS4, e_neI3, e_neS3, e_i0, e_i2, e_addI, e_addS, e_addL4, e_mulI3, e_mulS, e_ix3S, e_ix3D, e_lenS, e_strI, e_intS, e_ival, e_for, e_comp, e_rg1, e_rg2, e_en, e_rg1I, e_rg2I, e_tMt, e_lm, e_lmR, e_app, e_ext, e_bmS, e_bmSS, e_split, e_part, e_sl2S, e_isi3T, e_gTup, e_gxT, e_get3D, e_set3D, gx1, tYes, frv, x4, x5, x6, x7, x8, Function.comp, if_true, x9, if_false]
    have e := ko_len nd up ko
    rw [if_neg (by simp only [List.length_map] at e ⊢; simp; omega)]
    exact k H2 (s1.trans s2)
abbrev s_line_word : Stmt := top 42
theorem sc_line_word : FnSc ["start", "stores"] ["start", "stores"] ["str"] (defScope s_line_word) := ⟨⟨rfl, rfl, rfl, by decide +kernel, rfl, by decide +kernel, by decide +kernel⟩, by decide +kernel, by decide +kernel, by decide +kernel⟩
theorem ok_line_word {f : Addr} {fd : FuncData} (F : Fun K "line_word" "line_word" s_line_word f fd) (n_str : mg "str" = none) : FnOk P w K mg base CX0 1 f fd ["start", "stores"] spLineWord := by
  refine F.ok sc_line_word.S (fun vs H Q E h => ?_) (fun cdv A outer s H vs Q E hr h => ?_)
  · obtain ⟨sg, n, rfl, _⟩ := h
    rfl
  · obtain ⟨sg, n, rfl, hs, h0, h1, k⟩ := h
    have S := sc_line_word.sx (CX := CX0) (P := P) (w := w) (K := K) (mg := mg) (base := base) (qual := "line_word") (f := f) (cd := cdv) (A := A) (outer := outer) (s := s) (H := H) (E := E)
    have Sg := fun i {x} h => sc_line_word.gx (CX := CX0) (P := P) (w := w) (K := K) (mg := mg) (base := base) (qual := "line_word") (f := f) (cd := cdv) (A := A) (outer := outer) (s := s) (H := H) (E := E) i (x := x) h
    have hU := hr.units
    refine ⟨_, (pss_one (ps_ret (pe_ifExp (pt_of (o_eq4 (K := K) rfl hU) (nv S 1) pe_int) (nv S 0) (pe_op o_add (pe_op o_add (nv S 0) pe_str) (k_str (Sg 0 rfl) n_str (pa_cons (nv S 1) pa_nil)))))), ?_⟩
    show (_ : TS) _ [some (.str sg), some (.int n)] H
    simp only [tRet, tRetN, tCB, tCons, tNil, tSeq, tIfS, tAsg, gName, tV, x0, x1, x2, x3, tC, tOp, e_tst, e_isB, e_tru, e_truB, e_truI, e_truN, tSp, tDrop, tNext, tNot, tOr, tAnd, tIf, e_tup, e_lst, tCont, tBreak, tAug, tAugS, tAndV, tOrV, tNotV, tChain, e_dnew, gSub, ipI, tSl, tNoPart, tPart, tMk, ex_bl, ex_int, ex_int2, ex_some, e_eqI4, e_eqS4, e_neI3, e_neS3, e_i0, e_i2, e_addI, e_addS, e_addL4, e_mulI3, e_mulS, e_ix3S, e_ix3D, e_lenS, e_strI, e_intS, e_ival, e_for, e_comp, e_rg1, e_rg2, e_en, e_rg1I, e_rg2I, e_tMt, e_lm, e_lmR, e_app, e_ext, e_bmS, e_bmSS, e_split, e_part, e_sl2S, e_isi3T, e_gTup, e_gxT, e_get3D, e_set3D, gx1, tYes, frv, x4, x5, x6, x7, x8, Function.comp, if_true, x9, if_false]
    refine ite2 (fun h => ?_) (fun h => ?_)
    · have h := of_decide_eq_true h
      unfold lineWord at k
      rw [if_pos h] at k
      exact k
    · have h := of_decide_eq_false (Bool.eq_false_iff.mpr h)
      unfold lineWord at k
      rw [if_neg h] at k
      have el : ("/" : Str).length = 1 := by decide +kernel
      refine ⟨small_size (by rw [show (Str.ofString "/").length = 1 from el]; omega), small_log (by omega), small_add (by rw [len_app, show (Str.ofString "/").length = 1 from el]; omega) (by omega), k⟩
abbrev s_shown : Stmt := top 43
theorem sc_shown : FnSc ["works", "rows", "name", "words"] ["works"] ["str"] (defScope s_shown) := ⟨⟨rfl, rfl, rfl, by decide +kernel, rfl, by decide +kernel, by decide +kernel⟩, by decide +kernel, by decide +kernel, by decide +kernel⟩
theorem cs_shown_0 : CompSc ["start", "end", "stores"] ["name"] (scopeOf (kidE (kidS (kidSS (bodyAt (top 43) 1) 1) 0) 1)) (defScope s_shown) := ⟨rfl, by decide +kernel, by decide +kernel, by decide +kernel, by decide +kernel, by decide +kernel, by decide +kernel⟩
theorem cn_shown_0 : ∀ x ∈ ((["start", "end", "stores"] : List Str) ++ (["name"] : List Str)), (x == ("__debug__" : Str)) = false ∧ (x == ("__classdict__" : Str)) = false := by decide +kernel
theorem ok_shown {f : Addr} {fd : FuncData} (F : Fun K "shown" "shown" s_shown f fd) (kc : KC P w K mg base c) (mN : M_names P w K mg base cW (spWNames c cW)) (mL : M_lines P w K mg base cW (spWLines c cW)) (mK : M_kind P w K mg base cW (spWKind c cW)) (mT : M_time P w K mg base cW (spWTime c cW)) (C_line_word : Cal P w K mg base 1 "line_word" ["start", "stores"] spLineWord) (n_str : mg "str" = none) : FnOk P w K mg base CX0 2 f fd ["works"] (spShown c cW) := by
  refine F.ok sc_shown.S (fun vs H Q E h => ?_) (fun cdv A outer s H vs Q E hr h => ?_)
  · obtain ⟨q, pts, ls, rfl, _⟩ := h
    rfl
  · obtain ⟨q, pts, ls, rfl, hW, ok, k⟩ := h
    have S := sc_shown.sx (CX := CX0) (P := P) (w := w) (K := K) (mg := mg) (base := base) (qual := "shown") (f := f) (cd := cdv) (A := A) (outer := outer) (s := s) (H := H) (E := E)
    have Sg := fun i {x} h => sc_shown.gx (CX := CX0) (P := P) (w := w) (K := K) (mg := mg) (base := base) (qual := "shown") (f := f) (cd := cdv) (A := A) (outer := outer) (s := s) (H := H) (E := E) i (x := x) h
    have hU := hr.units
    have S0 : CompSc ["start", "end", "stores"] ["name"] (scopeOf (kidE (kidS (kidSS (bodyAt (top 43) 1) 1) 0) 1)) (cxOf CX0 P w K mg base ["works", "rows", "name", "words"] "shown" (defScope s_shown) f cdv A outer s H E).nox.env.scope := cs_shown_0
    have K0 := fun C s₀ H₀ ex => S0.sx (C := C) (s₀ := s₀) (H₀ := H₀) (ex := ex) rfl cn_shown_0
    refine ⟨_, (pss_cons (ps_st S 1 (pe_lst pa_nil))
      (pss_cons (ps_for PassesOwn.never rfl (i_val (K := K) rfl (m_call0 1 (hr.mono (by decide)) (MS := M_names P w K mg base) (fun _ _ h => h) (nv S 0))) (pn S 2) (pss_cons (ps_st S 3 (pe_lst (pa_cons (nv S 2) (pa_cons (m_call0 1 (hr.mono (by decide)) (MS := M_word P w K mg base) (fun _ _ h => h) (m_call 1 (hr.mono (by decide)) (MS := M_kind P w K mg base) (fun _ _ h => h) (nv S 0) (pa_cons (nv S 2) pa_nil))) (pa_cons (k_str (Sg 0 rfl) n_str (pa_cons (m_call 1 (hr.mono (by decide)) (MS := M_time P w K mg base) (fun _ _ h => h) (nv S 0) (pa_cons (nv S 2) pa_nil)) pa_nil)) pa_nil)))))
      (pss_cons (ps_expr (m_extend (K := K) rfl (nv S 3) (pa_cons (pe_cp S0 (js := [2]) rfl rfl (i_val (K := K) rfl (m_call0 1 (hr.mono (by decide)) (MS := M_lines P w K mg base) (fun _ _ h => h) (nv S 0))) (pg3 (K := K) rfl rfl S0) (fun C s₀ H₀ ex => (pts_one (pt_of (o_eq4 (K := K) rfl hU) (nv (K0 C s₀ H₀ ex) 1) (nv (K0 C s₀ H₀ ex) 3)))) (fun C s₀ H₀ ex => (c_call C_line_word (hr.mono (by decide)) (comp_gl rfl) (pa_cons (nv (K0 C s₀ H₀ ex) 0) (pa_cons (nv (K0 C s₀ H₀ ex) 2) pa_nil))))) pa_nil)))
      (pss_one (ps_expr (m_append (K := K) rfl (nv S 1) (pa_cons (m_join (K := K) rfl pe_str (pa_cons (nv S 3) pa_nil)) pa_nil)))))))
      (pss_one (ps_ret (m_join (K := K) rfl pe_str (pa_cons (nv S 1) pa_nil)))))), ?_⟩
    show (_ : TS) _ [some (.ref q), none, none, none] H
    simp only [tRet, tRetN, tCB, tCons, tNil, tSeq, tIfS, tAsg, gName, tV, x0, x1, x2, x3, tC, tOp, e_tst, e_isB, e_tru, e_truB, e_truI, e_truN, tSp, tDrop, tNext, tNot, tOr, tAnd, tIf, e_tup, e_lst, tCont, tBreak, tAug, tAugS, tAndV, tOrV, tNotV, tChain, e_dnew, gSub, ipI, tSl, tNoPart, tPart, tMk, ex_bl, ex_int, ex_int2, ex_some, e_eqI4, e_eqS4, e_neI3, e_neS3, e_i0, e_i2, e_addI, e_addS, e_addL4, e_mulI3, e_mulS, e_ix3S, e_ix3D, e_lenS, e_strI, e_intS, e_ival, e_for, e_comp, e_rg1, e_rg2, e_en, e_rg1I, e_rg2I, e_tMt, e_lm, e_lmR, e_app, e_ext, e_bmS, e_bmSS, e_split, e_part, e_sl2S, e_isi3T, e_gTup, e_gxT, e_get3D, e_set3D, gx1, tYes, frv, x4, x5, x6, x7, x8, Function.comp, if_true, x9, if_false]
    have h60 := ok.p60
    have hll := ok.ll
    refine ⟨by show 0 ≤ sizeLine; decide, alloc fun pr H1 s1 n1 g1 => ?_⟩
    refine mt_names (hW.mono s1) mN fun l2 H2 s2 n2 g2 => ?_
    refine for_L (xs := (nms pts).map V.str) (SqL.of g2) (fun i σ H' => Same H H' ∧ H' l2 = some (.lst ((nms pts).map V.str)) ∧ H' pr = some (.lst (((pts.take i).map fun p => Txt.join " " (shownRow p ls)).map V.str)) ∧ ∃ o2 o3, σ = [some (.ref q), some (.ref pr), o2, o3]) ⟨s1.trans s2, g2, s2 _ _ g1, _, _, rfl⟩ (fun i σ H' hi h => SqL.of h.2.1) (fun i x σ H3 hi hx h => ?_) (fun σ H3 h => ?_)
    · obtain ⟨s3, l3, g3, o2, o3, rfl⟩ := h
      obtain ⟨n, hn, rfl⟩ := get_map hx
      obtain ⟨p, hp, rfl⟩ := get_map hn
      have hpm : p ∈ pts := List.mem_of_getElem? hp
      have hip : i < pts.length := (List.getElem?_eq_some_iff.mp hp).1
      have W3 := hW.mono s3
      simp only [tRet, tRetN, tCB, tCons, tNil, tSeq, tIfS, tAsg, gName, tV, x0, x1, x2, x3, tC, tOp, e_tst, e_isB, e_tru, e_truB, e_truI, e_truN, tSp, tDrop, tNext, tNot, tOr, tAnd, tIf, e_tup, e_lst, tCont, tBreak, tAug, tAugS, tAndV, tOrV, tNotV, tChain, e_dnew, gSub, ipI, tSl, tNoPart, tPart, tMk, ex_bl, ex_int, ex_int2, ex_some, e_eqI4, e_eqS4, e_neI3, e_neS3, e_i0, e_i2, e_addI, e_addS, e_addL4, e_mulI3, e_mulS, e_ix3S, e_ix3D, e_lenS, e_strI, e_intS, e_ival, e_for, e_comp, e_rg1, e_rg2, e_en, e_rg1I, e_rg2I, e_tMt, e_lm, e_lmR, e_app, e_ext, e_bmS, e_bmSS, e_split, e_part, e_sl2S, e_isi3T, e_gTup, e_gxT, e_get3D, e_set3D, gx1, tYes, frv, x4, x5, x6, x7, x8, Function.comp, if_true, x9, if_false]
      refine mt_kind W3 mK ?_
      refine ⟨q, p.name, pts, ls, i, p, rfl, W3, ok.nd, hp, rfl, fun kp hk => ?_⟩
      refine mt_kword kc hk ?_
      refine mt_time W3 mT ?_
      refine ⟨q, p.name, pts, ls, i, p, rfl, W3, ok.nd, hp, rfl, ?_⟩
      have tm := ok.tm p hpm
      simp only []
      rw [e_strI]
      refine ⟨small_log (by omega), by show 3 ≤ sizeLine; decide, alloc fun pw H4 s4 n4 g4 => ?_⟩
      refine ⟨⟨_, SqL.of g4⟩, ?_⟩
      refine mt_lines (W3.mono s4) mL fun l5 lv H5 s5 n5 g5 t5 => ?_
      have lvl : lv.length = ls.length := by rw [t5.1, List.length_map]
      refine comp_L (xs := lv) (SqL.of g5) (fun j ys H' => H' = H5 ∧ ys = ((((ls.take j).filter fun l => decide (l.2.1 = p.name))).map fun l => lineWord l.1 l.2.2).map V.str) ⟨rfl, rfl⟩ (small_size (by omega)) (fun j ys H' hj h => ?_) (fun j ys H' hj h => by rw [h.1]; exact SqL.of g5) (fun j x ys H6 hj hx h => ?_) (fun ys H6 h => ?_)
      · rw [h.2, List.length_map, List.length_map]
        exact Nat.le_trans (List.length_filter_le _ _) (by rw [List.length_take]; exact Nat.min_le_left _ _)
      · obtain ⟨rfl, rfl⟩ := h
        obtain ⟨p5, row, rfl, hr, hp5⟩ := t5.at hx
        obtain ⟨l, hl, rfl⟩ := get_map hr
        have hlm : l ∈ ls := List.mem_of_getElem? hl
        rw [e_gxT]
        refine ⟨_, SqT.of hp5, rfl, ?_⟩
        simp only [lrow, tRet, tRetN, tCB, tCons, tNil, tSeq, tIfS, tAsg, gName, tV, x0, x1, x2, x3, tC, tOp, e_tst, e_isB, e_tru, e_truB, e_truI, e_truN, tSp, tDrop, tNext, tNot, tOr, tAnd, tIf, e_tup, e_lst, tCont, tBreak, tAug, tAugS, tAndV, tOrV, tNotV, tChain, e_dnew, gSub, ipI, tSl, tNoPart, tPart, tMk, ex_bl, ex_int, ex_int2, ex_some, e_eqI4, e_eqS4, e_neI3, e_neS3, e_i0, e_i2, e_addI, e_addS, e_addL4, e_mulI3, e_mulS, e_ix3S, e_ix3D, e_lenS, e_strI, e_intS, e_ival, e_for, e_comp, e_rg1, e_rg2, e_en, e_rg1I, e_rg2I, e_tMt, e_lm, e_lmR, e_app, e_ext, e_bmS, e_bmSS, e_split, e_part, e_sl2S, e_isi3T, e_gTup, e_gxT, e_get3D, e_set3D, gx1, tYes, frv, x4, x5, x6, x7, x8, Function.comp, if_true, x9, if_false]
        rw [take_get hl, List.filter_append, List.map_append, List.map_append]
        refine ite2 (fun h0 => ?_) (fun h0 => ?_)
        · have h0 := of_decide_eq_true h0
          obtain ⟨p', hp', e, _⟩ := ok.frm l hlm
          have nm := (isName_of (ok.nm p' hp')).2.1
          rw [e] at nm
          refine ⟨l.1, l.2.2, rfl, by omega, (ok.st l hlm).1, by have := (ok.st l hlm).2; omega, rfl, ?_⟩
          simp [h0]
        · have h0 := of_decide_eq_false (Bool.eq_false_iff.mpr h0)
          refine ⟨trivial, ?_⟩
          simp [h0]
      obtain ⟨rfl, rfl⟩ := h
      rw [lvl, List.take_length]
      refine alloc fun pc H7 s7 n7 g7 => ?_
      have g47 := (s5.trans s7) _ _ g4
      have s37 : Same H3 H7 := (s4.trans s5).trans s7
      have fl := List.length_filter_le (fun l : Ln => decide (l.2.1 = p.name)) ls
      refine ⟨_, _, g47, g7, small_size (by simp only [List.length_map, List.length_cons, List.length_nil]; omega), ?_⟩
      have sr : [V.str p.name, .str p.kd.word, .str (Str.ofString (toString p.time))] ++ (((ls.filter fun l => decide (l.2.1 = p.name)).map fun l => lineWord l.1 l.2.2).map V.str) = (shownRow p ls).map V.str := rfl
      rw [sr]
      have s38 : Same H3 (upd H7 pw (.lst ((shownRow p ls).map V.str))) := s37.upd_free n4
      have g8 : upd H7 pw (.lst ((shownRow p ls).map V.str)) pw = some (.lst ((shownRow p ls).map V.str)) := upd_same
      generalize upd H7 pw (.lst ((shownRow p ls).map V.str)) = H8 at s38 g8
      simp only [tRet, tRetN, tCB, tCons, tNil, tSeq, tIfS, tAsg, gName, tV, x0, x1, x2, x3, tC, tOp, e_tst, e_isB, e_tru, e_truB, e_truI, e_truN, tSp, tDrop, tNext, tNot, tOr, tAnd, tIf, e_tup, e_lst, tCont, tBreak, tAug, tAugS, tAndV, tOrV, tNotV, tChain, e_dnew, gSub, ipI, tSl, tNoPart, tPart, tMk, ex_bl, ex_int, ex_int2, ex_some, e_eqI4, e_eqS4, e_neI3, e_neS3, e_i0, e_i2, e_addI, e_addS, e_addL4, e_mulI3, e_mulS, e_ix3S, e_ix3D, e_lenS, e_strI, e_intS, e_ival, e_for, e_comp, e_rg1, e_rg2, e_en, e_rg1I, e_rg2I, e_tMt, e_lm, e_lmR, e_app, e_ext, e_bmS, e_bmSS, e_split, e_part, e_sl2S, e_isi3T, e_gTup, e_gxT, e_get3D, e_set3D, gx1, tYes, frv, x4, x5, x6, x7, x8, Function.comp, if_true, x9, if_false]
      refine ⟨⟨_, SqL.of (s38 _ _ g3)⟩, ?_⟩
      obtain ⟨b1, b2, b3⟩ := shown_le ok hpm
      refine ⟨shownRow p ls, SqL.of g8, by rw [show (Str.ofString " ").length = 1 from by decide +kernel]; omega, ?_⟩
      simp only [tRet, tRetN, tCB, tCons, tNil, tSeq, tIfS, tAsg, gName, tV, x0, x1, x2, x3, tC, tOp, e_tst, e_isB, e_tru, e_truB, e_truI, e_truN, tSp, tDrop, tNext, tNot, tOr, tAnd, tIf, e_tup, e_lst, tCont, tBreak, tAug, tAugS, tAndV, tOrV, tNotV, tChain, e_dnew, gSub, ipI, tSl, tNoPart, tPart, tMk, ex_bl, ex_int, ex_int2, ex_some, e_eqI4, e_eqS4, e_neI3, e_neS3, e_i0, e_i2, e_addI, e_addS, e_addL4, e_mulI3, e_mulS, e_ix3S, e_ix3D, e_lenS, e_strI, e_intS, e_ival, e_for, e_comp, e_rg1, e_rg2, e_en, e_rg1I, e_rg2I, e_tMt, e_lm, e_lmR, e_app, e_ext, e_bmS, e_bmSS, e_split, e_part, e_sl2S, e_isi3T, e_gTup, e_gxT, e_get3D, e_set3D, gx1, tYes, frv, x4, x5, x6, x7, x8, Function.comp, if_true, x9, if_false]
      refine ⟨_, s38 _ _ g3, by rw [List.length_map, List.length_map, List.length_take]; exact small_lt (by omega), ?_⟩
      refine ⟨(s3.trans s38).upd_free n1, ?_, ?_, _, _, rfl⟩
      · exact upd_at (s38 _ _ l3) (ne_at g1 n2).symm
      · rw [take_get hp, List.map_append, List.map_append]
        exact upd_same
    obtain ⟨s3, l3, g3, o2, o3, rfl⟩ := h
    rw [List.length_map, List.length_map, List.take_length] at g3
    simp only [tRet, tRetN, tCB, tCons, tNil, tSeq, tIfS, tAsg, gName, tV, x0, x1, x2, x3, tC, tOp, e_tst, e_isB, e_tru, e_truB, e_truI, e_truN, tSp, tDrop, tNext, tNot, tOr, tAnd, tIf, e_tup, e_lst, tCont, tBreak, tAug, tAugS, tAndV, tOrV, tNotV, tChain, e_dnew, gSub, ipI, tSl, tNoPart, tPart, tMk, ex_bl, ex_int, ex_int2, ex_some, e_eqI4, e_eqS4, e_neI3, e_neS3, e_i0, e_i2, e_addI, e_addS, e_addL4, e_mulI3, e_mulS, e_ix3S, e_ix3D, e_lenS, e_strI, e_intS, e_ival, e_for, e_comp, e_rg1, e_rg2, e_en, e_rg1I, e_rg2I, e_tMt, e_lm, e_lmR, e_app, e_ext, e_bmS, e_bmSS, e_split, e_part, e_sl2S, e_isi3T, e_gTup, e_gxT, e_get3D, e_set3D, gx1, tYes, frv, x4, x5, x6, x7, x8, Function.comp, if_true, x9, if_false]
    refine ⟨_, SqL.of g3, ?_, k H3 s3⟩
    have := shown_all ok
    rw [show (Str.ofString "\n").length = 1 from by decide +kernel, List.length_map]
    omega
end
end K2
end
section
set_option maxRecDepth 100000
set_option maxHeartbeats 4000000
set_option linter.all false
namespace K2
open PySem L2
open TX
seal L2.PE L2.PS L2.PSs L2.PT L2.PA L2.PG L2.PI L2.PW
theorem splitC_le {c : Nat} : ∀ {l : List Nat} {w : List Nat}, w ∈ splitC c l → w.length ≤ l.length
  | [], w, h => by
    have : w = [] := by simpa [splitC] using h
    rw [this]; exact Nat.le_refl _
  | x :: xs, w, h => by
    have ih := fun w h => splitC_le (c := c) (l := xs) (w := w) h
    rw [splitC_cons] at h
    split at h
    · rcases List.mem_cons.mp h with rfl | h
      · exact Nat.zero_le _
      · exact Nat.le_succ_of_le (ih w h)
    · split at h
      · rw [List.mem_singleton.mp h]; simp
      · rename_i a b e
        rcases List.mem_cons.mp h with rfl | h
        · have := ih a (by rw [e]; simp)
          simp; exact this
        · exact Nat.le_succ_of_le (ih w (by rw [e]; simp [h]))
theorem split_nl_le {z r : Str} (h : r ∈ Txt.split z "\n") : r.length ≤ z.length := by
  rw [split_nl] at h
  obtain ⟨w, hw, rfl⟩ := List.mem_map.mp h
  rw [← ls_len, ls_ofL, ← ls_len]
  exact splitC_le hw
theorem cut3 (a b d : V) (r : List V) : cutV (a :: b :: d :: r) (some 3) none = r := by
  unfold cutV
  rw [HT.sIx_none]
  have e : HT.sIx (a :: b :: d :: r).length 0 (some 3) = 3 := by
    show (if (3 : Int) < 0 then ((3 : Int) + ((a :: b :: d :: r).length : Int)).toNat else min (3 : Int).toNat (a :: b :: d :: r).length) = 3
    rw [if_neg (by decide)]
    simp
  rw [e]
  simp
theorem eqv_nil0 : (PyData.list (([] : List Str).map PyData.str)).eqv (.list (([] : List Str).map PyData.str)) = true := by decide +kernel
theorem sh_nil : SeqAt.shaped (PyData.list (([] : List Str).map PyData.str)) = true := by decide +kernel
theorem at_one {z : Str} {c i : Nat} (h : StrLaws.At z ⟨#[c]⟩ z.length i) : ∃ hi : i < (ls z).length, (ls z)[i] = c := by
  obtain ⟨h1, h2⟩ := h
  have h1 : i + 1 ≤ z.length := h1
  have hi : i < (ls z).length := by rw [ls_len]; omega
  rw [subAt_one hi] at h2
  exact ⟨hi, of_decide_eq_true h2⟩
theorem at_one' {z : Str} {c i : Nat} (hi : i < (ls z).length) (h : (ls z)[i] = c) : StrLaws.At z ⟨#[c]⟩ z.length i := by
  refine ⟨by show i + 1 ≤ z.length; rw [← ls_len]; omega, ?_⟩
  rw [subAt_one hi, h]
  simp
theorem part_no {z : Str} (h : 47 ∉ ls z) : Txt.partition z "/" = (z, ("" : Str), ("" : Str)) := by
  rw [show (("/" : Str)) = ⟨#[47]⟩ from sl_str]
  unfold Txt.partition
  rcases StrLaws.occ_head z ⟨#[47]⟩ 1 (Nat.le_refl _) with ⟨e, _⟩ | ⟨i, r, e, ha, _⟩
  · rw [e]
    exact congrArg (fun q => (z, q)) (by decide +kernel)
  · obtain ⟨hi, e2⟩ := at_one ha
    exact absurd (e2 ▸ List.getElem_mem hi) h
theorem part_yes {x y : Str} (h : 47 ∉ ls x) : Txt.partition (x ++ "/" ++ y) "/" = (x, ("/" : Str), y) := by
  rw [show (("/" : Str)) = ⟨#[47]⟩ from sl_str]
  have el : ls (x ++ ⟨#[47]⟩ ++ y) = ls x ++ 47 :: ls y := by
    rw [ls_app, ls_app]
    show ls x ++ [47] ++ ls y = _
    simp
  have hlen : (ls x).length < (ls (x ++ ⟨#[47]⟩ ++ y)).length := by rw [el]; simp
  have hat : StrLaws.At (x ++ ⟨#[47]⟩ ++ y) ⟨#[47]⟩ (x ++ ⟨#[47]⟩ ++ y).length (ls x).length := at_one' hlen (by simp only [el]; simp)
  unfold Txt.partition
  rcases StrLaws.occ_head (x ++ ⟨#[47]⟩ ++ y) ⟨#[47]⟩ 1 (Nat.le_refl _) with ⟨_, hn⟩ | ⟨i, r, e, ha, hb⟩
  · exact absurd hat (hn _)
  · have hi : i = (ls x).length := by
      rcases Nat.lt_trichotomy i (ls x).length with g | g | g
      · obtain ⟨h1, h2⟩ := at_one ha
        exfalso
        apply h
        have : (ls x)[i] = 47 := by
          rw [← h2]
          simp only [el]
          rw [List.getElem_append_left g]
        exact this ▸ List.getElem_mem g
      · exact g
      · exact absurd hat (hb _ g)
    rw [e]
    subst hi
    have e1 : Builtin.Str.strSub (x ++ ⟨#[47]⟩ ++ y) 0 (ls x).length = x := str_ext (by
      show ((x ++ ⟨#[47]⟩ ++ y).cps.extract 0 (ls x).length).toList = ls x
      rw [Array.toList_extract, show (x ++ ⟨#[47]⟩ ++ y).cps.toList = ls (x ++ ⟨#[47]⟩ ++ y) from rfl, el]
      simp)
    have e2 : Builtin.Str.strSub (x ++ ⟨#[47]⟩ ++ y) ((ls x).length + (⟨#[47]⟩ : Str).length) (x ++ ⟨#[47]⟩ ++ y).length = y := str_ext (by
      show ((x ++ ⟨#[47]⟩ ++ y).cps.extract ((ls x).length + 1) (x ++ ⟨#[47]⟩ ++ y).length).toList = ls y
      rw [Array.toList_extract, show (x ++ ⟨#[47]⟩ ++ y).cps.toList = ls (x ++ ⟨#[47]⟩ ++ y) from rfl, ← ls_len, el]
      rw [List.extract_eq_drop_take, show ls x ++ 47 :: ls y = (ls x ++ [47]) ++ ls y from by simp, List.drop_left' (by simp), List.take_of_length_le]
      simp only [List.length_append, List.length_cons, List.length_nil]
      omega)
    simp only [e1, e2]
theorem line_w {s : Str} {n : Int} (h : isName s = true) (h0 : 0 ≤ n) (h1 : n ≤ 100) : LineW (lineWord s n) s n := by
  unfold lineWord LineW
  split
  · rename_i e
    rw [part_no (name_no h)]
    exact ⟨rfl, .inl ⟨rfl, e⟩, h⟩
  · rw [part_yes (name_no h)]
    exact ⟨rfl, .inr ⟨by show ¬ ("/" : Str) = ""; decide +kernel, num100 h0 h1⟩, h⟩
def RInv (c : Cs) (z : Str) (qs : List Pt) (rs : List Str) (H : Hp) (pp pl pq lr : Addr) (i : Nat) : St → Hp → Prop := fun σ H' => ∃ (m : Nat) (pv lv : List V) (kvs : List (Key × V)), Same H H' ∧ H' lr = some (.lst (rs.map V.str)) ∧ H' pp = some (.lst pv) ∧ H' pl = some (.lst lv) ∧ H' pq = some (.dK kvs) ∧ m ≤ qs.length ∧
  (((rs.take i).map wordsT).filter fun r => !decide (r = [])) = (qs.take m).map rowOf ∧ pv.length = m ∧ (∀ (j : Nat) q, j < m → qs[j]? = some q → ∃ t kp, pv[j]? = some (.ref t) ∧ H' t = some (.tup [.str q.p.name, .ref kp, .int q.p.time]) ∧ KindAt c H' kp q.p.kd) ∧
  Tups H' lv ((lnsOf (qs.take m)).map lrow) ∧ kvs.map (·.1) = (qs.take m).map (fun q => (Sum.inr q.p.name : Key)) ∧ ∃ o4 o5 o6 o7, σ = [some (.str z), some (.ref pp), some (.ref pl), some (.ref pq), o4, o5, o6, o7, none]
def spRead (c : Cs) (cW : Addr) : Sp := fun vs H Q _ => ∃ (z : Str) (qs : List Pt), vs = [.str z] ∧ ROk qs ∧ rowsOf z = qs.map rowOf ∧ z.length ≤ 100000 ∧ ∀ p H', Same H H' → H p = none → WorksAt c cW H' p (ptsOf qs) (lnsOf qs) → Q (.ref p) H'
theorem row_next {qs : List Pt} {rs : List Str} {m i : Nat} {r : Str} (hz : ((rs.map wordsT).filter fun r => !decide (r = [])) = qs.map rowOf) (hm : m ≤ qs.length) (hf : (((rs.take i).map wordsT).filter fun r => !decide (r = [])) = (qs.take m).map rowOf) (hr : rs[i]? = some r) (hne : wordsT r ≠ []) : ∃ q, qs[m]? = some q ∧ wordsT r = rowOf q := by
  have e : rs = rs.take i ++ r :: rs.drop (i + 1) := by rw [← drop_get hr, List.take_append_drop]
  rw [e, List.map_append, List.filter_append, hf, List.map_cons, List.filter_cons, if_pos (by simp [hne])] at hz
  have h2 := congrArg (fun l => l[m]?) hz
  have lm : ((qs.take m).map rowOf).length = m := by rw [List.length_map, List.length_take]; omega
  rw [List.getElem?_append_right (by omega), lm, Nat.sub_self, List.getElem?_cons_zero] at h2
  obtain ⟨q, hq, e2⟩ := get_map h2.symm
  exact ⟨q, hq, e2⟩
theorem filt_snoc {rs : List Str} {i : Nat} {r : Str} (hr : rs[i]? = some r) : (((rs.take (i + 1)).map wordsT).filter fun r => !decide (r = [])) = (((rs.take i).map wordsT).filter fun r => !decide (r = [])) ++ if wordsT r = [] then [] else [wordsT r] := by
  rw [take_get hr, List.map_append, List.filter_append]
  congr 1
  by_cases h : wordsT r = []
  · simp [h]
  · simp [h]
theorem lns_snoc (qs : List Pt) (q : Pt) : lnsOf (qs ++ [q]) = lnsOf qs ++ q.feeds.map fun f => (f.1, q.p.name, f.2) := flat_snoc _ _ _
section
variable {P : Program} {w : World} {K : PySem.W.Frag} {mg : Str → Option Value} {base : Heap} {c : Cs} {cW : Addr}
abbrev s_line_by : Stmt := top 38
theorem sc_line_by : FnSc ["word", "end", "place", "pieces", "stores"] ["word", "end", "place"] ["is_name", "number_by", "MOST_STORES"] (defScope s_line_by) := ⟨⟨rfl, rfl, rfl, by decide +kernel, rfl, by decide +kernel, by decide +kernel⟩, by decide +kernel, by decide +kernel, by decide +kernel⟩
theorem ok_line_by {f : Addr} {fd : FuncData} (F : Fun K "line_by" "line_by" s_line_by f fd) (C_is_name : Cal P w K mg base 2 "is_name" ["word"] spIsName) (C_number_by : Cal P w K mg base 2 "number_by" ["word", "most"] spNumberBy) {uM : Value} (v_MOST_STORES : mg "MOST_STORES" = some uM ∧ RelV (.int 100) uM) : FnOk P w K mg base CX0 3 f fd ["word", "end", "place"] spLineBy := by
  refine F.ok sc_line_by.S (fun vs H Q E h => ?_) (fun cdv A outer s H vs Q E hr h => ?_)
  · obtain ⟨wd, e, place, sg, n, rfl, _⟩ := h
    rfl
  · obtain ⟨wd, e, place, sg, n, rfl, hw, hL, k⟩ := h
    have S := sc_line_by.sx (CX := CX0) (P := P) (w := w) (K := K) (mg := mg) (base := base) (qual := "line_by") (f := f) (cd := cdv) (A := A) (outer := outer) (s := s) (H := H) (E := E)
    have Sg := fun i {x} h => sc_line_by.gx (CX := CX0) (P := P) (w := w) (K := K) (mg := mg) (base := base) (qual := "line_by") (f := f) (cd := cdv) (A := A) (outer := outer) (s := s) (H := H) (E := E) i (x := x) h
    have hU := hr.units
    refine ⟨_, (pss_cons (ps_st S 3 (m_partition (nv S 0) (pa_cons pe_str pa_nil)))
      (pss_cons (ps_st S 4 (pe_ifExp (pt_of (o_eq4 (K := K) rfl hU) (pe_ix (o_ix3 (K := K) rfl hU) (nv S 3) pe_int (fun _ _ => rfl)) pe_str) pe_int (c_call C_number_by (hr.mono (by decide)) (Sg 1 rfl) (pa_cons (pe_ix (o_ix3 (K := K) rfl hU) (nv S 3) pe_int (fun _ _ => rfl)) (pa_cons (g_val (Sg 2 rfl) v_MOST_STORES.1 v_MOST_STORES.2) pa_nil)))))
      (pss_cons (ps_if (PW.pt (pw_or (pt_of o_is (nv S 4) pe_non) (pw_or1 (pt_not (pt_tr (K := K) rfl (c_call C_is_name (hr.mono (by decide)) (Sg 0 rfl) (pa_cons (pe_ix (o_ix3 (K := K) rfl hU) (nv S 3) pe_int (fun _ _ => rfl)) pa_nil))))))) (pss_one ps_never) pss_nil)
      (pss_one (ps_ret (pe_tup (pa_cons (pe_ix (o_ix3 (K := K) rfl hU) (nv S 3) pe_int (fun _ _ => rfl)) (pa_cons (nv S 1) (pa_cons (nv S 4) pa_nil))))))))), ?_⟩
    show (_ : TS) _ [some (.str wd), some (.str e), some (.int place), none, none] H
    simp only [tRet, tRetN, tCB, tCons, tNil, tSeq, tIfS, tAsg, gName, tV, x0, x1, x2, x3, tC, tOp, e_tst, e_isB, e_tru, e_truB, e_truI, e_truN, tSp, tDrop, tNext, tNot, tOr, tAnd, tIf, e_tup, e_lst, tCont, tBreak, tAug, tAugS, tAndV, tOrV, tNotV, tChain, e_dnew, gSub, ipI, tSl, tNoPart, tPart, tMk, ex_bl, ex_int, ex_int2, ex_some, e_eqI4, e_eqS4, e_neI3, e_neS3, e_i0, e_i2, e_addI, e_addS, e_addL4, e_mulI3, e_mulS, e_ix3S, e_ix3D, e_lenS, e_strI, e_intS, e_ival, e_for, e_comp, e_rg1, e_rg2, e_en, e_rg1I, e_rg2I, e_tMt, e_lm, e_lmR, e_app, e_ext, e_bmS, e_bmSS, e_split, e_part, e_sl2S, e_isi3T, e_gTup, e_gxT, e_get3D, e_set3D, gx1, tYes, frv, x4, x5, x6, x7, x8, Function.comp, if_true, x9, if_false]
    refine ⟨⟨by decide +kernel, Nat.le_trans (show wd.length ≤ 1000000 by omega) (by decide)⟩, alloc fun p H1 s1 n1 g1 => ?_⟩
    obtain ⟨h1, h2, h3⟩ := hL
    have l1 := part_le1 wd "/"
    have l2 := part_le wd "/"
    refine ix_T g1 (atI_nat (j := 1) rfl) ?_
    simp only [tRet, tRetN, tCB, tCons, tNil, tSeq, tIfS, tAsg, gName, tV, x0, x1, x2, x3, tC, tOp, e_tst, e_isB, e_tru, e_truB, e_truI, e_truN, tSp, tDrop, tNext, tNot, tOr, tAnd, tIf, e_tup, e_lst, tCont, tBreak, tAug, tAugS, tAndV, tOrV, tNotV, tChain, e_dnew, gSub, ipI, tSl, tNoPart, tPart, tMk, ex_bl, ex_int, ex_int2, ex_some, e_eqI4, e_eqS4, e_neI3, e_neS3, e_i0, e_i2, e_addI, e_addS, e_addL4, e_mulI3, e_mulS, e_ix3S, e_ix3D, e_lenS, e_strI, e_intS, e_ival, e_for, e_comp, e_rg1, e_rg2, e_en, e_rg1I, e_rg2I, e_tMt, e_lm, e_lmR, e_app, e_ext, e_bmS, e_bmSS, e_split, e_part, e_sl2S, e_isi3T, e_gTup, e_gxT, e_get3D, e_set3D, gx1, tYes, frv, x4, x5, x6, x7, x8, Function.comp, if_true, x9, if_false]
    rcases h2 with ⟨e1, rfl⟩ | ⟨e1, e2⟩
    · rw [decide_eq_true e1, if_pos rfl]
      refine ⟨trivial, ?_⟩
      rw [if_neg (by simp)]
      refine ix_T g1 (atI_nat (j := 0) rfl) ?_
      refine ⟨_, rfl, by omega, fun H2 s2 => ?_⟩
      simp only [tRet, tRetN, tCB, tCons, tNil, tSeq, tIfS, tAsg, gName, tV, x0, x1, x2, x3, tC, tOp, e_tst, e_isB, e_tru, e_truB, e_truI, e_truN, tSp, tDrop, tNext, tNot, tOr, tAnd, tIf, e_tup, e_lst, tCont, tBreak, tAug, tAugS, tAndV, tOrV, tNotV, tChain, e_dnew, gSub, ipI, tSl, tNoPart, tPart, tMk, ex_bl, ex_int, ex_int2, ex_some, e_eqI4, e_eqS4, e_neI3, e_neS3, e_i0, e_i2, e_addI, e_addS, e_addL4, e_mulI3, e_mulS, e_ix3S, e_ix3D, e_lenS, e_strI, e_intS, e_ival, e_for, e_comp, e_rg1, e_rg2, e_en, e_rg1I, e_rg2I, e_tMt, e_lm, e_lmR, e_app, e_ext, e_bmS, e_bmSS, e_split, e_part, e_sl2S, e_isi3T, e_gTup, e_gxT, e_get3D, e_set3D, gx1, tYes, frv, x4, x5, x6, x7, x8, Function.comp, if_true, x9, if_false]
      rw [h1, h3, if_neg (by decide)]
      refine ix_T (s2 _ _ g1) (atI_nat (j := 0) rfl) ?_
      exact ⟨by show 3 ≤ sizeLine; decide, alloc fun t H3 s3 n3 g3 => k t H3 ((s1.trans s2).trans s3) ((s1.trans s2).free n3) (by rw [g3, h1]; rfl)⟩
    · rw [decide_eq_false e1, if_neg (by decide)]
      refine ix_T g1 (atI_nat (j := 2) rfl) ?_
      refine ⟨_, 100, rfl, by omega, by decide, by decide, fun H2 s2 => ?_⟩
      rw [e2, show numV (some n) = V.int n from rfl]
      refine ⟨trivial, ?_⟩
      rw [if_neg (by simp)]
      refine ix_T (s2 _ _ g1) (atI_nat (j := 0) rfl) ?_
      refine ⟨_, rfl, by omega, fun H3 s3 => ?_⟩
      simp only [tRet, tRetN, tCB, tCons, tNil, tSeq, tIfS, tAsg, gName, tV, x0, x1, x2, x3, tC, tOp, e_tst, e_isB, e_tru, e_truB, e_truI, e_truN, tSp, tDrop, tNext, tNot, tOr, tAnd, tIf, e_tup, e_lst, tCont, tBreak, tAug, tAugS, tAndV, tOrV, tNotV, tChain, e_dnew, gSub, ipI, tSl, tNoPart, tPart, tMk, ex_bl, ex_int, ex_int2, ex_some, e_eqI4, e_eqS4, e_neI3, e_neS3, e_i0, e_i2, e_addI, e_addS, e_addL4, e_mulI3, e_mulS, e_ix3S, e_ix3D, e_lenS, e_strI, e_intS, e_ival, e_for, e_comp, e_rg1, e_rg2, e_en, e_rg1I, e_rg2I, e_tMt, e_lm, e_lmR, e_app, e_ext, e_bmS, e_bmSS, e_split, e_part, e_sl2S, e_isi3T, e_gTup, e_gxT, e_get3D, e_set3D, gx1, tYes, frv, x4, x5, x6, x7, x8, Function.comp, if_true, x9, if_false]
      rw [h1, h3, if_neg (by decide)]
      refine ix_T ((s2.trans s3) _ _ g1) (atI_nat (j := 0) rfl) ?_
      exact ⟨by show 3 ≤ sizeLine; decide, alloc fun t H4 s4 n4 g4 => k t H4 (((s1.trans s2).trans s3).trans s4) (((s1.trans s2).trans s3).free n4) (by rw [g4, h1]; rfl)⟩
end
end K2
end
section
set_option maxRecDepth 100000
set_option maxHeartbeats 4000000
set_option linter.all false
namespace K2
open PySem L2
open TX
seal L2.PE L2.PS L2.PSs L2.PT L2.PA L2.PG L2.PI L2.PW
section
variable {P : Program} {w : World} {K : PySem.W.Frag} {mg : Str → Option Value} {base : Heap} {c : Cs} {cW : Addr}
abbrev s_read : Stmt := top 41
theorem sc_read : FnSc ["text", "parts", "lines", "places", "place", "row", "words", "part", "works"] ["text"] ["refuse_rings", "refuse_loose", "Works", "enumerate", "len", "MOST_PARTS", "part_by", "words_of"] (defScope s_read) := ⟨⟨rfl, rfl, rfl, by decide +kernel, rfl, by decide +kernel, by decide +kernel⟩, by decide +kernel, by decide +kernel, by decide +kernel⟩
theorem cs_read_0 : CompSc ["word"] ["place", "part"] (scopeOf (kidE (kidS (kidSS (bodyAt (top 41) 3) 3) 0) 1)) (defScope s_read) := ⟨rfl, by decide +kernel, by decide +kernel, by decide +kernel, by decide +kernel, by decide +kernel, by decide +kernel⟩
theorem cn_read_0 : ∀ x ∈ ((["word"] : List Str) ++ (["place", "part"] : List Str)), (x == ("__debug__" : Str)) = false ∧ (x == ("__classdict__" : Str)) = false := by decide +kernel
theorem ok_read {f : Addr} {fd : FuncData} (F : Fun K "read" "read" s_read f fd) (C_words_of : Cal P w K mg base 1 "words_of" ["row"] spWordsOf) (C_part_by : Cal P w K mg base 6 "part_by" ["words", "place"] (spPartBy c)) (C_line_by : Cal P w K mg base 3 "line_by" ["word", "end", "place"] spLineBy) (C_Works : Mkr P w K mg base 1 "Works" cW ["self", "parts", "lines"] (spWInit K c)) (wc : WCls K cW) (C_refuse_loose : Cal P w K mg base 2 "refuse_loose" ["works", "places"] (spLoose c cW)) (C_refuse_rings : Cal P w K mg base 3 "refuse_rings" ["works"] (spRings c cW)) {uM : Value} (v_MOST_PARTS : mg "MOST_PARTS" = some uM ∧ RelV (.int 60) uM) (n_enumerate : mg "enumerate" = none) (n_len : mg "len" = none) : FnOk P w K mg base CX0 7 f fd ["text"] (spRead c cW) := by
  refine F.ok sc_read.S (fun vs H Q E h => ?_) (fun cdv A outer s H vs Q E hr h => ?_)
  · obtain ⟨z, qs, rfl, _⟩ := h
    rfl
  · obtain ⟨z, qs, rfl, ok, hz, hzl, k⟩ := h
    have S := sc_read.sx (CX := CX0) (P := P) (w := w) (K := K) (mg := mg) (base := base) (qual := "read") (f := f) (cd := cdv) (A := A) (outer := outer) (s := s) (H := H) (E := E)
    have Sg := fun i {x} h => sc_read.gx (CX := CX0) (P := P) (w := w) (K := K) (mg := mg) (base := base) (qual := "read") (f := f) (cd := cdv) (A := A) (outer := outer) (s := s) (H := H) (E := E) i (x := x) h
    have hU := hr.units
    have S0 : CompSc ["word"] ["place", "part"] (scopeOf (kidE (kidS (kidSS (bodyAt (top 41) 3) 3) 0) 1)) (cxOf CX0 P w K mg base ["text", "parts", "lines", "places", "place", "row", "words", "part", "works"] "read" (defScope s_read) f cdv A outer s H E).nox.env.scope := cs_read_0
    have K0 := fun C s₀ H₀ ex => S0.sx (C := C) (s₀ := s₀) (H₀ := H₀) (ex := ex) rfl cn_read_0
    refine ⟨_, (pss_cons (ps_st S 1 (pe_lst pa_nil))
      (pss_cons (ps_st S 2 (pe_lst pa_nil))
      (pss_cons (ps_st S 3 pe_dnewK)
      (pss_cons (ps_for PassesOwn.never rfl (i_enum (K := K) rfl (Sg 3 rfl) n_enumerate (pa_cons (m_split (nv S 0) (pa_cons pe_str pa_nil)) pa_nil)) (pg_tup rfl (pgs_cons (pn S 4) (pgs_cons (pn S 5) pgs_nil))) (pss_cons (ps_st S 6 (c_call C_words_of (hr.mono (by decide)) (Sg 7 rfl) (pa_cons (nv S 5) pa_nil)))
      (pss_cons (ps_if (pt_of (o_eq4 (K := K) rfl hU) (nv S 6) (pe_lst pa_nil)) (pss_one ps_continue) pss_nil)
      (pss_cons (ps_st S 7 (c_call C_part_by (hr.mono (by decide)) (Sg 6 rfl) (pa_cons (nv S 6) (pa_cons (nv S 4) pa_nil))))
      (pss_cons (ps_expr (m_extend (K := K) rfl (nv S 2) (pa_cons (pe_cp S0 (js := [4, 7]) rfl rfl (i_val (K := K) rfl (pe_slice (o_sl2 (K := K)) (nv S 6) (po_some pe_int) po_none)) (pg1 S0) (fun C s₀ H₀ ex => pts_nil) (fun C s₀ H₀ ex => (c_call C_line_by (hr.mono (by decide)) (comp_gl rfl) (pa_cons (nv (K0 C s₀ H₀ ex) 0) (pa_cons (pe_ix (o_ix3 (K := K) rfl hU) (nv (K0 C s₀ H₀ ex) 2) pe_int (fun _ _ => rfl)) (pa_cons (nv (K0 C s₀ H₀ ex) 1) pa_nil)))))) pa_nil)))
      (pss_cons (ps_if (pt_of (o_in3 (K := K) rfl hU) (pe_ix (o_ix3 (K := K) rfl hU) (nv S 7) pe_int (fun _ _ => rfl)) (nv S 3)) (pss_one ps_never) pss_nil)
      (pss_cons (ps_if (pt_of (o_eq4 (K := K) rfl hU) (k_len (K := K) rfl (Sg 4 rfl) n_len (pa_cons (nv S 1) pa_nil)) (g_val (Sg 5 rfl) v_MOST_PARTS.1 v_MOST_PARTS.2)) (pss_one ps_never) pss_nil)
      (pss_cons (ps_asg (nv S 4) (pg_sub (nv S 3) (pe_ix (o_ix3 (K := K) rfl hU) (nv S 7) pe_int (fun _ _ => rfl)) (o_set3 hU)))
      (pss_one (ps_expr (m_append (K := K) rfl (nv S 1) (pa_cons (nv S 7) pa_nil))))))))))))
      (pss_cons (ps_if (pt_of (o_eq4 (K := K) rfl hU) (nv S 1) (pe_lst pa_nil)) (pss_one ps_never) pss_nil)
      (pss_cons (ps_st S 8 (c_make C_Works (hr.mono (by decide)) (Sg 2 rfl) (pa_cons (nv S 1) (pa_cons (nv S 2) pa_nil))))
      (pss_cons (ps_expr (c_call C_refuse_loose (hr.mono (by decide)) (Sg 1 rfl) (pa_cons (nv S 8) (pa_cons (nv S 3) pa_nil))))
      (pss_cons (ps_expr (c_call C_refuse_rings (hr.mono (by decide)) (Sg 0 rfl) (pa_cons (nv S 8) pa_nil)))
      (pss_one (ps_ret (nv S 8))))))))))), ?_⟩
    show (_ : TS) _ [some (.str z), none, none, none, none, none, none, none, none] H
    simp only [tRet, tRetN, tCB, tCons, tNil, tSeq, tIfS, tAsg, gName, tV, x0, x1, x2, x3, tC, tOp, e_tst, e_isB, e_tru, e_truB, e_truI, e_truN, tSp, tDrop, tNext, tNot, tOr, tAnd, tIf, e_tup, e_lst, tCont, tBreak, tAug, tAugS, tAndV, tOrV, tNotV, tChain, e_dnew, gSub, ipI, tSl, tNoPart, tPart, tMk, ex_bl, ex_int, ex_int2, ex_some, e_eqI4, e_eqS4, e_neI3, e_neS3, e_i0, e_i2, e_addI, e_addS, e_addL4, e_mulI3, e_mulS, e_ix3S, e_ix3D, e_lenS, e_strI, e_intS, e_ival, e_for, e_comp, e_rg1, e_rg2, e_en, e_rg1I, e_rg2I, e_tMt, e_lm, e_lmR, e_app, e_ext, e_bmS, e_bmSS, e_split, e_part, e_sl2S, e_isi3T, e_gTup, e_gxT, e_get3D, e_set3D, gx1, tYes, frv, x4, x5, x6, x7, x8, Function.comp, if_true, x9, if_false]
    refine ⟨by show 0 ≤ sizeLine; decide, alloc fun pp H1 s1 n1 g1 => ⟨by show 0 ≤ sizeLine; decide, alloc fun pl H2 s2 n2 g2 => ?_⟩⟩
    refine alloc fun pq H3 s3 n3 g3 => ?_
    refine ⟨⟨by decide +kernel, Nat.le_trans (show z.length + 2 ≤ 1000000 by omega) (by decide)⟩, alloc fun lr H4 s4 n4 g4 => ?_⟩
    have h60 : qs.length ≤ 60 := by have := ok.w.p60; unfold ptsOf at this; rw [List.length_map] at this; exact this
    have hrs := split_nl_len z
    have hz' : (((Txt.split z "\n").map wordsT).filter fun r => !decide (r = [])) = qs.map rowOf := hz
    have hle : ∀ r ∈ Txt.split z "\n", r.length ≤ 900000 := fun r hr => Nat.le_trans (split_nl_le hr) (by omega)
    generalize Txt.split z (Str.ofString "\n") = rs at g4 hrs hz' hle
    have nlp : lr ≠ pp := (ne_at ((s2.trans s3) _ _ g1) n4).symm
    have nll : lr ≠ pl := (ne_at (s3 _ _ g2) n4).symm
    have nlq : lr ≠ pq := (ne_at g3 n4).symm
    have npl : pp ≠ pl := ne_at g1 n2
    have hpp : H pp = none := n1
    have hpl : H pl = none := s1.free n2
    have hpq : H pq = none := (s1.trans s2).free n3
    refine for_E (xs := rs.map V.str) (SqL.of g4) (RInv c z qs rs H pp pl pq lr) ⟨0, [], [], [], ((s1.trans s2).trans s3).trans s4, g4, ((s2.trans s3).trans s4) _ _ g1, (s3.trans s4) _ _ g2, s4 _ _ g3, Nat.zero_le _, rfl, rfl, fun j q hj => absurd hj (Nat.not_lt_zero _), Tups.nil, rfl, _, _, _, _, rfl⟩ (fun i σ H' hi h => ?_) (fun i x σ H5 hi hx h T hT => ?_) (fun σ H5 h => ?_)
    · obtain ⟨_, _, _, _, _, g, _⟩ := h
      exact SqL.of g
    · obtain ⟨m, pv, lv, kvs, sH, gr, gp, gl, gq, hm, hf, hpv, hpt, tl, ky, o4, o5, o6, o7, rfl⟩ := h
      obtain ⟨r, hr, rfl⟩ := get_map hx
      have sT : Same H5 (upd H5 T (.tup [.int i, .str r])) := same_new hT
      have gT : upd H5 T (.tup [.int i, .str r]) T = some (.tup [.int i, .str r]) := upd_same
      generalize upd H5 T (.tup [.int i, .str r]) = H6 at sT gT
      rw [e_gTup]
      refine ⟨_, SqT.of gT, rfl, ?_⟩
      simp only [e_gCons, e_gNil, tRet, tRetN, tCB, tCons, tNil, tSeq, tIfS, tAsg, gName, tV, x0, x1, x2, x3, tC, tOp, e_tst, e_isB, e_tru, e_truB, e_truI, e_truN, tSp, tDrop, tNext, tNot, tOr, tAnd, tIf, e_tup, e_lst, tCont, tBreak, tAug, tAugS, tAndV, tOrV, tNotV, tChain, e_dnew, gSub, ipI, tSl, tNoPart, tPart, tMk, ex_bl, ex_int, ex_int2, ex_some, e_eqI4, e_eqS4, e_neI3, e_neS3, e_i0, e_i2, e_addI, e_addS, e_addL4, e_mulI3, e_mulS, e_ix3S, e_ix3D, e_lenS, e_strI, e_intS, e_ival, e_for, e_comp, e_rg1, e_rg2, e_en, e_rg1I, e_rg2I, e_tMt, e_lm, e_lmR, e_app, e_ext, e_bmS, e_bmSS, e_split, e_part, e_sl2S, e_isi3T, e_gTup, e_gxT, e_get3D, e_set3D, gx1, tYes, frv, x4, x5, x6, x7, x8, Function.comp, if_true, x9, if_false]
      refine ⟨r, rfl, hle r (List.mem_of_getElem? hr), fun pw H7 s7 n7 g7 => ?_⟩
      simp only [tRet, tRetN, tCB, tCons, tNil, tSeq, tIfS, tAsg, gName, tV, x0, x1, x2, x3, tC, tOp, e_tst, e_isB, e_tru, e_truB, e_truI, e_truN, tSp, tDrop, tNext, tNot, tOr, tAnd, tIf, e_tup, e_lst, tCont, tBreak, tAug, tAugS, tAndV, tOrV, tNotV, tChain, e_dnew, gSub, ipI, tSl, tNoPart, tPart, tMk, ex_bl, ex_int, ex_int2, ex_some, e_eqI4, e_eqS4, e_neI3, e_neS3, e_i0, e_i2, e_addI, e_addS, e_addL4, e_mulI3, e_mulS, e_ix3S, e_ix3D, e_lenS, e_strI, e_intS, e_ival, e_for, e_comp, e_rg1, e_rg2, e_en, e_rg1I, e_rg2I, e_tMt, e_lm, e_lmR, e_app, e_ext, e_bmS, e_bmSS, e_split, e_part, e_sl2S, e_isi3T, e_gTup, e_gxT, e_get3D, e_set3D, gx1, tYes, frv, x4, x5, x6, x7, x8, Function.comp, if_true, x9, if_false]
      refine ⟨by show 0 ≤ sizeLine; decide, alloc fun pe H8 s8 n8 g8 => ?_⟩
      have s58 : Same H5 H8 := (sT.trans s7).trans s8
      have g78 := s8 _ _ g7
      by_cases hw : wordsT r = []
      · rw [hw] at g78
        refine .inl ⟨_, _, dv_strs (l := []) g78, dv_strs (l := []) g8, ⟨sh_nil, sh_nil⟩, ?_⟩
        rw [eqv_nil0]
        simp only [tRet, tRetN, tCB, tCons, tNil, tSeq, tIfS, tAsg, gName, tV, x0, x1, x2, x3, tC, tOp, e_tst, e_isB, e_tru, e_truB, e_truI, e_truN, tSp, tDrop, tNext, tNot, tOr, tAnd, tIf, e_tup, e_lst, tCont, tBreak, tAug, tAugS, tAndV, tOrV, tNotV, tChain, e_dnew, gSub, ipI, tSl, tNoPart, tPart, tMk, ex_bl, ex_int, ex_int2, ex_some, e_eqI4, e_eqS4, e_neI3, e_neS3, e_i0, e_i2, e_addI, e_addS, e_addL4, e_mulI3, e_mulS, e_ix3S, e_ix3D, e_lenS, e_strI, e_intS, e_ival, e_for, e_comp, e_rg1, e_rg2, e_en, e_rg1I, e_rg2I, e_tMt, e_lm, e_lmR, e_app, e_ext, e_bmS, e_bmSS, e_split, e_part, e_sl2S, e_isi3T, e_gTup, e_gxT, e_get3D, e_set3D, gx1, tYes, frv, x4, x5, x6, x7, x8, Function.comp, if_true, x9, if_false]
        exact ⟨m, pv, lv, kvs, sH.trans s58, s58 _ _ gr, s58 _ _ gp, s58 _ _ gl, s58 _ _ gq, hm, by rw [filt_snoc hr, if_pos hw, List.append_nil]; exact hf, hpv, fun j q hj hq => let ⟨t, kp, e1, e2, e3⟩ := hpt j q hj hq; ⟨t, kp, e1, s58 _ _ e2, e3.mono s58⟩, tl.fix s58.fix, ky, _, _, _, _, rfl⟩
      · refine .inr ⟨_, _, SqL.of g78, SqL.of g8, by rw [List.length_map]; exact fun z => hw (List.eq_nil_of_length_eq_zero z), ?_⟩
        simp only [tRet, tRetN, tCB, tCons, tNil, tSeq, tIfS, tAsg, gName, tV, x0, x1, x2, x3, tC, tOp, e_tst, e_isB, e_tru, e_truB, e_truI, e_truN, tSp, tDrop, tNext, tNot, tOr, tAnd, tIf, e_tup, e_lst, tCont, tBreak, tAug, tAugS, tAndV, tOrV, tNotV, tChain, e_dnew, gSub, ipI, tSl, tNoPart, tPart, tMk, ex_bl, ex_int, ex_int2, ex_some, e_eqI4, e_eqS4, e_neI3, e_neS3, e_i0, e_i2, e_addI, e_addS, e_addL4, e_mulI3, e_mulS, e_ix3S, e_ix3D, e_lenS, e_strI, e_intS, e_ival, e_for, e_comp, e_rg1, e_rg2, e_en, e_rg1I, e_rg2I, e_tMt, e_lm, e_lmR, e_app, e_ext, e_bmS, e_bmSS, e_split, e_part, e_sl2S, e_isi3T, e_gTup, e_gxT, e_get3D, e_set3D, gx1, tYes, frv, x4, x5, x6, x7, x8, Function.comp, if_true, x9, if_false]
        obtain ⟨q, hq, hwq⟩ := row_next hz' hm hf hr hw
        have hqm : q ∈ qs := List.mem_of_getElem? hq
        have hmq : m < qs.length := (List.getElem?_eq_some_iff.mp hq).1
        rw [hwq] at g78
        have hp := pts_mem hqm
        obtain ⟨wd1, wd2, wd3⟩ := kd_ok (ok.w.fit _ hp)
        obtain ⟨nd1, nd2, nd3⟩ := num_ok (ok.w.tm _ hp).1 (ok.w.tm _ hp).2
        have nmw := name_wd (ok.w.nm _ hp)
        refine ⟨pw, i, q.p.name, q.p.kd.word, Str.ofString (toString q.p.time), q.feeds.map (fun f : Str × Int => lineWord f.1 f.2), q.p.kd, q.p.time, rfl, g78, by have := nmw.le; omega, by omega, by omega, ok.w.nm _ hp, wd3, nd3, by rw [List.length_map]; exact ok.ask q hqm, ok.w.te _ hp, fun t kp H9 s9 n9 g9 k9 => ?_⟩
        simp only [tRet, tRetN, tCB, tCons, tNil, tSeq, tIfS, tAsg, gName, tV, x0, x1, x2, x3, tC, tOp, e_tst, e_isB, e_tru, e_truB, e_truI, e_truN, tSp, tDrop, tNext, tNot, tOr, tAnd, tIf, e_tup, e_lst, tCont, tBreak, tAug, tAugS, tAndV, tOrV, tNotV, tChain, e_dnew, gSub, ipI, tSl, tNoPart, tPart, tMk, ex_bl, ex_int, ex_int2, ex_some, e_eqI4, e_eqS4, e_neI3, e_neS3, e_i0, e_i2, e_addI, e_addS, e_addL4, e_mulI3, e_mulS, e_ix3S, e_ix3D, e_lenS, e_strI, e_intS, e_ival, e_for, e_comp, e_rg1, e_rg2, e_en, e_rg1I, e_rg2I, e_tMt, e_lm, e_lmR, e_app, e_ext, e_bmS, e_bmSS, e_split, e_part, e_sl2S, e_isi3T, e_gTup, e_gxT, e_get3D, e_set3D, gx1, tYes, frv, x4, x5, x6, x7, x8, Function.comp, if_true, x9, if_false]
        have s59 := s58.trans s9
        refine ⟨⟨_, SqL.of (s59 _ _ gl)⟩, ?_⟩
        rw [e_sl2L]
        refine ⟨_, SqL.of (s9 _ _ g78), ?_⟩
        unfold rowOf
        simp only [List.map_cons]
        rw [cut3]
        refine alloc fun pc HA sA nA gA => ?_
        have s5A := s59.trans sA
        have gtA := sA _ _ g9
        refine comp_L (xs := (q.feeds.map fun f => lineWord f.1 f.2).map V.str) (SqL.of gA) (fun j ys H' => Same HA H' ∧ ys.length ≤ j ∧ Tups H' ys ((((q.feeds.take j).map fun f => ((f.1, q.p.name, f.2) : Ln))).map lrow)) ⟨Same.rfl', Nat.le_refl _, Tups.nil⟩ ?_ (fun j ys H' hj h => h.2.1) (fun j ys H' hj h => SqL.of (h.1 _ _ gA)) (fun j x ys HB hj hx h => ?_) (fun ys HB h => ?_)
        · rw [List.length_map, List.length_map]
          have := ok.ask q hqm
          have h3 : q.p.kd.asked ≤ 3 := by cases q.p.kd <;> simp [Kd.asked]
          exact small_size (by omega)
        · obtain ⟨sB, yl, ty⟩ := h
          obtain ⟨lw, hlw, rfl⟩ := get_map hx
          obtain ⟨f, hf', rfl⟩ := get_map hlw
          have hfm : f ∈ q.feeds := List.mem_of_getElem? hf'
          obtain ⟨fn, f0, f1⟩ := feed_name ok hqm hfm
          simp only [tRet, tRetN, tCB, tCons, tNil, tSeq, tIfS, tAsg, gName, tV, x0, x1, x2, x3, tC, tOp, e_tst, e_isB, e_tru, e_truB, e_truI, e_truN, tSp, tDrop, tNext, tNot, tOr, tAnd, tIf, e_tup, e_lst, tCont, tBreak, tAug, tAugS, tAndV, tOrV, tNotV, tChain, e_dnew, gSub, ipI, tSl, tNoPart, tPart, tMk, ex_bl, ex_int, ex_int2, ex_some, e_eqI4, e_eqS4, e_neI3, e_neS3, e_i0, e_i2, e_addI, e_addS, e_addL4, e_mulI3, e_mulS, e_ix3S, e_ix3D, e_lenS, e_strI, e_intS, e_ival, e_for, e_comp, e_rg1, e_rg2, e_en, e_rg1I, e_rg2I, e_tMt, e_lm, e_lmR, e_app, e_ext, e_bmS, e_bmSS, e_split, e_part, e_sl2S, e_isi3T, e_gTup, e_gxT, e_get3D, e_set3D, gx1, tYes, frv, x4, x5, x6, x7, x8, Function.comp, if_true, x9, if_false]
          refine ix_T (sB _ _ gtA) (atI_nat (j := 0) rfl) ?_
          refine ⟨_, _, _, f.1, f.2, rfl, by have := (line_wd fn f0 f1).2; omega, line_w fn f0 f1, fun t2 HC sC nC gC => ?_⟩
          refine ⟨sB.trans sC, by rw [List.length_append]; exact Nat.succ_le_succ yl, ?_⟩
          rw [take_get hf', List.map_append, List.map_append]
          exact (ty.fix sC.fix).snoc gC
        · obtain ⟨sB, yl, ty⟩ := h
          rw [List.length_map, List.length_map, List.take_length] at ty
          refine alloc fun pz HC sC nC gC => ?_
          have s5C : Same H5 HC := (s5A.trans sB).trans sC
          have tyC := ty.fix sC.fix
          have lvl : lv.length ≤ 1000 := by
            have := tl.1
            rw [List.length_map] at this
            have h2 : (lnsOf (qs.take m)).length ≤ (qs.take m).length * 3 := flat_len _ _ fun q hq => by
              have := ok.ask q (List.mem_of_mem_take hq)
              have h3 : q.p.kd.asked ≤ 3 := by cases q.p.kd <;> simp [Kd.asked]
              rw [List.length_map]
              omega
            rw [List.length_take] at h2
            omega
          have ysl : ys.length ≤ 3 := by
            have := tyC.1
            rw [List.length_map, List.length_map] at this
            have a := ok.ask q hqm
            have h3 : q.p.kd.asked ≤ 3 := by cases q.p.kd <;> simp [Kd.asked]
            omega
          refine ⟨_, _, s5C _ _ gl, gC, small_size (by omega), ?_⟩
          have dC := s5C _ _ gq
          have fl : Fix HC (upd HC pl (.lst (lv ++ ys))) := Fix.upd (s5C _ _ gl) rfl
          have tD : upd HC pl (.lst (lv ++ ys)) t = some (.tup [.str q.p.name, .ref kp, .int q.p.time]) := fl _ _ ((sB.trans sC) _ _ gtA) rfl
          have dD : upd HC pl (.lst (lv ++ ys)) pq = some (.dK kvs) := upd_keep (s5C _ _ gl) dC (by intro z; cases z)
          have pD : upd HC pl (.lst (lv ++ ys)) pp = some (.lst pv) := upd_at (s5C _ _ gp) npl
          have rD : upd HC pl (.lst (lv ++ ys)) lr = some (.lst (rs.map V.str)) := upd_at (s5C _ _ gr) nll
          have lD : upd HC pl (.lst (lv ++ ys)) pl = some (.lst (lv ++ ys)) := upd_same
          have sD : Same H (upd HC pl (.lst (lv ++ ys))) := (sH.trans s5C).upd_free hpl
          have kD : KindAt c (upd HC pl (.lst (lv ++ ys))) kp q.p.kd := (k9.mono ((sA.trans sB).trans sC)).fix fl
          have fD : Fix H5 (upd HC pl (.lst (lv ++ ys))) := s5C.fix.trans fl
          have tyD := tyC.fix fl
          generalize upd HC pl (.lst (lv ++ ys)) = HD at tD dD pD rD lD sD kD fD tyD
          have klen : kvs.length = m := by
            have := congrArg List.length ky
            rw [List.length_map, List.length_map, List.length_take] at this
            omega
          have nk : valV kvs (Sum.inr q.p.name) = none := by
            cases e : valV kvs (Sum.inr q.p.name) with
            | none => rfl
            | some v =>
              exfalso
              have hm' := valV_in e
              rw [ky] at hm'
              obtain ⟨q', hq', en⟩ := List.mem_map.mp hm'
              have en : q'.p.name = q.p.name := Sum.inr.inj en
              obtain ⟨j, hj, ej⟩ := List.getElem_of_mem hq'
              rw [List.length_take] at hj
              rw [List.getElem_take] at ej
              obtain ⟨hm3, em⟩ := List.getElem?_eq_some_iff.mp hq
              have nd := ok.w.nd
              unfold ptsOf nms at nd
              rw [List.map_map] at nd
              have : j = m := by
                refine (List.getElem_inj (h₀ := by simp; omega) (h₁ := by simp; omega) nd).mp ?_
                simp only [List.getElem_map, Function.comp, ej, em, en]
              omega
          refine ix_T tD (atI_nat (j := 0) rfl) ?_
          refine .inr ⟨kvs, _, dD, rfl, ?_⟩
          rw [nk]
          simp only [Option.isSome_none, tRet, tRetN, tCB, tCons, tNil, tSeq, tIfS, tAsg, gName, tV, x0, x1, x2, x3, tC, tOp, e_tst, e_isB, e_tru, e_truB, e_truI, e_truN, tSp, tDrop, tNext, tNot, tOr, tAnd, tIf, e_tup, e_lst, tCont, tBreak, tAug, tAugS, tAndV, tOrV, tNotV, tChain, e_dnew, gSub, ipI, tSl, tNoPart, tPart, tMk, ex_bl, ex_int, ex_int2, ex_some, e_eqI4, e_eqS4, e_neI3, e_neS3, e_i0, e_i2, e_addI, e_addS, e_addL4, e_mulI3, e_mulS, e_ix3S, e_ix3D, e_lenS, e_strI, e_intS, e_ival, e_for, e_comp, e_rg1, e_rg2, e_en, e_rg1I, e_rg2I, e_tMt, e_lm, e_lmR, e_app, e_ext, e_bmS, e_bmSS, e_split, e_part, e_sl2S, e_isi3T, e_gTup, e_gxT, e_get3D, e_set3D, gx1, tYes, frv, x4, x5, x6, x7, x8, Function.comp, if_true, x9, if_false]
          refine len_L pD ?_
          simp only [tRet, tRetN, tCB, tCons, tNil, tSeq, tIfS, tAsg, gName, tV, x0, x1, x2, x3, tC, tOp, e_tst, e_isB, e_tru, e_truB, e_truI, e_truN, tSp, tDrop, tNext, tNot, tOr, tAnd, tIf, e_tup, e_lst, tCont, tBreak, tAug, tAugS, tAndV, tOrV, tNotV, tChain, e_dnew, gSub, ipI, tSl, tNoPart, tPart, tMk, ex_bl, ex_int, ex_int2, ex_some, e_eqI4, e_eqS4, e_neI3, e_neS3, e_i0, e_i2, e_addI, e_addS, e_addL4, e_mulI3, e_mulS, e_ix3S, e_ix3D, e_lenS, e_strI, e_intS, e_ival, e_for, e_comp, e_rg1, e_rg2, e_en, e_rg1I, e_rg2I, e_tMt, e_lm, e_lmR, e_app, e_ext, e_bmS, e_bmSS, e_split, e_part, e_sl2S, e_isi3T, e_gTup, e_gxT, e_get3D, e_set3D, gx1, tYes, frv, x4, x5, x6, x7, x8, Function.comp, if_true, x9, if_false]
          rw [if_neg (by simp; omega)]
          refine ix_T tD (atI_nat (j := 0) rfl) ?_
          refine ⟨kvs, dD, small_lt (by omega), ?_⟩
          rw [putK_app nk]
          have fE : Fix HD (upd HD pq (.dK (kvs ++ [(Sum.inr q.p.name, .int i)]))) := Fix.upd dD rfl
          have pE : upd HD pq (.dK (kvs ++ [(Sum.inr q.p.name, .int i)])) pp = some (.lst pv) := upd_keep dD pD (by intro z; cases z)
          have rE : upd HD pq (.dK (kvs ++ [(Sum.inr q.p.name, .int i)])) lr = some (.lst (rs.map V.str)) := upd_keep dD rD (by intro z; cases z)
          have lE : upd HD pq (.dK (kvs ++ [(Sum.inr q.p.name, .int i)])) pl = some (.lst (lv ++ ys)) := upd_keep dD lD (by intro z; cases z)
          have dE : upd HD pq (.dK (kvs ++ [(Sum.inr q.p.name, .int i)])) pq = some (.dK (kvs ++ [(Sum.inr q.p.name, .int i)])) := upd_same
          have sE : Same H (upd HD pq (.dK (kvs ++ [(Sum.inr q.p.name, .int i)]))) := sD.upd_free hpq
          generalize upd HD pq (.dK (kvs ++ [(Sum.inr q.p.name, .int i)])) = HE at fE pE rE lE dE sE
          refine ⟨⟨_, SqL.of pE⟩, _, pE, small_lt (by omega), ?_⟩
          have fF : Fix HE (upd HE pp (.lst (pv ++ [.ref t]))) := Fix.upd pE rfl
          have fEF := fE.trans fF
          refine ⟨m + 1, pv ++ [.ref t], lv ++ ys, _, sE.upd_free hpp, upd_at rE nlp, upd_same, upd_at lE npl.symm, upd_keep pE dE (by intro z; cases z), hmq, ?_, by rw [List.length_append, hpv]; rfl, fun j q' hj hq' => ?_, ?_, ?_, _, _, _, _, rfl⟩
          · rw [filt_snoc hr, if_neg hw, hf, hwq, take_get hq, List.map_append]
            rfl
          · rcases Nat.lt_or_ge j m with hjm | hjm
            · obtain ⟨t', kp', f1, f2, f3⟩ := hpt j q' hjm hq'
              exact ⟨t', kp', by rw [List.getElem?_append_left (by omega)]; exact f1, (fD.trans fEF) _ _ f2 rfl, f3.fix (fD.trans fEF)⟩
            · have : j = m := by omega
              subst this
              rw [hq] at hq'
              cases hq'
              exact ⟨t, kp, by rw [List.getElem?_append_right (by omega), hpv, Nat.sub_self]; rfl, fEF _ _ tD rfl, kD.fix fEF⟩
          · rw [take_get hq, lns_snoc, List.map_append]
            exact (tl.fix (fD.trans fEF)).app (tyD.fix fEF)
          · rw [List.map_append, ky, take_get hq, List.map_append]
            rfl
    obtain ⟨m, pv, lv, kvs, sH, gr, gp, gl, gq, hm, hf, hpv, hpt, tl, ky, o4, o5, o6, o7, rfl⟩ := h
    rw [List.length_map, List.take_length, hz'] at hf
    have hmq : m = qs.length := by
      have := congrArg List.length hf
      rw [List.length_map, List.length_map, List.length_take] at this
      omega
    subst hmq
    rw [List.take_length] at tl ky
    have hne := qs_ne ok
    simp only [tRet, tRetN, tCB, tCons, tNil, tSeq, tIfS, tAsg, gName, tV, x0, x1, x2, x3, tC, tOp, e_tst, e_isB, e_tru, e_truB, e_truI, e_truN, tSp, tDrop, tNext, tNot, tOr, tAnd, tIf, e_tup, e_lst, tCont, tBreak, tAug, tAugS, tAndV, tOrV, tNotV, tChain, e_dnew, gSub, ipI, tSl, tNoPart, tPart, tMk, ex_bl, ex_int, ex_int2, ex_some, e_eqI4, e_eqS4, e_neI3, e_neS3, e_i0, e_i2, e_addI, e_addS, e_addL4, e_mulI3, e_mulS, e_ix3S, e_ix3D, e_lenS, e_strI, e_intS, e_ival, e_for, e_comp, e_rg1, e_rg2, e_en, e_rg1I, e_rg2I, e_tMt, e_lm, e_lmR, e_app, e_ext, e_bmS, e_bmSS, e_split, e_part, e_sl2S, e_isi3T, e_gTup, e_gxT, e_get3D, e_set3D, gx1, tYes, frv, x4, x5, x6, x7, x8, Function.comp, if_true, x9, if_false]
    refine ⟨by show 0 ≤ sizeLine; decide, alloc fun pe H6 s6 n6 g6 => ?_⟩
    have q1 : 1 ≤ qs.length := by
      cases qs with
      | nil => exact absurd rfl hne
      | cons a r => simp
    refine .inr ⟨_, _, SqL.of (s6 _ _ gp), SqL.of g6, by rw [hpv]; simp; omega, ?_⟩
    simp only [tRet, tRetN, tCB, tCons, tNil, tSeq, tIfS, tAsg, gName, tV, x0, x1, x2, x3, tC, tOp, e_tst, e_isB, e_tru, e_truB, e_truI, e_truN, tSp, tDrop, tNext, tNot, tOr, tAnd, tIf, e_tup, e_lst, tCont, tBreak, tAug, tAugS, tAndV, tOrV, tNotV, tChain, e_dnew, gSub, ipI, tSl, tNoPart, tPart, tMk, ex_bl, ex_int, ex_int2, ex_some, e_eqI4, e_eqS4, e_neI3, e_neS3, e_i0, e_i2, e_addI, e_addS, e_addL4, e_mulI3, e_mulS, e_ix3S, e_ix3D, e_lenS, e_strI, e_intS, e_ival, e_for, e_comp, e_rg1, e_rg2, e_en, e_rg1I, e_rg2I, e_tMt, e_lm, e_lmR, e_app, e_ext, e_bmS, e_bmSS, e_split, e_part, e_sl2S, e_isi3T, e_gTup, e_gxT, e_get3D, e_set3D, gx1, tYes, frv, x4, x5, x6, x7, x8, Function.comp, if_true, x9, if_false]
    intro x dx nx ndx nxd
    have g1' : ∀ b o, H6 b = some o → upd (upd H6 dx (.own x)) x (.ins cW dx []) b = some o := fun b o e => by rw [upd_ne (ne_at e nx), upd_ne (ne_at e ndx)]; exact e
    have ndq : (nms (ptsOf qs)).Nodup := ok.w.nd
    refine ⟨x, cW, dx, pp, pl, pv, lv, ptsOf qs, rfl, upd_same, wc, g1' _ _ (s6 _ _ gp), by unfold ptsOf; rw [List.length_map]; exact hpv, by have := ok.w.p60; omega, ndq, fun i p hp => ?_, g1' _ _ (s6 _ _ gl), fun H7 k7 w7 => ⟨rfl, ?_⟩⟩
    · obtain ⟨q, hq, rfl⟩ := get_map hp
      obtain ⟨t, kp, f1, f2, f3⟩ := hpt i q (List.getElem?_eq_some_iff.mp hq).1 hq
      obtain ⟨dk, f3⟩ := f3
      exact ⟨t, kp, f1, g1' _ _ (s6 _ _ f2), dk, g1' _ _ (s6 _ _ f3)⟩
    have tl' : Tups (upd (upd H6 dx (.own x)) x (.ins cW dx [])) lv ((lnsOf qs).map lrow) := (tl.fix s6.fix).fix fun b o e _ => g1' b o e
    have W7 := w7 (lnsOf qs) tl'
    have s67 : Same H6 H7 := fun b o e => k7 b o (ne_at e nx) (g1' b o e)
    have hx0 : H x = none := (sH.trans s6).free nx
    have p60 := ok.w.p60
    have ll := ok.w.ll
    refine ⟨x, pq, ptsOf qs, lnsOf qs, rfl, W7, ndq, by omega, by omega, ok.w.frm, fun H8 s8 => ?_⟩
    simp only [tRet, tRetN, tCB, tCons, tNil, tSeq, tIfS, tAsg, gName, tV, x0, x1, x2, x3, tC, tOp, e_tst, e_isB, e_tru, e_truB, e_truI, e_truN, tSp, tDrop, tNext, tNot, tOr, tAnd, tIf, e_tup, e_lst, tCont, tBreak, tAug, tAugS, tAndV, tOrV, tNotV, tChain, e_dnew, gSub, ipI, tSl, tNoPart, tPart, tMk, ex_bl, ex_int, ex_int2, ex_some, e_eqI4, e_eqS4, e_neI3, e_neS3, e_i0, e_i2, e_addI, e_addS, e_addL4, e_mulI3, e_mulS, e_ix3S, e_ix3D, e_lenS, e_strI, e_intS, e_ival, e_for, e_comp, e_rg1, e_rg2, e_en, e_rg1I, e_rg2I, e_tMt, e_lm, e_lmR, e_app, e_ext, e_bmS, e_bmSS, e_split, e_part, e_sl2S, e_isi3T, e_gTup, e_gxT, e_get3D, e_set3D, gx1, tYes, frv, x4, x5, x6, x7, x8, Function.comp, if_true, x9, if_false]
    refine ⟨x, ptsOf qs, lnsOf qs, rfl, W7.mono s8, ndq, by omega, by omega, ok.w.to, ok.up, fun H9 s9 => ?_⟩
    exact k x H9 (((sH.trans s6).trans s67).trans (s8.trans s9)) hx0 (W7.mono (s8.trans s9))
end
end K2
end
section
set_option maxRecDepth 100000
set_option maxHeartbeats 4000000
set_option linter.all false
namespace K2
open PySem L2
open TX
seal L2.PE L2.PS L2.PSs L2.PT L2.PA L2.PG L2.PI L2.PW
structure LP where
  p : PK
  pf : List (Nat × Int)
def nameAt (parts : List LP) (k : Nat) : Str := ((parts[k]?).map (·.p.name)).getD ""
def toPt (parts : List LP) (x : LP) : Pt := ⟨x.p, x.pf.map fun f => (nameAt parts f.1, f.2)⟩
def toPts (parts : List LP) : List Pt := parts.map (toPt parts)
structure LOk (parts : List LP) : Prop where
  n2 : 2 ≤ parts.length
  n60 : parts.length ≤ 60
  nm : ∃ mark : Int, ∀ (k : Nat) x, parts[k]? = some x → x.p.name = ofL (nmL k mark)
  fit : ∀ x ∈ parts, x.p.kd.fit
  tm : ∀ x ∈ parts, 0 ≤ x.p.time ∧ x.p.time ≤ 1000
  te : ∀ x ∈ parts, 0 < x.p.time → x.p.kd.isEnd = false
  ask : ∀ x ∈ parts, (x.pf.length : Int) = x.p.kd.asked
  fd : ∀ (k : Nat) x, parts[k]? = some x → ∀ f ∈ x.pf, (∃ y, parts[f.1]? = some y ∧ y.p.kd ≠ .snk) ∧ 0 ≤ f.2 ∧ f.2 ≤ 2 ∧ (f.2 = 0 → f.1 < k)
theorem nameAt_of {parts : List LP} {k : Nat} {x : LP} (h : parts[k]? = some x) : nameAt parts k = x.p.name := by unfold nameAt; rw [h]; rfl
theorem alpha_ns : ∀ c ∈ alphaL, c ∈ nameSigns.cps.toList := by decide +kernel
theorem isName_nm {k : Nat} {mark : Int} (hk : k < 72) : isName (ofL (nmL k mark)) = true := by
  have hl := nmL_len k mark
  have e : (ofL (nmL k mark)).length = (nmL k mark).length := by rw [← ls_len, ls_ofL]
  unfold isName
  rw [e, decide_eq_true (by omega), decide_eq_true (by omega), Bool.true_and, Bool.true_and]
  unfold madeOf
  rw [List.all_eq_true]
  intro c hc
  have hc : c ∈ nmL k mark := by rw [show (ofL (nmL k mark)).cps.toList = ls (ofL (nmL k mark)) from rfl, ls_ofL] at hc; exact hc
  exact decide_eq_true (alpha_ns c (nmL_mem hk c hc))
theorem pts_to (parts : List LP) : ptsOf (toPts parts) = parts.map (·.p) := by
  unfold ptsOf toPts
  rw [List.map_map]
  rfl
theorem nms_to (parts : List LP) : nms (ptsOf (toPts parts)) = parts.map fun x => x.p.name := by
  rw [pts_to]
  unfold nms
  rw [List.map_map]
  rfl
theorem lns_to_mem {parts : List LP} {l : Ln} (h : l ∈ lnsOf (toPts parts)) : ∃ (k : Nat) (x : LP) (f : Nat × Int), parts[k]? = some x ∧ f ∈ x.pf ∧ l = (nameAt parts f.1, x.p.name, f.2) := by
  obtain ⟨q, hq, hl⟩ := List.mem_flatMap.mp h
  obtain ⟨x, hx, rfl⟩ := List.mem_map.mp hq
  obtain ⟨g, hg, rfl⟩ := List.mem_map.mp hl
  obtain ⟨f, hf, rfl⟩ := List.mem_map.mp hg
  obtain ⟨k, hk, e⟩ := List.getElem_of_mem hx
  exact ⟨k, x, f, by rw [List.getElem?_eq_getElem hk, e], hf, rfl⟩
theorem rok {parts : List LP} (ok : LOk parts) : ROk (toPts parts) := by
  obtain ⟨mark, hnm⟩ := ok.nm
  have len : (ptsOf (toPts parts)).length = parts.length := by rw [pts_to, List.length_map]
  have nm : ∀ x ∈ parts, isName x.p.name = true := fun x hx => by
    obtain ⟨k, hk, e⟩ := List.getElem_of_mem hx
    rw [hnm k x (by rw [List.getElem?_eq_getElem hk, e])]
    have := ok.n60
    exact isName_nm (by omega)
  have inj : ∀ (i j : Nat) x y, parts[i]? = some x → parts[j]? = some y → x.p.name = y.p.name → i = j := fun i j x y hi hj e => by
    rw [hnm i x hi, hnm j y hj] at e
    have := congrArg ls e
    rw [ls_ofL, ls_ofL] at this
    exact nmL_inj this
  refine ⟨⟨?_, by rw [len]; have := ok.n2; omega, by rw [len]; exact ok.n60, ?_, ?_, ?_, ?_, ?_, ?_, ?_, ?_⟩, ?_, ?_⟩
  · rw [nms_to]
    rw [List.nodup_iff_pairwise_ne, List.pairwise_iff_getElem]
    intro i j hi hj hij e
    rw [List.length_map] at hi hj
    rw [List.getElem_map, List.getElem_map] at e
    have := inj i j _ _ (List.getElem?_eq_getElem hi) (List.getElem?_eq_getElem hj) e
    omega
  · have h2 : (lnsOf (toPts parts)).length ≤ (toPts parts).length * 3 := flat_len _ _ fun q hq => by
      obtain ⟨x, hx, rfl⟩ := List.mem_map.mp hq
      have := ok.ask x hx
      have h3 : x.p.kd.asked ≤ 3 := by cases x.p.kd <;> simp [Kd.asked]
      unfold toPt
      rw [List.length_map, List.length_map]
      omega
    have e : (toPts parts).length = parts.length := by unfold toPts; rw [List.length_map]
    have := ok.n60
    omega
  · intro p hp
    rw [pts_to] at hp
    obtain ⟨x, hx, rfl⟩ := List.mem_map.mp hp
    exact nm x hx
  · intro p hp
    rw [pts_to] at hp
    obtain ⟨x, hx, rfl⟩ := List.mem_map.mp hp
    exact ok.fit x hx
  · intro p hp
    rw [pts_to] at hp
    obtain ⟨x, hx, rfl⟩ := List.mem_map.mp hp
    exact ok.tm x hx
  · intro p hp
    rw [pts_to] at hp
    obtain ⟨x, hx, rfl⟩ := List.mem_map.mp hp
    exact ok.te x hx
  · intro l hl
    obtain ⟨k, x, f, hk, hf, rfl⟩ := lns_to_mem hl
    obtain ⟨_, a, b, _⟩ := ok.fd k x hk f hf
    exact ⟨a, by show f.2 ≤ 100; omega⟩
  · intro l hl
    obtain ⟨k, x, f, hk, hf, rfl⟩ := lns_to_mem hl
    obtain ⟨⟨y, hy, hs⟩, _⟩ := ok.fd k x hk f hf
    refine ⟨y.p, by rw [pts_to]; exact List.mem_map.mpr ⟨y, List.mem_of_getElem? hy, rfl⟩, ?_, hs⟩
    exact (nameAt_of hy).symm
  · intro l hl
    obtain ⟨k, x, f, hk, hf, rfl⟩ := lns_to_mem hl
    rw [nms_to]
    exact List.mem_map.mpr ⟨x, List.mem_of_getElem? hk, rfl⟩
  · intro q hq
    obtain ⟨x, hx, rfl⟩ := List.mem_map.mp hq
    unfold toPt
    show ((x.pf.map _).length : Int) = x.p.kd.asked
    rw [List.length_map]
    exact ok.ask x hx
  · intro d hd
    obtain ⟨l, hl, l0, rfl⟩ := dir_mem hd
    obtain ⟨k, x, f, hk, hf, rfl⟩ := lns_to_mem hl
    obtain ⟨⟨y, hy, hs⟩, _, _, h0⟩ := ok.fd k x hk f hf
    refine ⟨f.1, k, h0 l0, ?_, ?_⟩
    · rw [nms_to, List.getElem?_map, hy]
      show some y.p.name = some (nameAt parts f.1)
      rw [nameAt_of hy]
    · rw [nms_to, List.getElem?_map, hk]
      rfl
def frow (f : Nat × Int) : List V := [.int f.1, .int f.2]
def PartAt (H : Hp) (v : V) (x : LP) : Prop := ∃ a f fv, v = .ref a ∧ H a = some (.tup [.str x.p.name, .str x.p.kd.word, .int x.p.time, .ref f]) ∧ H f = some (.lst fv) ∧ Tups H fv (x.pf.map frow)
def PartsAt (H : Hp) (a : Addr) (parts : List LP) : Prop := ∃ vs, H a = some (.lst vs) ∧ vs.length = parts.length ∧ ∀ (i : Nat) x, parts[i]? = some x → ∃ v, vs[i]? = some v ∧ PartAt H v x
theorem PartAt.mono {H H' : Hp} {v : V} {x : LP} (h : PartAt H v x) (s : Same H H') : PartAt H' v x := by
  obtain ⟨a, f, fv, e, h1, h2, h3⟩ := h
  exact ⟨a, f, fv, e, s _ _ h1, s _ _ h2, h3.fix s.fix⟩
theorem PartsAt.mono {H H' : Hp} {a : Addr} {parts : List LP} (h : PartsAt H a parts) (s : Same H H') : PartsAt H' a parts := by
  obtain ⟨vs, h1, h2, h3⟩ := h
  exact ⟨vs, s _ _ h1, h2, fun i x hx => let ⟨v, e, p⟩ := h3 i x hx; ⟨v, e, p.mono s⟩⟩
theorem PartsAt.at {H : Hp} {a : Addr} {parts : List LP} (h : PartsAt H a parts) : ∃ vs, H a = some (.lst vs) ∧ vs.length = parts.length ∧ (∀ (i : Nat) v, vs[i]? = some v → ∃ x, parts[i]? = some x ∧ PartAt H v x) ∧ ∀ (i : Nat) x, parts[i]? = some x → ∃ v, vs[i]? = some v ∧ PartAt H v x := by
  obtain ⟨vs, h1, h2, h3⟩ := h
  refine ⟨vs, h1, h2, fun i v hv => ?_, h3⟩
  have hi : i < parts.length := by rw [← h2]; exact (List.getElem?_eq_some_iff.mp hv).1
  obtain ⟨v', e, p⟩ := h3 i _ (List.getElem?_eq_getElem hi)
  rw [hv] at e
  cases e
  exact ⟨_, List.getElem?_eq_getElem hi, p⟩
def spCellAt (K : PySem.W.Frag) : Sp := fun vs H Q _ => ∃ (a : Addr) (ns : List Int) (k : Int), vs = [.ref a, .int k] ∧ SqL K H a (ns.map V.int) ∧ 0 ≤ k ∧ ∀ v : Int, Q (.int v) H
def primesL : List Int := [1000003, 1000033, 1000037, 1000039, 1000081, 1000099, 1000117, 1000121, 1000133, 1000151, 1000159, 1000171, 1000183, 1000187, 1000193, 1000199]
theorem primes_at {k : Nat} (h : k < 16) : ([.int 1000003, .int 1000033, .int 1000037, .int 1000039, .int 1000081, .int 1000099, .int 1000117, .int 1000121, .int 1000133, .int 1000151, .int 1000159, .int 1000171, .int 1000183, .int 1000187, .int 1000193, .int 1000199] : List V)[k]? = some (.int (primesL.getD k 1)) := by
  have e : ([.int 1000003, .int 1000033, .int 1000037, .int 1000039, .int 1000081, .int 1000099, .int 1000117, .int 1000121, .int 1000133, .int 1000151, .int 1000159, .int 1000171, .int 1000183, .int 1000187, .int 1000193, .int 1000199] : List V) = primesL.map V.int := rfl
  have hl : primesL.length = 16 := rfl
  rw [e, List.getElem?_map, List.getElem?_eq_getElem (by omega), List.getD_eq_getElem?_getD, List.getElem?_eq_getElem (by omega)]
  rfl
theorem pr_pos {k : Nat} (h : k < 16) : 0 < primesL.getD k 1 := by
  have : ∀ j : _root_.Fin 16, 0 < primesL.getD j.val 1 := by decide
  exact this ⟨k, h⟩
def spDraw : Sp := fun vs H Q _ => ∃ (cell many : Int) (k : Nat), vs = [.int cell, .int (k : Nat), .int many] ∧ k < 16 ∧ 0 < many ∧ many < 1000000 ∧ ∀ d H', 0 ≤ d → d < many → Same H H' → Q (.int d) H'
def asksOf (z : Str) : Int := if z = "in" then 0 else if z = "out" then 1 else if Txt.slice z none (some 2) = "up" then 1 else if Txt.slice z none (some 4) = "down" then 1 else if z = "pick" then 3 else 2
theorem asks_up : ∀ j : _root_.Fin 64, asksOf (Kd.word (.up (j.val : Int))) = 1 := by decide +kernel
theorem asks_down : ∀ j : _root_.Fin 64, asksOf (Kd.word (.down (j.val : Int))) = 1 := by decide +kernel
theorem asks_kd {kd : Kd} (h : kd.fit) : asksOf kd.word = kd.asked := by
  cases kd with
  | up n =>
    obtain ⟨m, rfl⟩ := Int.eq_ofNat_of_zero_le (show 0 ≤ n by have := h.1; omega)
    exact asks_up ⟨m, by have := h.2; omega⟩
  | down n =>
    obtain ⟨m, rfl⟩ := Int.eq_ofNat_of_zero_le (show 0 ≤ n by have := h.1; omega)
    exact asks_down ⟨m, by have := h.2; omega⟩
  | _ => decide +kernel
def spAsks : Sp := fun vs H Q _ => ∃ kd : Kd, vs = [.str kd.word] ∧ kd.fit ∧ Q (.int kd.asked) H
def spName : Sp := fun vs H Q _ => ∃ (k : Nat) (mark : Int), vs = [.int (k : Nat), .int mark] ∧ k < 72 ∧ Q (.str (ofL (nmL k mark))) H
theorem rep_ls (n : Int) (h0 : 0 ≤ n) (h1 : n < 4) : ls (repS "q" n) = List.replicate n.toNat 113 := by
  obtain ⟨m, rfl⟩ := Int.eq_ofNat_of_zero_le h0
  have : ∀ j : _root_.Fin 4, ls (repS "q" (j.val : Int)) = List.replicate j.val 113 := by decide +kernel
  exact this ⟨m, by omega⟩
theorem alpha_at : ∀ j : _root_.Fin 36, ("abcdefghijklmnopqrstuvwxyz0123456789" : Str).cps.toList[j.val]? = some (alphaL.getD j.val 0) := by decide +kernel
theorem zo_at : ∀ j : _root_.Fin 2, ("01" : Str).cps.toList[j.val]? = some (48 + j.val) := by decide +kernel
def tenL : List Kd := [.both, .either, .odd, .plus, .pick, .plus, .odd, .snk, .src, .pick]
theorem ten_fit : ∀ kd ∈ tenL, kd.fit := by
  intro kd h
  simp only [tenL, List.mem_cons, List.mem_nil_iff, or_false] at h
  rcases h with rfl | rfl | rfl | rfl | rfl | rfl | rfl | rfl | rfl | rfl <;> exact trivial
theorem ten_at {j : Nat} (h : j < 10) : ∃ kd : Kd, kd.fit ∧ ([V.str (Str.ofString "and"), V.str (Str.ofString "or"), V.str (Str.ofString "odd"), V.str (Str.ofString "plus"), V.str (Str.ofString "pick"), V.str (Str.ofString "plus"), V.str (Str.ofString "odd"), V.str (Str.ofString "out"), V.str (Str.ofString "in"), V.str (Str.ofString "pick")] : List V)[j]? = some (.str kd.word) := by
  have e : ([V.str (Str.ofString "and"), V.str (Str.ofString "or"), V.str (Str.ofString "odd"), V.str (Str.ofString "plus"), V.str (Str.ofString "pick"), V.str (Str.ofString "plus"), V.str (Str.ofString "odd"), V.str (Str.ofString "out"), V.str (Str.ofString "in"), V.str (Str.ofString "pick")] : List V) = tenL.map fun kd => .str kd.word := rfl
  have hl : j < tenL.length := h
  exact ⟨tenL[j], ten_fit _ (List.getElem_mem hl), by rw [e, List.getElem?_map, List.getElem?_eq_getElem hl]; rfl⟩
def spWord : Sp := fun vs H Q _ => ∃ (cell : Int) (k : Int), vs = [.int cell, .int k] ∧ ∀ (kd : Kd) H', kd.fit → Same H H' → Q (.str kd.word) H'
section
variable {P : Program} {w : World} {K : PySem.W.Frag} {mg : Str → Option Value} {base : Heap} {c : Cs} {cW : Addr}
abbrev s_law_cell_at : Stmt := top 45
theorem sc_law_cell_at : FnSc ["_law_script", "_law_k"] ["_law_script", "_law_k"] ["len"] (defScope s_law_cell_at) := ⟨⟨rfl, rfl, rfl, by decide +kernel, rfl, by decide +kernel, by decide +kernel⟩, by decide +kernel, by decide +kernel, by decide +kernel⟩
theorem ok_law_cell_at {f : Addr} {fd : FuncData} (F : Fun K "_law_cell_at" "_law_cell_at" s_law_cell_at f fd) (n_len : mg "len" = none) : FnOk P w K mg base CX0 1 f fd ["_law_script", "_law_k"] (spCellAt K) := by
  refine F.ok sc_law_cell_at.S (fun vs H Q E h => ?_) (fun cdv A outer s H vs Q E hr h => ?_)
  · obtain ⟨a, ns, kk, rfl, _⟩ := h
    rfl
  · obtain ⟨a, ns, kk, rfl, hS, h0, k⟩ := h
    have S := sc_law_cell_at.sx (CX := CX0) (P := P) (w := w) (K := K) (mg := mg) (base := base) (qual := "_law_cell_at") (f := f) (cd := cdv) (A := A) (outer := outer) (s := s) (H := H) (E := E)
    have Sg := fun i {x} h => sc_law_cell_at.gx (CX := CX0) (P := P) (w := w) (K := K) (mg := mg) (base := base) (qual := "_law_cell_at") (f := f) (cd := cdv) (A := A) (outer := outer) (s := s) (H := H) (E := E) i (x := x) h
    have hU := hr.units
    refine ⟨_, (pss_cons (ps_if (pt_of o_lt (nv S 1) (k_len (K := K) rfl (Sg 0 rfl) n_len (pa_cons (nv S 0) pa_nil))) (pss_one (ps_ret (pe_ix (o_ix3 (K := K) rfl hU) (nv S 0) (nv S 1) (fun _ _ => rfl)))) pss_nil)
      (pss_one (ps_ret pe_int))), ?_⟩
    show (_ : TS) _ [some (.ref a), some (.int kk)] H
    simp only [tRet, tRetN, tCB, tCons, tNil, tSeq, tIfS, tAsg, gName, tV, x0, x1, x2, x3, tC, tOp, e_tst, e_isB, e_tru, e_truB, e_truI, e_truN, tSp, tDrop, tNext, tNot, tOr, tAnd, tIf, e_tup, e_lst, tCont, tBreak, tAug, tAugS, tAndV, tOrV, tNotV, tChain, e_dnew, gSub, ipI, tSl, tNoPart, tPart, tMk, ex_bl, ex_int, ex_int2, ex_some, e_eqI4, e_eqS4, e_neI3, e_neS3, e_i0, e_i2, e_addI, e_addS, e_addL4, e_mulI3, e_mulS, e_ix3S, e_ix3D, e_lenS, e_strI, e_intS, e_ival, e_for, e_comp, e_rg1, e_rg2, e_en, e_rg1I, e_rg2I, e_tMt, e_lm, e_lmR, e_app, e_ext, e_bmS, e_bmSS, e_split, e_part, e_sl2S, e_isi3T, e_gTup, e_gxT, e_get3D, e_set3D, gx1, tYes, frv, x4, x5, x6, x7, x8, Function.comp, if_true, x9, if_false]
    refine .inl ⟨_, .inl hS, ?_⟩
    simp only [tRet, tRetN, tCB, tCons, tNil, tSeq, tIfS, tAsg, gName, tV, x0, x1, x2, x3, tC, tOp, e_tst, e_isB, e_tru, e_truB, e_truI, e_truN, tSp, tDrop, tNext, tNot, tOr, tAnd, tIf, e_tup, e_lst, tCont, tBreak, tAug, tAugS, tAndV, tOrV, tNotV, tChain, e_dnew, gSub, ipI, tSl, tNoPart, tPart, tMk, ex_bl, ex_int, ex_int2, ex_some, e_eqI4, e_eqS4, e_neI3, e_neS3, e_i0, e_i2, e_addI, e_addS, e_addL4, e_mulI3, e_mulS, e_ix3S, e_ix3D, e_lenS, e_strI, e_intS, e_ival, e_for, e_comp, e_rg1, e_rg2, e_en, e_rg1I, e_rg2I, e_tMt, e_lm, e_lmR, e_app, e_ext, e_bmS, e_bmSS, e_split, e_part, e_sl2S, e_isi3T, e_gTup, e_gxT, e_get3D, e_set3D, gx1, tYes, frv, x4, x5, x6, x7, x8, Function.comp, if_true, x9, if_false]
    refine ite2 (fun h => ?_) (fun h => k 0)
    have h := of_decide_eq_true h
    rw [List.length_map] at h
    obtain ⟨j, rfl⟩ := Int.eq_ofNat_of_zero_le h0
    have hj : j < ns.length := by omega
    exact .inl ⟨_, _, .inl hS, atI_nat (by rw [List.getElem?_map, List.getElem?_eq_getElem hj]; rfl), k _⟩
abbrev s_law_draw : Stmt := top 46
theorem sc_law_draw : FnSc ["_law_cell", "_law_k", "_law_many", "_law_primes"] ["_law_cell", "_law_k", "_law_many"] [] (defScope s_law_draw) := ⟨⟨rfl, rfl, rfl, by decide +kernel, rfl, by decide +kernel, by decide +kernel⟩, by decide +kernel, by decide +kernel, by decide +kernel⟩
def lt_law_draw_0 : List V := [.int 1000003, .int 1000033, .int 1000037, .int 1000039, .int 1000081, .int 1000099, .int 1000117, .int 1000121, .int 1000133, .int 1000151, .int 1000159, .int 1000171, .int 1000183, .int 1000187, .int 1000193, .int 1000199]
theorem ok_law_draw {f : Addr} {fd : FuncData} (F : Fun K "_law_draw" "_law_draw" s_law_draw f fd)  : FnOk P w K mg base CX0 1 f fd ["_law_cell", "_law_k", "_law_many"] spDraw := by
  refine F.ok sc_law_draw.S (fun vs H Q E h => ?_) (fun cdv A outer s H vs Q E hr h => ?_)
  · obtain ⟨cell, many, kk, rfl, _⟩ := h
    rfl
  · obtain ⟨cell, many, kk, rfl, hk, hm, hm2, q⟩ := h
    have S := sc_law_draw.sx (CX := CX0) (P := P) (w := w) (K := K) (mg := mg) (base := base) (qual := "_law_draw") (f := f) (cd := cdv) (A := A) (outer := outer) (s := s) (H := H) (E := E)
    have hU := hr.units
    refine ⟨_, (pss_cons (ps_st S 3 (pe_id (t := tTup (tLits lt_law_draw_0)) ?L0))
      (pss_one (ps_ret (pe_op o_mod (pe_op o_mod (pe_op o_add (pe_op o_mul3 (nv S 0) pe_int) (pe_op o_mul3 (nv S 1) pe_int)) (pe_ix (o_ix3 (K := K) rfl hU) (nv S 3) (pe_op o_mod (nv S 1) pe_int) (fun _ _ => rfl))) (nv S 2))))), ?_⟩
    case L0 =>
      refine pe_litT ?_
      rfl
    show (_ : TS) _ [some (.int cell), some (.int (kk : Nat)), some (.int many), none] H
    simp only [tLits, lt_law_draw_0, tRet, tRetN, tCB, tCons, tNil, tSeq, tIfS, tAsg, gName, tV, x0, x1, x2, x3, tC, tOp, e_tst, e_isB, e_tru, e_truB, e_truI, e_truN, tSp, tDrop, tNext, tNot, tOr, tAnd, tIf, e_tup, e_lst, tCont, tBreak, tAug, tAugS, tAndV, tOrV, tNotV, tChain, e_dnew, gSub, ipI, tSl, tNoPart, tPart, tMk, ex_bl, ex_int, ex_int2, ex_some, e_eqI4, e_eqS4, e_neI3, e_neS3, e_i0, e_i2, e_addI, e_addS, e_addL4, e_mulI3, e_mulS, e_ix3S, e_ix3D, e_lenS, e_strI, e_intS, e_ival, e_for, e_comp, e_rg1, e_rg2, e_en, e_rg1I, e_rg2I, e_tMt, e_lm, e_lmR, e_app, e_ext, e_bmS, e_bmSS, e_split, e_part, e_sl2S, e_isi3T, e_gTup, e_gxT, e_get3D, e_set3D, gx1, tYes, frv, x4, x5, x6, x7, x8, Function.comp, if_true, x9, if_false]
    refine ⟨by show 16 ≤ sizeLine; decide, alloc fun p H1 s1 n1 g1 => ?_⟩
    refine ⟨.inr ⟨by decide, by decide⟩, .inr ⟨by decide, by decide⟩, by decide, ?_⟩
    have e16 : ((kk : Nat) : Int) % 16 = ((kk : Nat) : Int) := Int.emod_eq_of_lt (by omega) (by omega)
    refine ix_T g1 (by rw [e16]; exact atI_nat (primes_at hk)) ?_
    simp only [tRet, tRetN, tCB, tCons, tNil, tSeq, tIfS, tAsg, gName, tV, x0, x1, x2, x3, tC, tOp, e_tst, e_isB, e_tru, e_truB, e_truI, e_truN, tSp, tDrop, tNext, tNot, tOr, tAnd, tIf, e_tup, e_lst, tCont, tBreak, tAug, tAugS, tAndV, tOrV, tNotV, tChain, e_dnew, gSub, ipI, tSl, tNoPart, tPart, tMk, ex_bl, ex_int, ex_int2, ex_some, e_eqI4, e_eqS4, e_neI3, e_neS3, e_i0, e_i2, e_addI, e_addS, e_addL4, e_mulI3, e_mulS, e_ix3S, e_ix3D, e_lenS, e_strI, e_intS, e_ival, e_for, e_comp, e_rg1, e_rg2, e_en, e_rg1I, e_rg2I, e_tMt, e_lm, e_lmR, e_app, e_ext, e_bmS, e_bmSS, e_split, e_part, e_sl2S, e_isi3T, e_gTup, e_gxT, e_get3D, e_set3D, gx1, tYes, frv, x4, x5, x6, x7, x8, Function.comp, if_true, x9, if_false]
    exact ⟨pr_pos hk, hm, q _ _ (Int.emod_nonneg _ (by omega)) (Int.emod_lt_of_pos _ hm) s1⟩
abbrev s_law_asks : Stmt := top 47
theorem sc_law_asks : FnSc ["_law_word_here"] ["_law_word_here"] [] (defScope s_law_asks) := ⟨⟨rfl, rfl, rfl, by decide +kernel, rfl, by decide +kernel, by decide +kernel⟩, by decide +kernel, by decide +kernel, by decide +kernel⟩
theorem ok_law_asks {f : Addr} {fd : FuncData} (F : Fun K "_law_asks" "_law_asks" s_law_asks f fd)  : FnOk P w K mg base CX0 1 f fd ["_law_word_here"] spAsks := by
  refine F.ok sc_law_asks.S (fun vs H Q E h => ?_) (fun cdv A outer s H vs Q E hr h => ?_)
  · obtain ⟨kd, rfl, _⟩ := h
    rfl
  · obtain ⟨kd, rfl, hf, q⟩ := h
    have S := sc_law_asks.sx (CX := CX0) (P := P) (w := w) (K := K) (mg := mg) (base := base) (qual := "_law_asks") (f := f) (cd := cdv) (A := A) (outer := outer) (s := s) (H := H) (E := E)
    have hU := hr.units
    refine ⟨_, (pss_cons (ps_if (pt_of (o_eq4 (K := K) rfl hU) (nv S 0) pe_str) (pss_one (ps_ret pe_int)) pss_nil)
      (pss_cons (ps_if (PW.pt (pw_or (pt_of (o_eq4 (K := K) rfl hU) (nv S 0) pe_str) (pw_or (pt_of (o_eq4 (K := K) rfl hU) (pe_slice (o_sl2 (K := K)) (nv S 0) po_none (po_some pe_int)) pe_str) (pw_or1 (pt_of (o_eq4 (K := K) rfl hU) (pe_slice (o_sl2 (K := K)) (nv S 0) po_none (po_some pe_int)) pe_str))))) (pss_one (ps_ret pe_int)) pss_nil)
      (pss_cons (ps_if (pt_of (o_eq4 (K := K) rfl hU) (nv S 0) pe_str) (pss_one (ps_ret pe_int)) pss_nil)
      (pss_one (ps_ret pe_int))))), ?_⟩
    show (_ : TS) _ [some (.str kd.word)] H
    simp only [tRet, tRetN, tCB, tCons, tNil, tSeq, tIfS, tAsg, gName, tV, x0, x1, x2, x3, tC, tOp, e_tst, e_isB, e_tru, e_truB, e_truI, e_truN, tSp, tDrop, tNext, tNot, tOr, tAnd, tIf, e_tup, e_lst, tCont, tBreak, tAug, tAugS, tAndV, tOrV, tNotV, tChain, e_dnew, gSub, ipI, tSl, tNoPart, tPart, tMk, ex_bl, ex_int, ex_int2, ex_some, e_eqI4, e_eqS4, e_neI3, e_neS3, e_i0, e_i2, e_addI, e_addS, e_addL4, e_mulI3, e_mulS, e_ix3S, e_ix3D, e_lenS, e_strI, e_intS, e_ival, e_for, e_comp, e_rg1, e_rg2, e_en, e_rg1I, e_rg2I, e_tMt, e_lm, e_lmR, e_app, e_ext, e_bmS, e_bmSS, e_split, e_part, e_sl2S, e_isi3T, e_gTup, e_gxT, e_get3D, e_set3D, gx1, tYes, frv, x4, x5, x6, x7, x8, Function.comp, if_true, x9, if_false]
    rw [← asks_kd hf] at q
    unfold asksOf at q
    have hz : kd.word.length ≤ sizeLine := small_size (by have := (kd_ok hf).2.1; omega)
    refine ite2 (fun h => ?_) (fun h => ?_)
    · rw [if_pos (of_decide_eq_true h)] at q; exact q
    rw [if_neg (of_decide_eq_false (Bool.eq_false_iff.mpr h))] at q
    refine ite2 (fun h => ?_) (fun h => ?_)
    · rw [if_pos (of_decide_eq_true h)] at q; exact q
    rw [if_neg (of_decide_eq_false (Bool.eq_false_iff.mpr h))] at q
    refine ⟨hz, ite2 (fun h => ?_) (fun h => ?_)⟩
    · rw [if_pos (of_decide_eq_true h)] at q; exact q
    rw [if_neg (of_decide_eq_false (Bool.eq_false_iff.mpr h))] at q
    refine ⟨hz, ite2 (fun h => ?_) (fun h => ?_)⟩
    · rw [if_pos (of_decide_eq_true h)] at q; exact q
    rw [if_neg (of_decide_eq_false (Bool.eq_false_iff.mpr h))] at q
    refine ite2 (fun h => ?_) (fun h => ?_)
    · rw [if_pos (of_decide_eq_true h)] at q; exact q
    rw [if_neg (of_decide_eq_false (Bool.eq_false_iff.mpr h))] at q
    exact q
abbrev s_law_name : Stmt := top 48
theorem sc_law_name : FnSc ["_law_k", "_law_mark", "_law_two"] ["_law_k", "_law_mark"] [] (defScope s_law_name) := ⟨⟨rfl, rfl, rfl, by decide +kernel, rfl, by decide +kernel, by decide +kernel⟩, by decide +kernel, by decide +kernel, by decide +kernel⟩
theorem ok_law_name {f : Addr} {fd : FuncData} (F : Fun K "_law_name" "_law_name" s_law_name f fd)  : FnOk P w K mg base CX0 1 f fd ["_law_k", "_law_mark"] spName := by
  refine F.ok sc_law_name.S (fun vs H Q E h => ?_) (fun cdv A outer s H vs Q E hr h => ?_)
  · obtain ⟨kk, mark, rfl, _⟩ := h
    rfl
  · obtain ⟨kk, mark, rfl, hk, q⟩ := h
    have S := sc_law_name.sx (CX := CX0) (P := P) (w := w) (K := K) (mg := mg) (base := base) (qual := "_law_name") (f := f) (cd := cdv) (A := A) (outer := outer) (s := s) (H := H) (E := E)
    have hU := hr.units
    refine ⟨_, (pss_cons (ps_st S 2 (pe_ix (o_ix3 (K := K) rfl hU) pe_str (pe_op o_mod (pe_op o_add (nv S 0) (nv S 1)) pe_int) (fun _ _ => rfl)))
      (pss_one (ps_ret (pe_op o_add (pe_op o_add (pe_op o_add (pe_op o_mul3 pe_str (pe_op o_mod (nv S 1) pe_int)) (nv S 2)) (pe_ix (o_ix3 (K := K) rfl hU) pe_str (pe_op o_fdiv (nv S 0) pe_int) (fun _ _ => rfl))) (pe_op o_mul3 pe_str (pe_op o_mod (pe_op o_fdiv (nv S 1) pe_int) pe_int)))))), ?_⟩
    show (_ : TS) _ [some (.int (kk : Nat)), some (.int mark), none] H
    simp only [tRet, tRetN, tCB, tCons, tNil, tSeq, tIfS, tAsg, gName, tV, x0, x1, x2, x3, tC, tOp, e_tst, e_isB, e_tru, e_truB, e_truI, e_truN, tSp, tDrop, tNext, tNot, tOr, tAnd, tIf, e_tup, e_lst, tCont, tBreak, tAug, tAugS, tAndV, tOrV, tNotV, tChain, e_dnew, gSub, ipI, tSl, tNoPart, tPart, tMk, ex_bl, ex_int, ex_int2, ex_some, e_eqI4, e_eqS4, e_neI3, e_neS3, e_i0, e_i2, e_addI, e_addS, e_addL4, e_mulI3, e_mulS, e_ix3S, e_ix3D, e_lenS, e_strI, e_intS, e_ival, e_for, e_comp, e_rg1, e_rg2, e_en, e_rg1I, e_rg2I, e_tMt, e_lm, e_lmR, e_app, e_ext, e_bmS, e_bmSS, e_split, e_part, e_sl2S, e_isi3T, e_gTup, e_gxT, e_get3D, e_set3D, gx1, tYes, frv, x4, x5, x6, x7, x8, Function.comp, if_true, x9, if_false]
    have hb : (((kk : Int) + mark) % 36).toNat < 36 := by omega
    have la := rep_ls (mark % 4) (by omega) (by omega)
    have le := rep_ls (mark / 4 % 3) (by omega) (by omega)
    have na : (repS (Str.ofString "q") (mark % 4)).length ≤ 3 := by rw [← ls_len, la, List.length_replicate]; omega
    have ne : (repS (Str.ofString "q") (mark / 4 % 3)).length ≤ 3 := by rw [← ls_len, le, List.length_replicate]; omega
    have l1 : ∀ x : Nat, (⟨#[x]⟩ : Str).length = 1 := fun x => rfl
    have ea : ((kk : Int) + mark) % 36 = (((((kk : Int) + mark) % 36).toNat : Nat) : Int) := by omega
    have ez : (kk : Int) / 36 = ((kk / 36 : Nat) : Int) := by omega
    refine ⟨by decide, by decide +kernel, alphaL.getD (((kk : Int) + mark) % 36).toNat 0, by rw [ea]; exact atI_nat (alpha_at ⟨_, hb⟩), by decide, ⟨by omega, by decide +kernel, by omega⟩, by rw [l1]; exact small_size (by omega), ⟨by decide, by decide⟩, by decide +kernel, 48 + kk / 36, by rw [ez]; exact atI_nat (zo_at ⟨kk / 36, by omega⟩), by rw [len_app, l1, l1]; exact small_size (by omega), ⟨by decide, by decide⟩, by decide, ⟨by omega, by decide +kernel, by omega⟩, by rw [len_app, len_app, l1, l1]; exact small_size (by omega), ?_⟩
    have e : repS (Str.ofString "q") (mark % 4) ++ ⟨#[alphaL.getD (((kk : Int) + mark) % 36).toNat 0]⟩ ++ ⟨#[48 + kk / 36]⟩ ++ repS (Str.ofString "q") (mark / 4 % 3) = ofL (nmL kk mark) := str_ext (by
      rw [ls_ofL, ls_app, ls_app, ls_app, la, le]
      unfold nmL nameL
      show List.replicate _ 113 ++ [_] ++ [_] ++ List.replicate _ 113 = _
      simp)
    rw [e]
    exact q
abbrev s_law_word : Stmt := top 49
theorem sc_law_word : FnSc ["_law_cell", "_law_k", "_law_kind", "_law_words"] ["_law_cell", "_law_k"] ["str", "_law_draw"] (defScope s_law_word) := ⟨⟨rfl, rfl, rfl, by decide +kernel, rfl, by decide +kernel, by decide +kernel⟩, by decide +kernel, by decide +kernel, by decide +kernel⟩
def lt_law_word_0 : List V := [.str "and", .str "or", .str "odd", .str "plus", .str "pick", .str "plus", .str "odd", .str "out", .str "in", .str "pick"]
theorem ok_law_word {f : Addr} {fd : FuncData} (F : Fun K "_law_word" "_law_word" s_law_word f fd) (C_law_draw : Cal P w K mg base 1 "_law_draw" ["_law_cell", "_law_k", "_law_many"] spDraw) (n_str : mg "str" = none) : FnOk P w K mg base CX0 2 f fd ["_law_cell", "_law_k"] spWord := by
  refine F.ok sc_law_word.S (fun vs H Q E h => ?_) (fun cdv A outer s H vs Q E hr h => ?_)
  · obtain ⟨cell, kk, rfl, _⟩ := h
    rfl
  · obtain ⟨cell, kk, rfl, q⟩ := h
    have S := sc_law_word.sx (CX := CX0) (P := P) (w := w) (K := K) (mg := mg) (base := base) (qual := "_law_word") (f := f) (cd := cdv) (A := A) (outer := outer) (s := s) (H := H) (E := E)
    have Sg := fun i {x} h => sc_law_word.gx (CX := CX0) (P := P) (w := w) (K := K) (mg := mg) (base := base) (qual := "_law_word") (f := f) (cd := cdv) (A := A) (outer := outer) (s := s) (H := H) (E := E) i (x := x) h
    have hU := hr.units
    refine ⟨_, (pss_cons (ps_st S 2 (c_call C_law_draw (hr.mono (by decide)) (Sg 1 rfl) (pa_cons (nv S 0) (pa_cons pe_int (pa_cons pe_int pa_nil)))))
      (pss_cons (ps_st S 3 (pe_id (t := tTup (tLits lt_law_word_0)) ?L0))
      (pss_cons (ps_if (pt_of o_lt (nv S 2) pe_int) (pss_one (ps_ret (pe_ix (o_ix3 (K := K) rfl hU) (nv S 3) (nv S 2) (fun _ _ => rfl)))) pss_nil)
      (pss_one (ps_ret (pe_op o_add (pe_ix (o_ix3 (K := K) rfl hU) (pe_tup (pa_cons pe_str (pa_cons pe_str pa_nil))) (pe_op o_sub (nv S 2) pe_int) (fun _ _ => rfl)) (k_str (Sg 0 rfl) n_str (pa_cons (pe_op o_add pe_int (pe_op o_fdiv (c_call C_law_draw (hr.mono (by decide)) (Sg 1 rfl) (pa_cons (nv S 0) (pa_cons pe_int (pa_cons pe_int pa_nil)))) (pe_op o_add pe_int (pe_op o_mul3 pe_int (c_call C_law_draw (hr.mono (by decide)) (Sg 1 rfl) (pa_cons (nv S 0) (pa_cons pe_int (pa_cons pe_int pa_nil)))))))) pa_nil)))))))), ?_⟩
    case L0 =>
      refine pe_litT ?_
      rfl
    show (_ : TS) _ [some (.int cell), some (.int kk), none, none] H
    simp only [tRet, tRetN, tCB, tCons, tNil, tSeq, tIfS, tAsg, gName, tV, x0, x1, x2, x3, tC, tOp, e_tst, e_isB, e_tru, e_truB, e_truI, e_truN, tSp, tDrop, tNext, tNot, tOr, tAnd, tIf, e_tup, e_lst, tCont, tBreak, tAug, tAugS, tAndV, tOrV, tNotV, tChain, e_dnew, gSub, ipI, tSl, tNoPart, tPart, tMk, ex_bl, ex_int, ex_int2, ex_some, e_eqI4, e_eqS4, e_neI3, e_neS3, e_i0, e_i2, e_addI, e_addS, e_addL4, e_mulI3, e_mulS, e_ix3S, e_ix3D, e_lenS, e_strI, e_intS, e_ival, e_for, e_comp, e_rg1, e_rg2, e_en, e_rg1I, e_rg2I, e_tMt, e_lm, e_lmR, e_app, e_ext, e_bmS, e_bmSS, e_split, e_part, e_sl2S, e_isi3T, e_gTup, e_gxT, e_get3D, e_set3D, gx1, tYes, frv, x4, x5, x6, x7, x8, Function.comp, if_true, x9, if_false]
    refine ⟨cell, 12, 0, rfl, by decide, by decide, by decide, fun d H1 d0 d12 s1 => ?_⟩
    simp only [tLits, lt_law_word_0, tRet, tRetN, tCB, tCons, tNil, tSeq, tIfS, tAsg, gName, tV, x0, x1, x2, x3, tC, tOp, e_tst, e_isB, e_tru, e_truB, e_truI, e_truN, tSp, tDrop, tNext, tNot, tOr, tAnd, tIf, e_tup, e_lst, tCont, tBreak, tAug, tAugS, tAndV, tOrV, tNotV, tChain, e_dnew, gSub, ipI, tSl, tNoPart, tPart, tMk, ex_bl, ex_int, ex_int2, ex_some, e_eqI4, e_eqS4, e_neI3, e_neS3, e_i0, e_i2, e_addI, e_addS, e_addL4, e_mulI3, e_mulS, e_ix3S, e_ix3D, e_lenS, e_strI, e_intS, e_ival, e_for, e_comp, e_rg1, e_rg2, e_en, e_rg1I, e_rg2I, e_tMt, e_lm, e_lmR, e_app, e_ext, e_bmS, e_bmSS, e_split, e_part, e_sl2S, e_isi3T, e_gTup, e_gxT, e_get3D, e_set3D, gx1, tYes, frv, x4, x5, x6, x7, x8, Function.comp, if_true, x9, if_false]
    refine ⟨by show 10 ≤ sizeLine; decide, alloc fun p H2 s2 n2 g2 => ?_⟩
    refine ite2 (fun h => ?_) (fun h => ?_)
    · have h := of_decide_eq_true h
      obtain ⟨j, rfl⟩ := Int.eq_ofNat_of_zero_le d0
      have hj : j < 10 := by omega
      obtain ⟨kd, hf, hw⟩ := ten_at hj
      exact ix_T g2 (atI_nat hw) (q kd H2 hf (s1.trans s2))
    · have h := of_decide_eq_false (Bool.eq_false_iff.mpr h)
      refine ⟨by show 2 ≤ sizeLine; decide, alloc fun p3 H3 s3 n3 g3 => ?_⟩
      have hd : d = 10 ∨ d = 11 := by omega
      rcases hd with rfl | rfl
      · refine ix_T g3 (i := (10 : Int) - 10) (atI_nat (j := 0) rfl) ?_
        refine ⟨cell, 63, 1, rfl, by decide, by decide, by decide, fun d1 H4 a1 b1 s4 => ⟨cell, 2, 2, rfl, by decide, by decide, by decide, fun d2 H5 a2 b2 s5 => ?_⟩⟩
        simp only [tRet, tRetN, tCB, tCons, tNil, tSeq, tIfS, tAsg, gName, tV, x0, x1, x2, x3, tC, tOp, e_tst, e_isB, e_tru, e_truB, e_truI, e_truN, tSp, tDrop, tNext, tNot, tOr, tAnd, tIf, e_tup, e_lst, tCont, tBreak, tAug, tAugS, tAndV, tOrV, tNotV, tChain, e_dnew, gSub, ipI, tSl, tNoPart, tPart, tMk, ex_bl, ex_int, ex_int2, ex_some, e_eqI4, e_eqS4, e_neI3, e_neS3, e_i0, e_i2, e_addI, e_addS, e_addL4, e_mulI3, e_mulS, e_ix3S, e_ix3D, e_lenS, e_strI, e_intS, e_ival, e_for, e_comp, e_rg1, e_rg2, e_en, e_rg1I, e_rg2I, e_tMt, e_lm, e_lmR, e_app, e_ext, e_bmS, e_bmSS, e_split, e_part, e_sl2S, e_isi3T, e_gTup, e_gxT, e_get3D, e_set3D, gx1, tYes, frv, x4, x5, x6, x7, x8, Function.comp, if_true, x9, if_false]
        have hd2 : d2 = 0 ∨ d2 = 1 := by omega
        have hn : 1 ≤ 1 + d1 / (1 + 20 * d2) ∧ 1 + d1 / (1 + 20 * d2) ≤ 63 := by rcases hd2 with rfl | rfl <;> omega
        refine ⟨.inl ⟨by decide, by decide⟩, ⟨by omega, by rcases hd2 with rfl | rfl <;> decide⟩, small_log (by omega), small_add (by decide +kernel) (by omega), ?_⟩
        exact q (.up (1 + d1 / (1 + 20 * d2))) H5 hn ((((s1.trans s2).trans s3).trans s4).trans s5)
      · refine ix_T g3 (i := (11 : Int) - 10) (atI_nat (j := 1) rfl) ?_
        refine ⟨cell, 63, 1, rfl, by decide, by decide, by decide, fun d1 H4 a1 b1 s4 => ⟨cell, 2, 2, rfl, by decide, by decide, by decide, fun d2 H5 a2 b2 s5 => ?_⟩⟩
        simp only [tRet, tRetN, tCB, tCons, tNil, tSeq, tIfS, tAsg, gName, tV, x0, x1, x2, x3, tC, tOp, e_tst, e_isB, e_tru, e_truB, e_truI, e_truN, tSp, tDrop, tNext, tNot, tOr, tAnd, tIf, e_tup, e_lst, tCont, tBreak, tAug, tAugS, tAndV, tOrV, tNotV, tChain, e_dnew, gSub, ipI, tSl, tNoPart, tPart, tMk, ex_bl, ex_int, ex_int2, ex_some, e_eqI4, e_eqS4, e_neI3, e_neS3, e_i0, e_i2, e_addI, e_addS, e_addL4, e_mulI3, e_mulS, e_ix3S, e_ix3D, e_lenS, e_strI, e_intS, e_ival, e_for, e_comp, e_rg1, e_rg2, e_en, e_rg1I, e_rg2I, e_tMt, e_lm, e_lmR, e_app, e_ext, e_bmS, e_bmSS, e_split, e_part, e_sl2S, e_isi3T, e_gTup, e_gxT, e_get3D, e_set3D, gx1, tYes, frv, x4, x5, x6, x7, x8, Function.comp, if_true, x9, if_false]
        have hd2 : d2 = 0 ∨ d2 = 1 := by omega
        have hn : 1 ≤ 1 + d1 / (1 + 20 * d2) ∧ 1 + d1 / (1 + 20 * d2) ≤ 63 := by rcases hd2 with rfl | rfl <;> omega
        refine ⟨.inl ⟨by decide, by decide⟩, ⟨by omega, by rcases hd2 with rfl | rfl <;> decide⟩, small_log (by omega), small_add (by decide +kernel) (by omega), ?_⟩
        exact q (.down (1 + d1 / (1 + 20 * d2))) H5 hn ((((s1.trans s2).trans s3).trans s4).trans s5)
end
end K2
end
section
set_option maxRecDepth 100000
set_option maxHeartbeats 4000000
set_option linter.all false
namespace K2
open PySem L2
open TX
seal L2.PE L2.PS L2.PSs L2.PT L2.PA L2.PG L2.PI L2.PW
theorem ite_set {b : Bool} {o i v : V} {R : Hp → Prop} {H5 : Hp} (C : Hp → Prop) (key : ∀ H6, C H6 → R H6) (h5 : C H5) (h1 : (∀ H6, C H6 → R H6) → rSet3 o i v H5 R) : if b = true then rSet3 o i v H5 R else R H5 := by
  split
  · exact h1 key
  · exact key _ h5
def hid (p : Addr) (H : Hp) : Hp := fun b => if b = p then none else H b
theorem hid_upd (p : Addr) (H : Hp) (o : HO) : hid p (upd H p o) = hid p H := by
  funext b
  unfold hid
  by_cases h : b = p
  · rw [if_pos h, if_pos h]
  · rw [if_neg h, if_neg h, upd_ne h]
theorem hid_at {p b : Addr} {H : Hp} {o : HO} (h : H b = some o) (hne : b ≠ p) : hid p H b = some o := by unfold hid; rw [if_neg hne]; exact h
theorem hid_sub (p : Addr) (H : Hp) : Same (hid p H) H := fun b o h => by
  unfold hid at h
  split at h
  · cases h
  · exact h
theorem hid_same {p : Addr} {H H' : Hp} (s : Same H H') : Same (hid p H) (hid p H') := fun b o h => by
  unfold hid at h ⊢
  split at h
  · cases h
  · rename_i hn
    rw [if_neg hn]
    exact s _ _ h
theorem _root_.L2.Tups.hid {p : Addr} {H : Hp} {vs xs : List V} {rows : List (List V)} (t : Tups H vs rows) (h : H p = some (.lst xs)) : Tups (hid p H) vs rows :=
  ⟨t.1, fun i row hr => let ⟨q, e, g⟩ := t.2 i row hr; ⟨q, e, hid_at g fun z => by subst z; rw [h] at g; cases g⟩⟩
def spLWorks (K : PySem.W.Frag) : Sp := fun vs H Q _ => ∃ (a : Addr) (ns : List Int) (most : Int), vs = [.ref a, .int most] ∧ SqL K H a (ns.map V.int) ∧ 1 ≤ most ∧ most ≤ 59 ∧ ∀ p parts H', LOk parts → Same H H' → H p = none → PartsAt H' p parts → Q (.ref p) H'
theorem word_out {kd : Kd} (h : kd.fit) : decide (kd.word = "out") = decide (kd = .snk) := by
  by_cases e : kd = .snk
  · subst e; decide +kernel
  · rw [decide_eq_false e]
    refine decide_eq_false fun z => e ?_
    have h1 := (kd_ok h).2.2
    have h2 := (kd_ok (kd := .snk) trivial).2.2
    rw [z] at h1
    rw [show Kd.word .snk = "out" from rfl, h1] at h2
    exact Option.some.inj h2
theorem word_in {kd : Kd} (h : kd.fit) : decide (kd.word = "in") = decide (kd = .src) := by
  by_cases e : kd = .src
  · subst e; decide +kernel
  · rw [decide_eq_false e]
    refine decide_eq_false fun z => e ?_
    have h1 := (kd_ok h).2.2
    have h2 := (kd_ok (kd := .src) trivial).2.2
    rw [z] at h1
    rw [show Kd.word .src = "in" from rfl, h1] at h2
    exact Option.some.inj h2
def frs (kds : List Kd) (i : Nat) : List Nat := (List.range i).filter fun j => !decide (kds[j]? = some .snk)
theorem frs_succ (kds : List Kd) (i : Nat) : frs kds (i + 1) = frs kds i ++ if kds[i]? = some .snk then [] else [i] := by
  unfold frs
  rw [List.range_succ, List.filter_append]
  congr 1
  by_cases h : kds[i]? = some .snk
  · simp [h]
  · simp [h]
theorem frs_mem {kds : List Kd} {i f : Nat} (h : f ∈ frs kds i) : f < i ∧ kds[f]? ≠ some .snk := by
  unfold frs at h
  rw [List.mem_filter, List.mem_range] at h
  exact ⟨h.1, by simpa using h.2⟩
def eightL : List Int := [0, 1, 2, 3, 5, 1, 7, 40]
theorem eight_at {j : Nat} (h : j < 8) : ∃ t : Int, (0 ≤ t ∧ t ≤ 1000) ∧ ([V.int 0, V.int 1, V.int 2, V.int 3, V.int 5, V.int 1, V.int 7, V.int 40] : List V)[j]? = some (.int t) := by
  have e : ([V.int 0, V.int 1, V.int 2, V.int 3, V.int 5, V.int 1, V.int 7, V.int 40] : List V) = eightL.map V.int := rfl
  have hl : j < eightL.length := h
  have hb : ∀ x ∈ eightL, 0 ≤ x ∧ x ≤ 1000 := by decide
  exact ⟨eightL[j], hb _ (List.getElem_mem hl), by rw [e, List.getElem?_map, List.getElem?_eq_getElem hl]; rfl⟩
def sixL : List Int := [0, 0, 0, 1, 1, 2]
theorem six_at {j : Nat} (h : j < 6) : ∃ t : Int, (0 ≤ t ∧ t ≤ 2) ∧ ([V.int 0, V.int 0, V.int 0, V.int 1, V.int 1, V.int 2] : List V)[j]? = some (.int t) := by
  have e : ([V.int 0, V.int 0, V.int 0, V.int 1, V.int 1, V.int 2] : List V) = sixL.map V.int := rfl
  have hl : j < sixL.length := h
  have hb : ∀ x ∈ sixL, 0 ≤ x ∧ x ≤ 2 := by decide
  exact ⟨sixL[j], hb _ (List.getElem_mem hl), by rw [e, List.getElem?_map, List.getElem?_eq_getElem hl]; rfl⟩
abbrev wV (kd : Kd) : V := .str kd.word
def FdOk (kds : List Kd) (mn k : Nat) (f : Nat × Int) : Prop := f.1 < mn ∧ kds[f.1]? ≠ some .snk ∧ 0 ≤ f.2 ∧ f.2 ≤ 2 ∧ (f.2 = 0 → f.1 < k)
structure POk (kds : List Kd) (mn : Nat) (mark : Int) (k : Nat) (x : LP) : Prop where
  nm : x.p.name = ofL (nmL k mark)
  kd : kds[k]? = some x.p.kd
  tm : 0 ≤ x.p.time ∧ x.p.time ≤ 1000
  te : 0 < x.p.time → x.p.kd.isEnd = false
  ask : (x.pf.length : Int) = x.p.kd.asked
  fd : ∀ f ∈ x.pf, FdOk kds mn k f
theorem lok_of {kds : List Kd} {mn : Nat} {mark : Int} {parts : List LP} (h2 : 2 ≤ mn) (h60 : mn ≤ 60) (hk : kds.length = mn) (hf : ∀ kd ∈ kds, kd.fit) (hl : parts.length = mn) (h : ∀ (k : Nat) x, parts[k]? = some x → POk kds mn mark k x) : LOk parts := by
  have hx : ∀ x ∈ parts, ∃ k, POk kds mn mark k x := fun x hx => by
    obtain ⟨k, hk, e⟩ := List.getElem_of_mem hx
    exact ⟨k, h k x (by rw [List.getElem?_eq_getElem hk, e])⟩
  refine ⟨by omega, by omega, ⟨mark, fun k x hk => (h k x hk).nm⟩, fun x hm => ?_, fun x hm => ?_, fun x hm => ?_, fun x hm => ?_, fun k x hk f hf => ?_⟩
  · obtain ⟨k, o⟩ := hx x hm
    exact hf _ (List.mem_of_getElem? o.kd)
  · obtain ⟨k, o⟩ := hx x hm
    exact o.tm
  · obtain ⟨k, o⟩ := hx x hm
    exact o.te
  · obtain ⟨k, o⟩ := hx x hm
    exact o.ask
  · obtain ⟨a, b, c, d, e⟩ := (h k x hk).fd f hf
    refine ⟨?_, c, d, e⟩
    have hy := List.getElem?_eq_getElem (l := parts) (i := f.1) (by omega)
    refine ⟨_, hy, fun z => b ?_⟩
    rw [(h f.1 _ hy).kd, z]
section
variable {P : Program} {w : World} {K : PySem.W.Frag} {mg : Str → Option Value} {base : Heap} {c : Cs} {cW : Addr}
abbrev s_law_works : Stmt := top 50
theorem sc_law_works : FnSc ["_law_script", "_law_most", "_law_mark", "_law_many", "_law_words", "_law_froms", "_law_parts", "_law_k", "_law_feeds", "_law_j", "_law_cell", "_law_place", "_law_held", "_law_time"] ["_law_script", "_law_most"] ["range", "_law_name", "_law_draw", "_law_cell_at", "_law_asks", "len"] (defScope s_law_works) := ⟨⟨rfl, rfl, rfl, by decide +kernel, rfl, by decide +kernel, by decide +kernel⟩, by decide +kernel, by decide +kernel, by decide +kernel⟩
theorem cs_law_works_0 : CompSc ["_law_k"] ["_law_words"] (scopeOf (kidS (bodyAt (top 50) 4) 0)) (defScope s_law_works) := ⟨rfl, by decide +kernel, by decide +kernel, by decide +kernel, by decide +kernel, by decide +kernel, by decide +kernel⟩
theorem cn_law_works_0 : ∀ x ∈ ((["_law_k"] : List Str) ++ (["_law_words"] : List Str)), (x == ("__debug__" : Str)) = false ∧ (x == ("__classdict__" : Str)) = false := by decide +kernel
theorem cs_law_works_1 : CompSc ["_law_k"] ["_law_script"] (scopeOf (kidE (kidS (bodyAt (top 50) 2) 0) 1)) (defScope s_law_works) := ⟨rfl, by decide +kernel, by decide +kernel, by decide +kernel, by decide +kernel, by decide +kernel, by decide +kernel⟩
theorem cn_law_works_1 : ∀ x ∈ ((["_law_k"] : List Str) ++ (["_law_script"] : List Str)), (x == ("__debug__" : Str)) = false ∧ (x == ("__classdict__" : Str)) = false := by decide +kernel
def lt_law_works_0 : List V := [.int 0, .int 1, .int 2, .int 3, .int 5, .int 1, .int 7, .int 40]
def lt_law_works_1 : List V := [.int 0, .int 0, .int 0, .int 1, .int 1, .int 2]
theorem ok_law_works {f : Addr} {fd : FuncData} (F : Fun K "_law_works" "_law_works" s_law_works f fd) (C_law_cell_at : Cal P w K mg base 1 "_law_cell_at" ["_law_script", "_law_k"] (spCellAt K)) (C_law_draw : Cal P w K mg base 1 "_law_draw" ["_law_cell", "_law_k", "_law_many"] spDraw) (C_law_asks : Cal P w K mg base 1 "_law_asks" ["_law_word_here"] spAsks) (C_law_name : Cal P w K mg base 1 "_law_name" ["_law_k", "_law_mark"] spName) (C_law_word : Cal P w K mg base 2 "_law_word" ["_law_cell", "_law_k"] spWord) (n_range : mg "range" = none) (n_len : mg "len" = none) : FnOk P w K mg base CX0 3 f fd ["_law_script", "_law_most"] (spLWorks K) := by
  refine F.ok sc_law_works.S (fun vs H Q E h => ?_) (fun cdv A outer s H vs Q E hr h => ?_)
  · obtain ⟨a, ns, most, rfl, _⟩ := h
    rfl
  · obtain ⟨a, ns, most, rfl, hS, m1, m59, k⟩ := h
    have S := sc_law_works.sx (CX := CX0) (P := P) (w := w) (K := K) (mg := mg) (base := base) (qual := "_law_works") (f := f) (cd := cdv) (A := A) (outer := outer) (s := s) (H := H) (E := E)
    have Sg := fun i {x} h => sc_law_works.gx (CX := CX0) (P := P) (w := w) (K := K) (mg := mg) (base := base) (qual := "_law_works") (f := f) (cd := cdv) (A := A) (outer := outer) (s := s) (H := H) (E := E) i (x := x) h
    have hU := hr.units
    have S0 : CompSc ["_law_k"] ["_law_words"] (scopeOf (kidS (bodyAt (top 50) 4) 0)) (cxOf CX0 P w K mg base ["_law_script", "_law_most", "_law_mark", "_law_many", "_law_words", "_law_froms", "_law_parts", "_law_k", "_law_feeds", "_law_j", "_law_cell", "_law_place", "_law_held", "_law_time"] "_law_works" (defScope s_law_works) f cdv A outer s H E).nox.env.scope := cs_law_works_0
    have K0 := fun C s₀ H₀ ex => S0.sx (C := C) (s₀ := s₀) (H₀ := H₀) (ex := ex) rfl cn_law_works_0
    have S1 : CompSc ["_law_k"] ["_law_script"] (scopeOf (kidE (kidS (bodyAt (top 50) 2) 0) 1)) (cxOf CX0 P w K mg base ["_law_script", "_law_most", "_law_mark", "_law_many", "_law_words", "_law_froms", "_law_parts", "_law_k", "_law_feeds", "_law_j", "_law_cell", "_law_place", "_law_held", "_law_time"] "_law_works" (defScope s_law_works) f cdv A outer s H E).nox.env.scope := cs_law_works_1
    have K1 := fun C s₀ H₀ ex => S1.sx (C := C) (s₀ := s₀) (H₀ := H₀) (ex := ex) rfl cn_law_works_1
    refine ⟨_, (pss_cons (ps_st S 2 (c_call C_law_cell_at (hr.mono (by decide)) (Sg 3 rfl) (pa_cons (nv S 0) (pa_cons pe_int pa_nil))))
      (pss_cons (ps_st S 3 (pe_op o_add pe_int (pe_op o_mod (c_call C_law_cell_at (hr.mono (by decide)) (Sg 3 rfl) (pa_cons (nv S 0) (pa_cons pe_int pa_nil))) (nv S 1))))
      (pss_cons (ps_st S 4 (pe_op o_add (pe_lst (pa_cons pe_str pa_nil)) (pe_cp S1 (js := [0]) rfl rfl (i_range2 (Sg 0 rfl) n_range (pa_cons pe_int (pa_cons (nv S 3) pa_nil))) (pg1 S1) (fun C s₀ H₀ ex => pts_nil) (fun C s₀ H₀ ex => (c_call C_law_word (hr.mono (by decide)) (comp_gl rfl) (pa_cons (pe_op o_add (c_call C_law_cell_at (hr.mono (by decide)) (comp_gl rfl) (pa_cons (nv (K1 C s₀ H₀ ex) 1) (pa_cons (pe_op o_add pe_int (nv (K1 C s₀ H₀ ex) 0)) pa_nil))) (pe_op o_mul3 pe_int (nv (K1 C s₀ H₀ ex) 0))) (pa_cons (nv (K1 C s₀ H₀ ex) 0) pa_nil)))))))
      (pss_cons (ps_if (pt_of o_gt (pe_op o_mod (nv S 2) pe_int) pe_int) (pss_one (ps_asg pe_str (pg_sub (nv S 4) (pe_op o_sub (nv S 3) pe_int) (o_set3 hU)))) pss_nil)
      (pss_cons (ps_cp S 5 S0 (js := [4]) rfl rfl (i_range1 (Sg 0 rfl) n_range (pa_cons (nv S 3) pa_nil)) (pg1 S0) (fun C s₀ H₀ ex => (pts_one (pt_of (o_ne3 (K := K) rfl hU) (pe_ix (o_ix3 (K := K) rfl hU) (nv (K0 C s₀ H₀ ex) 1) (nv (K0 C s₀ H₀ ex) 0) (fun _ _ => rfl)) pe_str))) (fun C s₀ H₀ ex => (nv (K0 C s₀ H₀ ex) 0)))
      (pss_cons (ps_st S 6 (pe_lst pa_nil))
      (pss_cons (ps_for PassesOwn.never rfl (i_range1 (Sg 0 rfl) n_range (pa_cons (nv S 3) pa_nil)) (pn S 7) (pss_cons (ps_st S 8 (pe_lst pa_nil))
      (pss_cons (ps_for PassesOwn.never rfl (i_range1 (Sg 0 rfl) n_range (pa_cons (c_call C_law_asks (hr.mono (by decide)) (Sg 4 rfl) (pa_cons (pe_ix (o_ix3 (K := K) rfl hU) (nv S 4) (nv S 7) (fun _ _ => rfl)) pa_nil)) pa_nil)) (pn S 9) (pss_cons (ps_st S 10 (pe_op o_add (pe_op o_add (c_call C_law_cell_at (hr.mono (by decide)) (Sg 3 rfl) (pa_cons (nv S 0) (pa_cons (pe_op o_add pe_int (nv S 7)) pa_nil))) (pe_op o_mul3 pe_int (nv S 7))) (pe_op o_mul3 pe_int (nv S 9))))
      (pss_cons (ps_st S 11 (pe_ix (o_ix3 (K := K) rfl hU) (nv S 5) (c_call C_law_draw (hr.mono (by decide)) (Sg 2 rfl) (pa_cons (nv S 10) (pa_cons pe_int (pa_cons (k_len (K := K) rfl (Sg 5 rfl) n_len (pa_cons (nv S 5) pa_nil)) pa_nil)))) (fun _ _ => rfl)))
      (pss_cons (ps_st S 12 (pe_ifExp (pt_of o_lt (nv S 11) (nv S 7)) (pe_ix (o_ix3 (K := K) rfl hU) (pe_id (t := tTup (tLits lt_law_works_1)) ?L1) (c_call C_law_draw (hr.mono (by decide)) (Sg 2 rfl) (pa_cons (nv S 10) (pa_cons pe_int (pa_cons pe_int pa_nil)))) (fun _ _ => rfl)) (pe_op o_add pe_int (pe_op o_fdiv (c_call C_law_draw (hr.mono (by decide)) (Sg 2 rfl) (pa_cons (nv S 10) (pa_cons pe_int (pa_cons pe_int pa_nil)))) pe_int))))
      (pss_one (ps_expr (m_append (K := K) rfl (nv S 8) (pa_cons (pe_tup (pa_cons (nv S 11) (pa_cons (nv S 12) pa_nil))) pa_nil))))))))
      (pss_cons (ps_st S 13 (pe_ix (o_ix3 (K := K) rfl hU) (pe_id (t := tTup (tLits lt_law_works_0)) ?L0) (c_call C_law_draw (hr.mono (by decide)) (Sg 2 rfl) (pa_cons (pe_op o_add (c_call C_law_cell_at (hr.mono (by decide)) (Sg 3 rfl) (pa_cons (nv S 0) (pa_cons (pe_op o_add pe_int (nv S 7)) pa_nil))) (pe_op o_mul3 pe_int (nv S 7))) (pa_cons pe_int (pa_cons pe_int pa_nil)))) (fun _ _ => rfl)))
      (pss_cons (ps_if (PW.pt (pw_or (pt_of (o_eq4 (K := K) rfl hU) (pe_ix (o_ix3 (K := K) rfl hU) (nv S 4) (nv S 7) (fun _ _ => rfl)) pe_str) (pw_or1 (pt_of (o_eq4 (K := K) rfl hU) (pe_ix (o_ix3 (K := K) rfl hU) (nv S 4) (nv S 7) (fun _ _ => rfl)) pe_str)))) (pss_one (ps_st S 13 pe_int)) pss_nil)
      (pss_one (ps_expr (m_append (K := K) rfl (nv S 6) (pa_cons (pe_tup (pa_cons (c_call C_law_name (hr.mono (by decide)) (Sg 1 rfl) (pa_cons (nv S 7) (pa_cons (nv S 2) pa_nil))) (pa_cons (pe_ix (o_ix3 (K := K) rfl hU) (nv S 4) (nv S 7) (fun _ _ => rfl)) (pa_cons (nv S 13) (pa_cons (nv S 8) pa_nil))))) pa_nil)))))))))
      (pss_one (ps_ret (nv S 6)))))))))), ?_⟩
    case L0 =>
      refine pe_litT ?_
      rfl
    case L1 =>
      refine pe_litT ?_
      rfl
    show (_ : TS) _ [some (.ref a), some (.int most), none, none, none, none, none, none, none, none, none, none, none, none] H
    simp only [tRet, tRetN, tCB, tCons, tNil, tSeq, tIfS, tAsg, gName, tV, x0, x1, x2, x3, tC, tOp, e_tst, e_isB, e_tru, e_truB, e_truI, e_truN, tSp, tDrop, tNext, tNot, tOr, tAnd, tIf, e_tup, e_lst, tCont, tBreak, tAug, tAugS, tAndV, tOrV, tNotV, tChain, e_dnew, gSub, ipI, tSl, tNoPart, tPart, tMk, ex_bl, ex_int, ex_int2, ex_some, e_eqI4, e_eqS4, e_neI3, e_neS3, e_i0, e_i2, e_addI, e_addS, e_addL4, e_mulI3, e_mulS, e_ix3S, e_ix3D, e_lenS, e_strI, e_intS, e_ival, e_for, e_comp, e_rg1, e_rg2, e_en, e_rg1I, e_rg2I, e_tMt, e_lm, e_lmR, e_app, e_ext, e_bmS, e_bmSS, e_split, e_part, e_sl2S, e_isi3T, e_gTup, e_gxT, e_get3D, e_set3D, gx1, tYes, frv, x4, x5, x6, x7, x8, Function.comp, if_true, x9, if_false]
    refine ⟨a, ns, 1, rfl, hS, by decide, fun mark => ⟨a, ns, 0, rfl, hS, by decide, fun c0 => ?_⟩⟩
    simp only [tRet, tRetN, tCB, tCons, tNil, tSeq, tIfS, tAsg, gName, tV, x0, x1, x2, x3, tC, tOp, e_tst, e_isB, e_tru, e_truB, e_truI, e_truN, tSp, tDrop, tNext, tNot, tOr, tAnd, tIf, e_tup, e_lst, tCont, tBreak, tAug, tAugS, tAndV, tOrV, tNotV, tChain, e_dnew, gSub, ipI, tSl, tNoPart, tPart, tMk, ex_bl, ex_int, ex_int2, ex_some, e_eqI4, e_eqS4, e_neI3, e_neS3, e_i0, e_i2, e_addI, e_addS, e_addL4, e_mulI3, e_mulS, e_ix3S, e_ix3D, e_lenS, e_strI, e_intS, e_ival, e_for, e_comp, e_rg1, e_rg2, e_en, e_rg1I, e_rg2I, e_tMt, e_lm, e_lmR, e_app, e_ext, e_bmS, e_bmSS, e_split, e_part, e_sl2S, e_isi3T, e_gTup, e_gxT, e_get3D, e_set3D, gx1, tYes, frv, x4, x5, x6, x7, x8, Function.comp, if_true, x9, if_false]
    refine ⟨by omega, by show 1 ≤ sizeLine; decide, alloc fun p1 H1 s1 n1 g1 => ?_⟩
    have b0 := Int.emod_nonneg c0 (show most ≠ 0 by omega)
    have b1 := Int.emod_lt_of_pos c0 (show 0 < most by omega)
    obtain ⟨mn, hmn⟩ := Int.eq_ofNat_of_zero_le (show 0 ≤ 2 + c0 % most by omega)
    rw [hmn]
    have h2 : 2 ≤ mn := by omega
    have h60 : mn ≤ 60 := by omega
    refine ⟨by omega, ?_⟩
    refine comp_R (n := ((mn : Int) - 1).toNat) (fun i ys H' => Same H1 H' ∧ ∃ kds : List Kd, kds.length = i ∧ (∀ kd ∈ kds, kd.fit) ∧ ys = kds.map wV) ⟨Same.rfl', [], rfl, (fun kd h => by simp at h), rfl⟩ (small_size (by omega)) (fun i ys H' hi h => ?_) (fun i ys H2 hi h => ?_) (fun ys H2 h => ?_)
    · obtain ⟨_, kds, e, _, rfl⟩ := h
      rw [List.length_map, e]
      exact Nat.le_refl _
    · obtain ⟨s2, kds, e, hf, rfl⟩ := h
      simp only [tRet, tRetN, tCB, tCons, tNil, tSeq, tIfS, tAsg, gName, tV, x0, x1, x2, x3, tC, tOp, e_tst, e_isB, e_tru, e_truB, e_truI, e_truN, tSp, tDrop, tNext, tNot, tOr, tAnd, tIf, e_tup, e_lst, tCont, tBreak, tAug, tAugS, tAndV, tOrV, tNotV, tChain, e_dnew, gSub, ipI, tSl, tNoPart, tPart, tMk, ex_bl, ex_int, ex_int2, ex_some, e_eqI4, e_eqS4, e_neI3, e_neS3, e_i0, e_i2, e_addI, e_addS, e_addL4, e_mulI3, e_mulS, e_ix3S, e_ix3D, e_lenS, e_strI, e_intS, e_ival, e_for, e_comp, e_rg1, e_rg2, e_en, e_rg1I, e_rg2I, e_tMt, e_lm, e_lmR, e_app, e_ext, e_bmS, e_bmSS, e_split, e_part, e_sl2S, e_isi3T, e_gTup, e_gxT, e_get3D, e_set3D, gx1, tYes, frv, x4, x5, x6, x7, x8, Function.comp, if_true, x9, if_false]
      refine ⟨a, ns, _, rfl, (s1.trans s2).seq hS, by omega, fun v => ?_⟩
      simp only [tRet, tRetN, tCB, tCons, tNil, tSeq, tIfS, tAsg, gName, tV, x0, x1, x2, x3, tC, tOp, e_tst, e_isB, e_tru, e_truB, e_truI, e_truN, tSp, tDrop, tNext, tNot, tOr, tAnd, tIf, e_tup, e_lst, tCont, tBreak, tAug, tAugS, tAndV, tOrV, tNotV, tChain, e_dnew, gSub, ipI, tSl, tNoPart, tPart, tMk, ex_bl, ex_int, ex_int2, ex_some, e_eqI4, e_eqS4, e_neI3, e_neS3, e_i0, e_i2, e_addI, e_addS, e_addL4, e_mulI3, e_mulS, e_ix3S, e_ix3D, e_lenS, e_strI, e_intS, e_ival, e_for, e_comp, e_rg1, e_rg2, e_en, e_rg1I, e_rg2I, e_tMt, e_lm, e_lmR, e_app, e_ext, e_bmS, e_bmSS, e_split, e_part, e_sl2S, e_isi3T, e_gTup, e_gxT, e_get3D, e_set3D, gx1, tYes, frv, x4, x5, x6, x7, x8, Function.comp, if_true, x9, if_false]
      refine ⟨.inl ⟨by decide, by decide⟩, _, _, rfl, fun kd H3 hk s3 => ⟨s2.trans s3, kds ++ [kd], by rw [List.length_append, e]; rfl, fun x hx => ?_, by rw [List.map_append]; rfl⟩⟩
      rcases List.mem_append.mp hx with hx | hx
      · exact hf x hx
      · rw [List.mem_singleton.mp hx]; exact hk
    obtain ⟨s2, kds0, e0, hf0, rfl⟩ := h
    refine alloc fun p2 H3 s3 n3 g3 => ?_
    simp only [tRet, tRetN, tCB, tCons, tNil, tSeq, tIfS, tAsg, gName, tV, x0, x1, x2, x3, tC, tOp, e_tst, e_isB, e_tru, e_truB, e_truI, e_truN, tSp, tDrop, tNext, tNot, tOr, tAnd, tIf, e_tup, e_lst, tCont, tBreak, tAug, tAugS, tAndV, tOrV, tNotV, tChain, e_dnew, gSub, ipI, tSl, tNoPart, tPart, tMk, ex_bl, ex_int, ex_int2, ex_some, e_eqI4, e_eqS4, e_neI3, e_neS3, e_i0, e_i2, e_addI, e_addS, e_addL4, e_mulI3, e_mulS, e_ix3S, e_ix3D, e_lenS, e_strI, e_intS, e_ival, e_for, e_comp, e_rg1, e_rg2, e_en, e_rg1I, e_rg2I, e_tMt, e_lm, e_lmR, e_app, e_ext, e_bmS, e_bmSS, e_split, e_part, e_sl2S, e_isi3T, e_gTup, e_gxT, e_get3D, e_set3D, gx1, tYes, frv, x4, x5, x6, x7, x8, Function.comp, if_true, x9, if_false]
    refine ⟨_, _, (s2.trans s3) _ _ g1, g3, small_size (by rw [List.length_map]; simp; omega), alloc fun pw H5 s5 n5 g5 => ?_⟩
    have s05 : Same H H5 := ((s1.trans s2).trans s3).trans s5
    have npw : H pw = none := ((s1.trans s2).trans s3).free n5
    refine ⟨by decide, ?_⟩
    refine ite_set (fun H6 => Same H H6 ∧ ∃ kds : List Kd, kds.length = mn ∧ kds[0]? = some .src ∧ (∀ kd ∈ kds, kd.fit) ∧ H6 pw = some (.lst (kds.map wV))) (fun H6 h => ?_) ⟨s05, .src :: kds0, by rw [List.length_cons, e0]; omega, rfl, fun kd hk => ?_, g5⟩ (fun key => ?_)
    rotate_left
    · rcases List.mem_cons.mp hk with rfl | hk
      · exact trivial
      · exact hf0 kd hk
    · rw [e_set3I]
      refine .inl ⟨_, mn - 1, g5, ?_, key _ ⟨s05.upd_free npw, (Kd.src :: kds0).set (mn - 1) .snk, ?_, ?_, ?_, ?_⟩⟩
      · unfold ixN
        rw [if_pos (by omega), if_pos (by simp; omega)]
        congr 1
        omega
      · rw [List.length_set, List.length_cons, e0]
        omega
      · rw [List.getElem?_set_ne (by omega)]
        rfl
      · intro kd hk
        rcases List.mem_or_eq_of_mem_set hk with g | g
        · rcases List.mem_cons.mp g with rfl | g
          · exact trivial
          · exact hf0 kd g
        · rw [g]; exact trivial
      · rw [List.map_set]
        exact upd_same
    obtain ⟨s6, kds, hkl, hk0, hkf, g6⟩ := h
    have wd : ∀ (i : Nat), i < mn → ∃ kd, kds[i]? = some kd ∧ kd.fit ∧ (kds.map wV)[i]? = some (.str kd.word) := fun i hi => by
      have h := List.getElem?_eq_getElem (l := kds) (i := i) (by omega)
      exact ⟨_, h, hkf _ (List.mem_of_getElem? h), by rw [List.getElem?_map, h]; rfl⟩
    refine ⟨by omega, ?_⟩
    rw [Int.toNat_natCast]
    refine comp_R (n := mn) (fun i ys H' => H' = H6 ∧ ys = (frs kds i).map fun j => V.int (j : Nat)) ⟨rfl, rfl⟩ (small_size (by omega)) (fun i ys H' hi h => ?_) (fun i ys H7 hi h => ?_) (fun ys H7 h => ?_)
    · rw [h.2, List.length_map]
      unfold frs
      exact Nat.le_trans (List.length_filter_le _ _) (by rw [List.length_range]; exact Nat.le_refl _)
    · obtain ⟨rfl, rfl⟩ := h
      obtain ⟨kd, hkd, hfit, hw⟩ := wd i hi
      simp only [Int.zero_add, tRet, tRetN, tCB, tCons, tNil, tSeq, tIfS, tAsg, gName, tV, x0, x1, x2, x3, tC, tOp, e_tst, e_isB, e_tru, e_truB, e_truI, e_truN, tSp, tDrop, tNext, tNot, tOr, tAnd, tIf, e_tup, e_lst, tCont, tBreak, tAug, tAugS, tAndV, tOrV, tNotV, tChain, e_dnew, gSub, ipI, tSl, tNoPart, tPart, tMk, ex_bl, ex_int, ex_int2, ex_some, e_eqI4, e_eqS4, e_neI3, e_neS3, e_i0, e_i2, e_addI, e_addS, e_addL4, e_mulI3, e_mulS, e_ix3S, e_ix3D, e_lenS, e_strI, e_intS, e_ival, e_for, e_comp, e_rg1, e_rg2, e_en, e_rg1I, e_rg2I, e_tMt, e_lm, e_lmR, e_app, e_ext, e_bmS, e_bmSS, e_split, e_part, e_sl2S, e_isi3T, e_gTup, e_gxT, e_get3D, e_set3D, gx1, tYes, frv, x4, x5, x6, x7, x8, Function.comp, if_true, x9, if_false]
      refine ix_L g6 (atI_nat hw) ?_
      simp only [tRet, tRetN, tCB, tCons, tNil, tSeq, tIfS, tAsg, gName, tV, x0, x1, x2, x3, tC, tOp, e_tst, e_isB, e_tru, e_truB, e_truI, e_truN, tSp, tDrop, tNext, tNot, tOr, tAnd, tIf, e_tup, e_lst, tCont, tBreak, tAug, tAugS, tAndV, tOrV, tNotV, tChain, e_dnew, gSub, ipI, tSl, tNoPart, tPart, tMk, ex_bl, ex_int, ex_int2, ex_some, e_eqI4, e_eqS4, e_neI3, e_neS3, e_i0, e_i2, e_addI, e_addS, e_addL4, e_mulI3, e_mulS, e_ix3S, e_ix3D, e_lenS, e_strI, e_intS, e_ival, e_for, e_comp, e_rg1, e_rg2, e_en, e_rg1I, e_rg2I, e_tMt, e_lm, e_lmR, e_app, e_ext, e_bmS, e_bmSS, e_split, e_part, e_sl2S, e_isi3T, e_gTup, e_gxT, e_get3D, e_set3D, gx1, tYes, frv, x4, x5, x6, x7, x8, Function.comp, if_true, x9, if_false]
      rw [word_out hfit, frs_succ, hkd]
      by_cases e : kd = .snk
      · rw [decide_eq_true e, if_neg (by decide), if_pos (by rw [e]), List.append_nil]
        exact ⟨trivial, rfl⟩
      · rw [decide_eq_false e, if_pos (by decide), if_neg (fun z => e (Option.some.inj z)), List.map_append]
        exact ⟨trivial, rfl⟩
    obtain ⟨rfl, rfl⟩ := h
    have f0 : 0 ∈ frs kds mn := by
      unfold frs
      rw [List.mem_filter, List.mem_range]
      exact ⟨by omega, by rw [hk0]; decide⟩
    have fln : (frs kds mn).length ≤ mn := by
      unfold frs
      exact Nat.le_trans (List.length_filter_le _ _) (by rw [List.length_range]; exact Nat.le_refl _)
    have fpos : 0 < (frs kds mn).length := List.length_pos_of_mem f0
    have fmem : ∀ f ∈ frs kds mn, f < mn ∧ kds[f]? ≠ some .snk := fun f hf => frs_mem hf
    generalize frs kds mn = fs at fln fpos fmem
    refine alloc fun pf H8 s8 n8 g8 => ⟨by show 0 ≤ sizeLine; decide, alloc fun pp H9 s9 n9 g9 => ⟨by omega, ?_⟩⟩
    refine for_R (fun i σ H' => ∃ pv parts, Same H8 H' ∧ H' pp = some (.lst pv) ∧ pv.length = i ∧ parts.length = i ∧ (∀ (j : Nat) x, parts[j]? = some x → POk kds mn mark j x ∧ ∃ v, pv[j]? = some v ∧ PartAt (hid pp H') v x) ∧ ∃ o7 o8 o9 o10 o11 o12 o13, σ = [some (.ref a), some (.int most), some (.int mark), some (.int (mn : Nat)), some (.ref pw), some (.ref pf), some (.ref pp), o7, o8, o9, o10, o11, o12, o13]) ⟨[], [], s9, g9, rfl, rfl, (fun j x h => by simp at h), _, _, _, _, _, _, _, rfl⟩ (fun i σ HA hi h => ?_) (fun σ HA h => ?_)
    · obtain ⟨pv, parts, sA, gA, e1, e2, hp, o7, o8, o9, o10, o11, o12, o13, rfl⟩ := h
      obtain ⟨kd, hkd, hfit, hw⟩ := wd i hi
      simp only [Int.zero_add, tRet, tRetN, tCB, tCons, tNil, tSeq, tIfS, tAsg, gName, tV, x0, x1, x2, x3, tC, tOp, e_tst, e_isB, e_tru, e_truB, e_truI, e_truN, tSp, tDrop, tNext, tNot, tOr, tAnd, tIf, e_tup, e_lst, tCont, tBreak, tAug, tAugS, tAndV, tOrV, tNotV, tChain, e_dnew, gSub, ipI, tSl, tNoPart, tPart, tMk, ex_bl, ex_int, ex_int2, ex_some, e_eqI4, e_eqS4, e_neI3, e_neS3, e_i0, e_i2, e_addI, e_addS, e_addL4, e_mulI3, e_mulS, e_ix3S, e_ix3D, e_lenS, e_strI, e_intS, e_ival, e_for, e_comp, e_rg1, e_rg2, e_en, e_rg1I, e_rg2I, e_tMt, e_lm, e_lmR, e_app, e_ext, e_bmS, e_bmSS, e_split, e_part, e_sl2S, e_isi3T, e_gTup, e_gxT, e_get3D, e_set3D, gx1, tYes, frv, x4, x5, x6, x7, x8, Function.comp, if_true, x9, if_false]
      refine ⟨by show 0 ≤ sizeLine; decide, alloc fun pd HB sB nB gB => ?_⟩
      have gwB := (s8.trans (sA.trans sB)) _ _ g6
      have gfB := (sA.trans sB) _ _ g8
      have npd : pd ≠ pp := (ne_at gA nB).symm
      refine ix_L gwB (atI_nat hw) ?_
      refine ⟨kd, rfl, hfit, ?_⟩
      have a3 : 0 ≤ kd.asked ∧ kd.asked ≤ 3 := by cases kd <;> simp [Kd.asked]
      simp only [tRet, tRetN, tCB, tCons, tNil, tSeq, tIfS, tAsg, gName, tV, x0, x1, x2, x3, tC, tOp, e_tst, e_isB, e_tru, e_truB, e_truI, e_truN, tSp, tDrop, tNext, tNot, tOr, tAnd, tIf, e_tup, e_lst, tCont, tBreak, tAug, tAugS, tAndV, tOrV, tNotV, tChain, e_dnew, gSub, ipI, tSl, tNoPart, tPart, tMk, ex_bl, ex_int, ex_int2, ex_some, e_eqI4, e_eqS4, e_neI3, e_neS3, e_i0, e_i2, e_addI, e_addS, e_addL4, e_mulI3, e_mulS, e_ix3S, e_ix3D, e_lenS, e_strI, e_intS, e_ival, e_for, e_comp, e_rg1, e_rg2, e_en, e_rg1I, e_rg2I, e_tMt, e_lm, e_lmR, e_app, e_ext, e_bmS, e_bmSS, e_split, e_part, e_sl2S, e_isi3T, e_gTup, e_gxT, e_get3D, e_set3D, gx1, tYes, frv, x4, x5, x6, x7, x8, Function.comp, if_true, x9, if_false]
      refine ⟨by omega, ?_⟩
      refine for_R (fun j σ H' => ∃ fv feeds, Same HA H' ∧ H' pd = some (.lst fv) ∧ Tups H' fv (feeds.map frow) ∧ feeds.length = j ∧ (∀ f ∈ feeds, FdOk kds mn i f) ∧ ∃ o9 o10 o11 o12 o13, σ = [some (.ref a), some (.int most), some (.int mark), some (.int (mn : Nat)), some (.ref pw), some (.ref pf), some (.ref pp), some (.int (i : Nat)), some (.ref pd), o9, o10, o11, o12, o13]) ⟨[], [], sB, gB, Tups.nil, rfl, (fun f h => by simp at h), _, _, _, _, _, rfl⟩ (fun j σ HC hj h => ?_) (fun σ HF h => ?_)
      · obtain ⟨fv, feeds, sC', dC, tyC, hfl, hfd, o9, o10, o11, o12, o13, rfl⟩ := h
        have fvl : fv.length = j := by rw [tyC.1, List.length_map, hfl]
        simp only [tRet, tRetN, tCB, tCons, tNil, tSeq, tIfS, tAsg, gName, tV, x0, x1, x2, x3, tC, tOp, e_tst, e_isB, e_tru, e_truB, e_truI, e_truN, tSp, tDrop, tNext, tNot, tOr, tAnd, tIf, e_tup, e_lst, tCont, tBreak, tAug, tAugS, tAndV, tOrV, tNotV, tChain, e_dnew, gSub, ipI, tSl, tNoPart, tPart, tMk, ex_bl, ex_int, ex_int2, ex_some, e_eqI4, e_eqS4, e_neI3, e_neS3, e_i0, e_i2, e_addI, e_addS, e_addL4, e_mulI3, e_mulS, e_ix3S, e_ix3D, e_lenS, e_strI, e_intS, e_ival, e_for, e_comp, e_rg1, e_rg2, e_en, e_rg1I, e_rg2I, e_tMt, e_lm, e_lmR, e_app, e_ext, e_bmS, e_bmSS, e_split, e_part, e_sl2S, e_isi3T, e_gTup, e_gxT, e_get3D, e_set3D, gx1, tYes, frv, x4, x5, x6, x7, x8, Function.comp, if_true, x9, if_false]
        refine ⟨a, ns, _, rfl, (s6.trans (s8.trans (sA.trans sC'))).seq hS, by omega, fun v => ?_⟩
        simp only [tRet, tRetN, tCB, tCons, tNil, tSeq, tIfS, tAsg, gName, tV, x0, x1, x2, x3, tC, tOp, e_tst, e_isB, e_tru, e_truB, e_truI, e_truN, tSp, tDrop, tNext, tNot, tOr, tAnd, tIf, e_tup, e_lst, tCont, tBreak, tAug, tAugS, tAndV, tOrV, tNotV, tChain, e_dnew, gSub, ipI, tSl, tNoPart, tPart, tMk, ex_bl, ex_int, ex_int2, ex_some, e_eqI4, e_eqS4, e_neI3, e_neS3, e_i0, e_i2, e_addI, e_addS, e_addL4, e_mulI3, e_mulS, e_ix3S, e_ix3D, e_lenS, e_strI, e_intS, e_ival, e_for, e_comp, e_rg1, e_rg2, e_en, e_rg1I, e_rg2I, e_tMt, e_lm, e_lmR, e_app, e_ext, e_bmS, e_bmSS, e_split, e_part, e_sl2S, e_isi3T, e_gTup, e_gxT, e_get3D, e_set3D, gx1, tYes, frv, x4, x5, x6, x7, x8, Function.comp, if_true, x9, if_false]
        refine ⟨.inl ⟨by decide, by decide⟩, .inl ⟨by decide, by decide⟩, ?_⟩
        have gfC := (sA.trans sC') _ _ g8
        refine len_L gfC ?_
        refine ⟨_, _, 3, rfl, by decide, by rw [List.length_map]; omega, by rw [List.length_map]; omega, fun d HD d0 d1 sD => ?_⟩
        obtain ⟨dn, rfl⟩ := Int.eq_ofNat_of_zero_le d0
        rw [List.length_map] at d1
        have hdn : dn < fs.length := by omega
        have hfm := fmem _ (List.getElem_mem hdn)
        refine ix_L (sD _ _ gfC) (atI_nat (by rw [List.getElem?_map, List.getElem?_eq_getElem hdn]; rfl)) ?_
        generalize fs[dn] = f at hfm
        simp only [tRet, tRetN, tCB, tCons, tNil, tSeq, tIfS, tAsg, gName, tV, x0, x1, x2, x3, tC, tOp, e_tst, e_isB, e_tru, e_truB, e_truI, e_truN, tSp, tDrop, tNext, tNot, tOr, tAnd, tIf, e_tup, e_lst, tCont, tBreak, tAug, tAugS, tAndV, tOrV, tNotV, tChain, e_dnew, gSub, ipI, tSl, tNoPart, tPart, tMk, ex_bl, ex_int, ex_int2, ex_some, e_eqI4, e_eqS4, e_neI3, e_neS3, e_i0, e_i2, e_addI, e_addS, e_addL4, e_mulI3, e_mulS, e_ix3S, e_ix3D, e_lenS, e_strI, e_intS, e_ival, e_for, e_comp, e_rg1, e_rg2, e_en, e_rg1I, e_rg2I, e_tMt, e_lm, e_lmR, e_app, e_ext, e_bmS, e_bmSS, e_split, e_part, e_sl2S, e_isi3T, e_gTup, e_gxT, e_get3D, e_set3D, gx1, tYes, frv, x4, x5, x6, x7, x8, Function.comp, if_true, x9, if_false]
        by_cases hlt : f < i
        · rw [decide_eq_true (by omega), if_pos rfl]
          simp only [tLits, lt_law_works_1, tRet, tRetN, tCB, tCons, tNil, tSeq, tIfS, tAsg, gName, tV, x0, x1, x2, x3, tC, tOp, e_tst, e_isB, e_tru, e_truB, e_truI, e_truN, tSp, tDrop, tNext, tNot, tOr, tAnd, tIf, e_tup, e_lst, tCont, tBreak, tAug, tAugS, tAndV, tOrV, tNotV, tChain, e_dnew, gSub, ipI, tSl, tNoPart, tPart, tMk, ex_bl, ex_int, ex_int2, ex_some, e_eqI4, e_eqS4, e_neI3, e_neS3, e_i0, e_i2, e_addI, e_addS, e_addL4, e_mulI3, e_mulS, e_ix3S, e_ix3D, e_lenS, e_strI, e_intS, e_ival, e_for, e_comp, e_rg1, e_rg2, e_en, e_rg1I, e_rg2I, e_tMt, e_lm, e_lmR, e_app, e_ext, e_bmS, e_bmSS, e_split, e_part, e_sl2S, e_isi3T, e_gTup, e_gxT, e_get3D, e_set3D, gx1, tYes, frv, x4, x5, x6, x7, x8, Function.comp, if_true, x9, if_false]
          refine ⟨by show 6 ≤ sizeLine; decide, alloc fun pt HE0 sE0 nE0 gE0 => ?_⟩
          refine ⟨_, 6, 4, rfl, by decide, by decide, by decide, fun d4 HE1 a4 b4 sE1 => ?_⟩
          obtain ⟨d4n, rfl⟩ := Int.eq_ofNat_of_zero_le a4
          obtain ⟨h, hh, hsix⟩ := six_at (j := d4n) (by omega)
          refine ix_T (sE1 _ _ gE0) (atI_nat hsix) ?_
          have s1D : Same HC HE1 := (sD.trans sE0).trans sE1
          refine ⟨⟨_, SqL.of (s1D _ _ dC)⟩, by show 2 ≤ sizeLine; decide, alloc fun pt2 HE sE nE gE => ⟨_, sE _ _ (s1D _ _ dC), small_lt (by omega), ?_⟩⟩
          refine ⟨fv ++ [.ref pt2], feeds ++ [(f, h)], ((sC'.trans s1D).trans sE).upd_free nB, upd_same, ?_, by rw [List.length_append, hfl]; rfl, fun g hg => ?_, _, _, _, _, _, rfl⟩
          · rw [List.map_append]
            exact ((tyC.fix ((s1D.trans sE).fix)).snoc gE).fix (Fix.upd (sE _ _ (s1D _ _ dC)) rfl)
          · rcases List.mem_append.mp hg with hg | hg
            · exact hfd g hg
            · rw [List.mem_singleton.mp hg]
              exact ⟨hfm.1, hfm.2, hh.1, hh.2, fun _ => hlt⟩
        · rw [decide_eq_false (by omega), if_neg (by decide)]
          refine ⟨_, 3, 5, rfl, by decide, by decide, by decide, fun d5 HE1 a5 b5 sE1 => ?_⟩
          simp only [tRet, tRetN, tCB, tCons, tNil, tSeq, tIfS, tAsg, gName, tV, x0, x1, x2, x3, tC, tOp, e_tst, e_isB, e_tru, e_truB, e_truI, e_truN, tSp, tDrop, tNext, tNot, tOr, tAnd, tIf, e_tup, e_lst, tCont, tBreak, tAug, tAugS, tAndV, tOrV, tNotV, tChain, e_dnew, gSub, ipI, tSl, tNoPart, tPart, tMk, ex_bl, ex_int, ex_int2, ex_some, e_eqI4, e_eqS4, e_neI3, e_neS3, e_i0, e_i2, e_addI, e_addS, e_addL4, e_mulI3, e_mulS, e_ix3S, e_ix3D, e_lenS, e_strI, e_intS, e_ival, e_for, e_comp, e_rg1, e_rg2, e_en, e_rg1I, e_rg2I, e_tMt, e_lm, e_lmR, e_app, e_ext, e_bmS, e_bmSS, e_split, e_part, e_sl2S, e_isi3T, e_gTup, e_gxT, e_get3D, e_set3D, gx1, tYes, frv, x4, x5, x6, x7, x8, Function.comp, if_true, x9, if_false]
          refine ⟨⟨by decide, by decide⟩, ?_⟩
          have s5D : Same HC HE1 := sD.trans sE1
          refine ⟨⟨_, SqL.of (s5D _ _ dC)⟩, by show 2 ≤ sizeLine; decide, alloc fun pt2 HE sE nE gE => ⟨_, sE _ _ (s5D _ _ dC), small_lt (by omega), ?_⟩⟩
          refine ⟨fv ++ [.ref pt2], feeds ++ [(f, (1 + d5 / 2))], ((sC'.trans s5D).trans sE).upd_free nB, upd_same, ?_, by rw [List.length_append, hfl]; rfl, fun g hg => ?_, _, _, _, _, _, rfl⟩
          · rw [List.map_append]
            exact ((tyC.fix ((s5D.trans sE).fix)).snoc gE).fix (Fix.upd (sE _ _ (s5D _ _ dC)) rfl)
          · rcases List.mem_append.mp hg with hg | hg
            · exact hfd g hg
            · rw [List.mem_singleton.mp hg]
              exact ⟨hfm.1, hfm.2, by omega, by omega, fun z => by omega⟩
      · obtain ⟨fv, feeds, sAF, gdF, tF, hfl, hfd, o9, o10, o11, o12, o13, rfl⟩ := h
        have gpF := sAF _ _ gA
        have gwF := (s8.trans (sA.trans sAF)) _ _ g6
        simp only [tLits, lt_law_works_0, tRet, tRetN, tCB, tCons, tNil, tSeq, tIfS, tAsg, gName, tV, x0, x1, x2, x3, tC, tOp, e_tst, e_isB, e_tru, e_truB, e_truI, e_truN, tSp, tDrop, tNext, tNot, tOr, tAnd, tIf, e_tup, e_lst, tCont, tBreak, tAug, tAugS, tAndV, tOrV, tNotV, tChain, e_dnew, gSub, ipI, tSl, tNoPart, tPart, tMk, ex_bl, ex_int, ex_int2, ex_some, e_eqI4, e_eqS4, e_neI3, e_neS3, e_i0, e_i2, e_addI, e_addS, e_addL4, e_mulI3, e_mulS, e_ix3S, e_ix3D, e_lenS, e_strI, e_intS, e_ival, e_for, e_comp, e_rg1, e_rg2, e_en, e_rg1I, e_rg2I, e_tMt, e_lm, e_lmR, e_app, e_ext, e_bmS, e_bmSS, e_split, e_part, e_sl2S, e_isi3T, e_gTup, e_gxT, e_get3D, e_set3D, gx1, tYes, frv, x4, x5, x6, x7, x8, Function.comp, if_true, x9, if_false]
        refine ⟨by show 8 ≤ sizeLine; decide, alloc fun pt HF1 sF1 nF1 gF1 => ?_⟩
        refine ⟨a, ns, _, rfl, (s6.trans (s8.trans (sA.trans (sAF.trans sF1)))).seq hS, by omega, fun v => ?_⟩
        simp only [tRet, tRetN, tCB, tCons, tNil, tSeq, tIfS, tAsg, gName, tV, x0, x1, x2, x3, tC, tOp, e_tst, e_isB, e_tru, e_truB, e_truI, e_truN, tSp, tDrop, tNext, tNot, tOr, tAnd, tIf, e_tup, e_lst, tCont, tBreak, tAug, tAugS, tAndV, tOrV, tNotV, tChain, e_dnew, gSub, ipI, tSl, tNoPart, tPart, tMk, ex_bl, ex_int, ex_int2, ex_some, e_eqI4, e_eqS4, e_neI3, e_neS3, e_i0, e_i2, e_addI, e_addS, e_addL4, e_mulI3, e_mulS, e_ix3S, e_ix3D, e_lenS, e_strI, e_intS, e_ival, e_for, e_comp, e_rg1, e_rg2, e_en, e_rg1I, e_rg2I, e_tMt, e_lm, e_lmR, e_app, e_ext, e_bmS, e_bmSS, e_split, e_part, e_sl2S, e_isi3T, e_gTup, e_gxT, e_get3D, e_set3D, gx1, tYes, frv, x4, x5, x6, x7, x8, Function.comp, if_true, x9, if_false]
        refine ⟨.inl ⟨by decide, by decide⟩, _, 8, 6, rfl, by decide, by decide, by decide, fun d6 HF2 a6 b6 sF2 => ?_⟩
        obtain ⟨d6n, rfl⟩ := Int.eq_ofNat_of_zero_le a6
        obtain ⟨tm, htm, height⟩ := eight_at (j := d6n) (by omega)
        refine ix_T (sF2 _ _ gF1) (atI_nat height) ?_
        have sF3 : Same HF HF2 := sF1.trans sF2
        refine ix_L (sF3 _ _ gwF) (atI_nat hw) ?_
        simp only [tRet, tRetN, tCB, tCons, tNil, tSeq, tIfS, tAsg, gName, tV, x0, x1, x2, x3, tC, tOp, e_tst, e_isB, e_tru, e_truB, e_truI, e_truN, tSp, tDrop, tNext, tNot, tOr, tAnd, tIf, e_tup, e_lst, tCont, tBreak, tAug, tAugS, tAndV, tOrV, tNotV, tChain, e_dnew, gSub, ipI, tSl, tNoPart, tPart, tMk, ex_bl, ex_int, ex_int2, ex_some, e_eqI4, e_eqS4, e_neI3, e_neS3, e_i0, e_i2, e_addI, e_addS, e_addL4, e_mulI3, e_mulS, e_ix3S, e_ix3D, e_lenS, e_strI, e_intS, e_ival, e_for, e_comp, e_rg1, e_rg2, e_en, e_rg1I, e_rg2I, e_tMt, e_lm, e_lmR, e_app, e_ext, e_bmS, e_bmSS, e_split, e_part, e_sl2S, e_isi3T, e_gTup, e_gxT, e_get3D, e_set3D, gx1, tYes, frv, x4, x5, x6, x7, x8, Function.comp, if_true, x9, if_false]
        rw [word_in hfit]
        by_cases hsrc : kd = .src
        · rw [decide_eq_true hsrc, if_pos rfl]
          refine ⟨⟨_, SqL.of (sF3 _ _ gpF)⟩, ?_⟩
          refine ⟨i, mark, rfl, by omega, ?_⟩
          refine ix_L (sF3 _ _ gwF) (atI_nat hw) ?_
          refine ⟨by show 4 ≤ sizeLine; decide, alloc fun pt HG sG nG gG => ⟨_, sG _ _ (sF3 _ _ gpF), small_lt (by omega), ?_⟩⟩
          have sAG : Same HA HG := (sAF.trans sF3).trans sG
          have npt : pt ≠ pp := (ne_at (sF3 _ _ gpF) nG).symm
          refine ⟨pv ++ [.ref pt], parts ++ [⟨⟨ofL (nmL i mark), kd, 0⟩, feeds⟩], (sA.trans sAG).upd_free n9, upd_same, by rw [List.length_append, e1]; rfl, by rw [List.length_append, e2]; rfl, fun j x hx => ?_, _, _, _, _, _, _, _, rfl⟩
          rw [hid_upd]
          rcases Nat.lt_or_ge j parts.length with hj | hj
          · rw [List.getElem?_append_left hj] at hx
            obtain ⟨q1, v, q2, q3⟩ := hp j x hx
            exact ⟨q1, v, by rw [List.getElem?_append_left (by omega)]; exact q2, q3.mono (hid_same sAG)⟩
          · have hj2 : j = parts.length := by
              have := (List.getElem?_eq_some_iff.mp hx).1
              simp at this
              omega
            subst hj2
            rw [List.getElem?_append_right (Nat.le_refl _), Nat.sub_self] at hx
            cases hx
            refine ⟨⟨by rw [e2], by rw [e2]; exact hkd, ⟨Int.le_refl _, by show (0 : Int) ≤ 1000; decide⟩, fun z => absurd z (Int.lt_irrefl _), by show (feeds.length : Int) = kd.asked; omega, fun g hg => by rw [e2]; exact hfd g hg⟩, .ref pt, by rw [List.getElem?_append_right (by omega), e1, e2, Nat.sub_self]; rfl, pt, pd, fv, rfl, hid_at gG npt, hid_at (sG _ _ (sF3 _ _ gdF)) npd, ?_⟩
            exact (tF.fix ((sF3.trans sG).fix)).hid (sG _ _ (sF3 _ _ gpF))
        · rw [decide_eq_false hsrc, if_neg (by decide)]
          refine ix_L (sF3 _ _ gwF) (atI_nat hw) ?_
          simp only [tRet, tRetN, tCB, tCons, tNil, tSeq, tIfS, tAsg, gName, tV, x0, x1, x2, x3, tC, tOp, e_tst, e_isB, e_tru, e_truB, e_truI, e_truN, tSp, tDrop, tNext, tNot, tOr, tAnd, tIf, e_tup, e_lst, tCont, tBreak, tAug, tAugS, tAndV, tOrV, tNotV, tChain, e_dnew, gSub, ipI, tSl, tNoPart, tPart, tMk, ex_bl, ex_int, ex_int2, ex_some, e_eqI4, e_eqS4, e_neI3, e_neS3, e_i0, e_i2, e_addI, e_addS, e_addL4, e_mulI3, e_mulS, e_ix3S, e_ix3D, e_lenS, e_strI, e_intS, e_ival, e_for, e_comp, e_rg1, e_rg2, e_en, e_rg1I, e_rg2I, e_tMt, e_lm, e_lmR, e_app, e_ext, e_bmS, e_bmSS, e_split, e_part, e_sl2S, e_isi3T, e_gTup, e_gxT, e_get3D, e_set3D, gx1, tYes, frv, x4, x5, x6, x7, x8, Function.comp, if_true, x9, if_false]
          rw [word_out hfit]
          by_cases hsnk : kd = .snk
          · rw [decide_eq_true hsnk, if_pos rfl]
            refine ⟨⟨_, SqL.of (sF3 _ _ gpF)⟩, ?_⟩
            refine ⟨i, mark, rfl, by omega, ?_⟩
            refine ix_L (sF3 _ _ gwF) (atI_nat hw) ?_
            refine ⟨by show 4 ≤ sizeLine; decide, alloc fun pt HG sG nG gG => ⟨_, sG _ _ (sF3 _ _ gpF), small_lt (by omega), ?_⟩⟩
            have sAG : Same HA HG := (sAF.trans sF3).trans sG
            have npt : pt ≠ pp := (ne_at (sF3 _ _ gpF) nG).symm
            refine ⟨pv ++ [.ref pt], parts ++ [⟨⟨ofL (nmL i mark), kd, 0⟩, feeds⟩], (sA.trans sAG).upd_free n9, upd_same, by rw [List.length_append, e1]; rfl, by rw [List.length_append, e2]; rfl, fun j x hx => ?_, _, _, _, _, _, _, _, rfl⟩
            rw [hid_upd]
            rcases Nat.lt_or_ge j parts.length with hj | hj
            · rw [List.getElem?_append_left hj] at hx
              obtain ⟨q1, v, q2, q3⟩ := hp j x hx
              exact ⟨q1, v, by rw [List.getElem?_append_left (by omega)]; exact q2, q3.mono (hid_same sAG)⟩
            · have hj2 : j = parts.length := by
                have := (List.getElem?_eq_some_iff.mp hx).1
                simp at this
                omega
              subst hj2
              rw [List.getElem?_append_right (Nat.le_refl _), Nat.sub_self] at hx
              cases hx
              refine ⟨⟨by rw [e2], by rw [e2]; exact hkd, ⟨Int.le_refl _, by show (0 : Int) ≤ 1000; decide⟩, fun z => absurd z (Int.lt_irrefl _), by show (feeds.length : Int) = kd.asked; omega, fun g hg => by rw [e2]; exact hfd g hg⟩, .ref pt, by rw [List.getElem?_append_right (by omega), e1, e2, Nat.sub_self]; rfl, pt, pd, fv, rfl, hid_at gG npt, hid_at (sG _ _ (sF3 _ _ gdF)) npd, ?_⟩
              exact (tF.fix ((sF3.trans sG).fix)).hid (sG _ _ (sF3 _ _ gpF))
          · rw [decide_eq_false hsnk, if_neg (by decide)]
            refine ⟨⟨_, SqL.of (sF3 _ _ gpF)⟩, ?_⟩
            refine ⟨i, mark, rfl, by omega, ?_⟩
            refine ix_L (sF3 _ _ gwF) (atI_nat hw) ?_
            refine ⟨by show 4 ≤ sizeLine; decide, alloc fun pt HG sG nG gG => ⟨_, sG _ _ (sF3 _ _ gpF), small_lt (by omega), ?_⟩⟩
            have sAG : Same HA HG := (sAF.trans sF3).trans sG
            have npt : pt ≠ pp := (ne_at (sF3 _ _ gpF) nG).symm
            refine ⟨pv ++ [.ref pt], parts ++ [⟨⟨ofL (nmL i mark), kd, tm⟩, feeds⟩], (sA.trans sAG).upd_free n9, upd_same, by rw [List.length_append, e1]; rfl, by rw [List.length_append, e2]; rfl, fun j x hx => ?_, _, _, _, _, _, _, _, rfl⟩
            rw [hid_upd]
            rcases Nat.lt_or_ge j parts.length with hj | hj
            · rw [List.getElem?_append_left hj] at hx
              obtain ⟨q1, v, q2, q3⟩ := hp j x hx
              exact ⟨q1, v, by rw [List.getElem?_append_left (by omega)]; exact q2, q3.mono (hid_same sAG)⟩
            · have hj2 : j = parts.length := by
                have := (List.getElem?_eq_some_iff.mp hx).1
                simp at this
                omega
              subst hj2
              rw [List.getElem?_append_right (Nat.le_refl _), Nat.sub_self] at hx
              cases hx
              refine ⟨⟨by rw [e2], by rw [e2]; exact hkd, htm, fun _ => by cases kd <;> first | rfl | exact absurd rfl hsrc | exact absurd rfl hsnk, by show (feeds.length : Int) = kd.asked; omega, fun g hg => by rw [e2]; exact hfd g hg⟩, .ref pt, by rw [List.getElem?_append_right (by omega), e1, e2, Nat.sub_self]; rfl, pt, pd, fv, rfl, hid_at gG npt, hid_at (sG _ _ (sF3 _ _ gdF)) npd, ?_⟩
              exact (tF.fix ((sF3.trans sG).fix)).hid (sG _ _ (sF3 _ _ gpF))
    obtain ⟨pv, parts, sA, gA, e1, e2, hp, o7, o8, o9, o10, o11, o12, o13, rfl⟩ := h
    have np : H pp = none := (s6.trans s8).free n9
    exact k pp parts HA (lok_of h2 h60 hkl hkf e2 fun j x hx => (hp j x hx).1) (s6.trans (s8.trans sA)) np ⟨pv, gA, by omega, fun j x hx => let ⟨_, v, q2, q3⟩ := hp j x hx; ⟨v, q2, q3.mono (hid_sub _ _)⟩⟩
end
end K2
end
section
set_option maxRecDepth 100000
set_option maxHeartbeats 4000000
set_option linter.all false
namespace K2
open PySem L2
open TX
seal L2.PE L2.PS L2.PSs L2.PT L2.PA L2.PG L2.PI L2.PW
def spText : Sp := fun vs H Q _ => ∃ (a : Addr) (parts : List LP), vs = [.ref a] ∧ LOk parts ∧ PartsAt H a parts ∧ ∀ H', Same H H' → Q (.str (textOf (toPts parts))) H'
def llrow (l : Nat × Nat × Int) : List V := [.int l.1, .int l.2.1, .int l.2.2]
def llOf (k : Nat) : List LP → List (Nat × Nat × Int)
  | [] => []
  | x :: r => x.pf.map (fun f => (f.1, k, f.2)) ++ llOf (k + 1) r
theorem llOf_app (k : Nat) : ∀ (l r : List LP), llOf k (l ++ r) = llOf k l ++ llOf (k + l.length) r
  | [], r => by simp [llOf]
  | x :: l, r => by
    show x.pf.map _ ++ llOf (k + 1) (l ++ r) = _
    rw [llOf_app (k + 1) l r, List.length_cons, show k + 1 + l.length = k + (l.length + 1) by omega]
    show _ = (x.pf.map _ ++ llOf (k + 1) l) ++ _
    rw [List.append_assoc]
theorem llOf_snoc {parts : List LP} {i : Nat} {x : LP} (h : parts[i]? = some x) : llOf 0 (parts.take (i + 1)) = llOf 0 (parts.take i) ++ x.pf.map fun f => (f.1, i, f.2) := by
  have hi := (List.getElem?_eq_some_iff.mp h).1
  rw [take_get h, llOf_app, List.length_take, Nat.zero_add, Nat.min_eq_left (by omega)]
  simp [llOf]
def spLines : Sp := fun vs H Q _ => ∃ (a : Addr) (parts : List LP), vs = [.ref a] ∧ LOk parts ∧ PartsAt H a parts ∧ ∀ p lv H', Same H H' → H p = none → H' p = some (.lst lv) → Tups H' lv ((llOf 0 parts).map llrow) → Q (.ref p) H'
theorem ll_lns (all : List LP) : ∀ (k : Nat) (l : List LP), (∀ (j : Nat) x, l[j]? = some x → all[k + j]? = some x) → (llOf k l).map (fun e => ((nameAt all e.1, nameAt all e.2.1, e.2.2) : Ln)) = lnsOf (l.map (toPt all))
  | k, [], _ => rfl
  | k, x :: r, h => by
    have hx : nameAt all k = x.p.name := nameAt_of (by have := h 0 x rfl; simpa using this)
    show ((x.pf.map fun f => (f.1, k, f.2)) ++ llOf (k + 1) r).map _ = _
    rw [List.map_append, ll_lns all (k + 1) r (fun j y hy => by have := h (j + 1) y hy; rw [show k + 1 + j = k + (j + 1) by omega]; exact this), List.map_map]
    unfold lnsOf
    rw [List.map_cons, List.flatMap_cons]
    congr 1
    unfold toPt
    rw [List.map_map]
    apply List.map_congr_left
    intro f _
    show (nameAt all f.1, nameAt all k, f.2) = (nameAt all f.1, x.p.name, f.2)
    rw [hx]
theorem ll_lns' (parts : List LP) : (llOf 0 parts).map (fun e => ((nameAt parts e.1, nameAt parts e.2.1, e.2.2) : Ln)) = lnsOf (toPts parts) := ll_lns parts 0 parts fun j x h => by rw [Nat.zero_add]; exact h
theorem ll_mem {parts : List LP} : ∀ (k : Nat) (l : List LP) {e : Nat × Nat × Int}, e ∈ llOf k l → ∃ (j : Nat) (x : LP), l[j]? = some x ∧ e.2.1 = k + j ∧ (e.1, e.2.2) ∈ x.pf
  | k, x :: r, e, h => by
    have h : e ∈ (x.pf.map fun f => (f.1, k, f.2)) ++ llOf (k + 1) r := h
    rcases List.mem_append.mp h with h | h
    · obtain ⟨f, hf, rfl⟩ := List.mem_map.mp h
      exact ⟨0, x, rfl, rfl, hf⟩
    · obtain ⟨j, y, h1, h2, h3⟩ := ll_mem (parts := parts) (k + 1) r h
      exact ⟨j + 1, y, h1, by omega, h3⟩
theorem line_len {parts : List LP} (ok : LOk parts) : (llOf 0 parts).length ≤ 180 := by
  have h := congrArg List.length (ll_lns' parts)
  rw [List.length_map] at h
  have h2 : (lnsOf (toPts parts)).length ≤ (toPts parts).length * 3 := flat_len _ _ fun q hq => by
    have := (rok ok).ask q hq
    have h3 : q.p.kd.asked ≤ 3 := by cases q.p.kd <;> simp [Kd.asked]
    rw [List.length_map]
    omega
  have e : (toPts parts).length = parts.length := by unfold toPts; rw [List.length_map]
  have := ok.n60
  omega
theorem pf_len {parts : List LP} (ok : LOk parts) {x : LP} (h : x ∈ parts) : x.pf.length ≤ 3 := by
  have := ok.ask x h
  have h3 : x.p.kd.asked ≤ 3 := by cases x.p.kd <;> simp [Kd.asked]
  omega
theorem nm_all {parts : List LP} (ok : LOk parts) {x : LP} (h : x ∈ parts) : isName x.p.name = true := (rok ok).w.nm x.p (by rw [pts_to]; exact List.mem_map.mpr ⟨x, h, rfl⟩)
section
variable {P : Program} {w : World} {K : PySem.W.Frag} {mg : Str → Option Value} {base : Heap} {c : Cs} {cW : Addr}
abbrev s_law_text : Stmt := top 51
theorem sc_law_text : FnSc ["_law_parts", "_law_rows", "_law_part", "_law_row", "_law_feed"] ["_law_parts"] ["str"] (defScope s_law_text) := ⟨⟨rfl, rfl, rfl, by decide +kernel, rfl, by decide +kernel, by decide +kernel⟩, by decide +kernel, by decide +kernel, by decide +kernel⟩
theorem ok_law_text {f : Addr} {fd : FuncData} (F : Fun K "_law_text" "_law_text" s_law_text f fd) (n_str : mg "str" = none) : FnOk P w K mg base CX0 1 f fd ["_law_parts"] spText := by
  refine F.ok sc_law_text.S (fun vs H Q E h => ?_) (fun cdv A outer s H vs Q E hr h => ?_)
  · obtain ⟨a, parts, rfl, _⟩ := h
    rfl
  · obtain ⟨a, parts, rfl, ok, hP, k⟩ := h
    have S := sc_law_text.sx (CX := CX0) (P := P) (w := w) (K := K) (mg := mg) (base := base) (qual := "_law_text") (f := f) (cd := cdv) (A := A) (outer := outer) (s := s) (H := H) (E := E)
    have Sg := fun i {x} h => sc_law_text.gx (CX := CX0) (P := P) (w := w) (K := K) (mg := mg) (base := base) (qual := "_law_text") (f := f) (cd := cdv) (A := A) (outer := outer) (s := s) (H := H) (E := E) i (x := x) h
    have hU := hr.units
    refine ⟨_, (pss_cons (ps_st S 1 (pe_lst pa_nil))
      (pss_cons (ps_for PassesOwn.never rfl (i_val (K := K) rfl (nv S 0)) (pn S 2) (pss_cons (ps_st S 3 (pe_lst (pa_cons (pe_ix (o_ix3 (K := K) rfl hU) (nv S 2) pe_int (fun _ _ => rfl)) (pa_cons (pe_ix (o_ix3 (K := K) rfl hU) (nv S 2) pe_int (fun _ _ => rfl)) (pa_cons (k_str (Sg 0 rfl) n_str (pa_cons (pe_ix (o_ix3 (K := K) rfl hU) (nv S 2) pe_int (fun _ _ => rfl)) pa_nil)) pa_nil)))))
      (pss_cons (ps_for PassesOwn.never rfl (i_val (K := K) rfl (pe_ix (o_ix3 (K := K) rfl hU) (nv S 2) pe_int (fun _ _ => rfl))) (pn S 4) (pss_one (ps_expr (m_append (K := K) rfl (nv S 3) (pa_cons (pe_op o_add (pe_ix (o_ix3 (K := K) rfl hU) (pe_ix (o_ix3 (K := K) rfl hU) (nv S 0) (pe_ix (o_ix3 (K := K) rfl hU) (nv S 4) pe_int (fun _ _ => rfl)) (fun _ _ => rfl)) pe_int (fun _ _ => rfl)) (pe_ifExp (pt_of o_gt (pe_ix (o_ix3 (K := K) rfl hU) (nv S 4) pe_int (fun _ _ => rfl)) pe_int) (pe_op o_add pe_str (k_str (Sg 0 rfl) n_str (pa_cons (pe_ix (o_ix3 (K := K) rfl hU) (nv S 4) pe_int (fun _ _ => rfl)) pa_nil))) pe_str)) pa_nil)))))
      (pss_one (ps_expr (m_append (K := K) rfl (nv S 1) (pa_cons (m_join (K := K) rfl pe_str (pa_cons (nv S 3) pa_nil)) pa_nil)))))))
      (pss_one (ps_ret (m_join (K := K) rfl pe_str (pa_cons (nv S 1) pa_nil)))))), ?_⟩
    show (_ : TS) _ [some (.ref a), none, none, none, none] H
    simp only [tRet, tRetN, tCB, tCons, tNil, tSeq, tIfS, tAsg, gName, tV, x0, x1, x2, x3, tC, tOp, e_tst, e_isB, e_tru, e_truB, e_truI, e_truN, tSp, tDrop, tNext, tNot, tOr, tAnd, tIf, e_tup, e_lst, tCont, tBreak, tAug, tAugS, tAndV, tOrV, tNotV, tChain, e_dnew, gSub, ipI, tSl, tNoPart, tPart, tMk, ex_bl, ex_int, ex_int2, ex_some, e_eqI4, e_eqS4, e_neI3, e_neS3, e_i0, e_i2, e_addI, e_addS, e_addL4, e_mulI3, e_mulS, e_ix3S, e_ix3D, e_lenS, e_strI, e_intS, e_ival, e_for, e_comp, e_rg1, e_rg2, e_en, e_rg1I, e_rg2I, e_tMt, e_lm, e_lmR, e_app, e_ext, e_bmS, e_bmSS, e_split, e_part, e_sl2S, e_isi3T, e_gTup, e_gxT, e_get3D, e_set3D, gx1, tYes, frv, x4, x5, x6, x7, x8, Function.comp, if_true, x9, if_false]
    obtain ⟨vs, g0, vl, hat, hpt⟩ := hP.at
    have n60 := ok.n60
    refine ⟨by show 0 ≤ sizeLine; decide, alloc fun pr H1 s1 n1 g1 => ?_⟩
    refine for_L (xs := vs) (SqL.of (s1 _ _ g0)) (fun i σ H' => Same H H' ∧ H' pr = some (.lst ((((toPts parts).take i).map fun q => Txt.join " " (rowOf q)).map V.str)) ∧ ∃ o2 o3 o4, σ = [some (.ref a), some (.ref pr), o2, o3, o4]) ⟨s1, g1, _, _, _, rfl⟩ (fun i σ H' hi h => SqL.of (h.1 _ _ g0)) (fun i v σ H2 hi hv h => ?_) (fun σ H2 h => ?_)
    · obtain ⟨s2, g2, o2, o3, o4, rfl⟩ := h
      obtain ⟨x, hx, ta, tf, fv, rfl, h1, h2, h3⟩ := hat i v hv
      have hxm : x ∈ parts := List.mem_of_getElem? hx
      have tm := ok.tm x hxm
      have h1' := s2 _ _ h1
      simp only [tRet, tRetN, tCB, tCons, tNil, tSeq, tIfS, tAsg, gName, tV, x0, x1, x2, x3, tC, tOp, e_tst, e_isB, e_tru, e_truB, e_truI, e_truN, tSp, tDrop, tNext, tNot, tOr, tAnd, tIf, e_tup, e_lst, tCont, tBreak, tAug, tAugS, tAndV, tOrV, tNotV, tChain, e_dnew, gSub, ipI, tSl, tNoPart, tPart, tMk, ex_bl, ex_int, ex_int2, ex_some, e_eqI4, e_eqS4, e_neI3, e_neS3, e_i0, e_i2, e_addI, e_addS, e_addL4, e_mulI3, e_mulS, e_ix3S, e_ix3D, e_lenS, e_strI, e_intS, e_ival, e_for, e_comp, e_rg1, e_rg2, e_en, e_rg1I, e_rg2I, e_tMt, e_lm, e_lmR, e_app, e_ext, e_bmS, e_bmSS, e_split, e_part, e_sl2S, e_isi3T, e_gTup, e_gxT, e_get3D, e_set3D, gx1, tYes, frv, x4, x5, x6, x7, x8, Function.comp, if_true, x9, if_false]
      refine ix_T h1' (atI_nat (j := 0) rfl) ?_
      refine ix_T h1' (atI_nat (j := 1) rfl) ?_
      refine ix_T h1' (atI_nat (j := 2) rfl) ?_
      rw [e_strI]
      refine ⟨small_log (by omega), by show 3 ≤ sizeLine; decide, alloc fun pw H3 s3 n3 g3 => ?_⟩
      refine ix_T (s3 _ _ h1') (atI_nat (j := 3) rfl) ?_
      have npw : pw ≠ pr := (ne_at g2 n3).symm
      have fvl : fv.length = x.pf.length := by rw [h3.1, List.length_map]
      have pl := pf_len ok hxm
      refine for_L (xs := fv) (SqL.of ((s2.trans s3) _ _ h2)) (fun j σ H' => Same H2 H' ∧ H' pw = some (.lst ((x.p.name :: x.p.kd.word :: Str.ofString (toString x.p.time) :: (x.pf.take j).map fun f => lineWord (nameAt parts f.1) f.2).map V.str)) ∧ ∃ o4, σ = [some (.ref a), some (.ref pr), some (.ref ta), some (.ref pw), o4]) ⟨s3, g3, _, rfl⟩ (fun j σ H' hj h => SqL.of ((s2.trans h.1) _ _ h2)) (fun j u σ H4 hj hu h => ?_) (fun σ H4 h => ?_)
      · obtain ⟨s4, g4, o4, rfl⟩ := h
        obtain ⟨p4, row, rfl, hr, hp4⟩ := (h3.fix (s2.trans s4).fix).at hu
        obtain ⟨f, hf, rfl⟩ := get_map hr
        obtain ⟨⟨y, hy, _⟩, f0, f2, _⟩ := ok.fd i x hx f (List.mem_of_getElem? hf)
        obtain ⟨v', hv', ta', tf', fv', rfl, y1, y2, y3⟩ := hpt f.1 y hy
        have nmy := nm_all ok (List.mem_of_getElem? hy)
        have l8 := (isName_of nmy).2.1
        simp only [frow] at hp4
        simp only [tRet, tRetN, tCB, tCons, tNil, tSeq, tIfS, tAsg, gName, tV, x0, x1, x2, x3, tC, tOp, e_tst, e_isB, e_tru, e_truB, e_truI, e_truN, tSp, tDrop, tNext, tNot, tOr, tAnd, tIf, e_tup, e_lst, tCont, tBreak, tAug, tAugS, tAndV, tOrV, tNotV, tChain, e_dnew, gSub, ipI, tSl, tNoPart, tPart, tMk, ex_bl, ex_int, ex_int2, ex_some, e_eqI4, e_eqS4, e_neI3, e_neS3, e_i0, e_i2, e_addI, e_addS, e_addL4, e_mulI3, e_mulS, e_ix3S, e_ix3D, e_lenS, e_strI, e_intS, e_ival, e_for, e_comp, e_rg1, e_rg2, e_en, e_rg1I, e_rg2I, e_tMt, e_lm, e_lmR, e_app, e_ext, e_bmS, e_bmSS, e_split, e_part, e_sl2S, e_isi3T, e_gTup, e_gxT, e_get3D, e_set3D, gx1, tYes, frv, x4, x5, x6, x7, x8, Function.comp, if_true, x9, if_false]
        refine ⟨⟨_, SqL.of g4⟩, ?_⟩
        refine ix_T hp4 (atI_nat (j := 0) rfl) ?_
        refine ix_L ((s2.trans s4) _ _ g0) (atI_nat hv') ?_
        refine ix_T ((s2.trans s4) _ _ y1) (atI_nat (j := 0) rfl) ?_
        refine ix_T hp4 (atI_nat (j := 1) rfl) ?_
        simp only [tRet, tRetN, tCB, tCons, tNil, tSeq, tIfS, tAsg, gName, tV, x0, x1, x2, x3, tC, tOp, e_tst, e_isB, e_tru, e_truB, e_truI, e_truN, tSp, tDrop, tNext, tNot, tOr, tAnd, tIf, e_tup, e_lst, tCont, tBreak, tAug, tAugS, tAndV, tOrV, tNotV, tChain, e_dnew, gSub, ipI, tSl, tNoPart, tPart, tMk, ex_bl, ex_int, ex_int2, ex_some, e_eqI4, e_eqS4, e_neI3, e_neS3, e_i0, e_i2, e_addI, e_addS, e_addL4, e_mulI3, e_mulS, e_ix3S, e_ix3D, e_lenS, e_strI, e_intS, e_ival, e_for, e_comp, e_rg1, e_rg2, e_en, e_rg1I, e_rg2I, e_tMt, e_lm, e_lmR, e_app, e_ext, e_bmS, e_bmSS, e_split, e_part, e_sl2S, e_isi3T, e_gTup, e_gxT, e_get3D, e_set3D, gx1, tYes, frv, x4, x5, x6, x7, x8, Function.comp, if_true, x9, if_false]
        have fin : ∀ w : Str, w = lineWord (nameAt parts f.1) f.2 → ∃ xs, H4 pw = some (.lst xs) ∧ xs.length < sizeLine ∧ Same H2 (upd H4 pw (.lst (xs ++ [.str w]))) ∧ upd H4 pw (.lst (xs ++ [.str w])) pw = some (.lst ((x.p.name :: x.p.kd.word :: Str.ofString (toString x.p.time) :: (x.pf.take (j + 1)).map fun f => lineWord (nameAt parts f.1) f.2).map V.str)) := fun w hw => by
          refine ⟨_, g4, small_lt (by simp; omega), s4.upd_free n3, ?_⟩
          rw [upd_same, take_get hf, hw]
          simp
        have en := nameAt_of hy
        by_cases hpos : 0 < f.2
        · rw [decide_eq_true hpos, if_pos rfl]
          refine ix_T hp4 (atI_nat (j := 1) rfl) ?_
          rw [e_strI]
          have es : (Str.ofString (toString f.2)).length ≤ 4 := (num_ok f0 (by omega)).2.1
          refine ⟨small_log (by omega), ?_⟩
          try simp only [tRet, tRetN, tCB, tCons, tNil, tSeq, tIfS, tAsg, gName, tV, x0, x1, x2, x3, tC, tOp, e_tst, e_isB, e_tru, e_truB, e_truI, e_truN, tSp, tDrop, tNext, tNot, tOr, tAnd, tIf, e_tup, e_lst, tCont, tBreak, tAug, tAugS, tAndV, tOrV, tNotV, tChain, e_dnew, gSub, ipI, tSl, tNoPart, tPart, tMk, ex_bl, ex_int, ex_int2, ex_some, e_eqI4, e_eqS4, e_neI3, e_neS3, e_i0, e_i2, e_addI, e_addS, e_addL4, e_mulI3, e_mulS, e_ix3S, e_ix3D, e_lenS, e_strI, e_intS, e_ival, e_for, e_comp, e_rg1, e_rg2, e_en, e_rg1I, e_rg2I, e_tMt, e_lm, e_lmR, e_app, e_ext, e_bmS, e_bmSS, e_split, e_part, e_sl2S, e_isi3T, e_gTup, e_gxT, e_get3D, e_set3D, gx1, tYes, frv, x4, x5, x6, x7, x8, Function.comp, if_true, x9, if_false]
          refine ⟨small_add (by decide +kernel) (by omega), ?_⟩
          refine ⟨small_size (by rw [len_app, show (Str.ofString "/").length = 1 from by decide +kernel]; omega), ?_⟩
          obtain ⟨xs, q1, q2, q3, q4⟩ := fin (y.p.name ++ (Str.ofString "/" ++ Str.ofString (toString f.2))) (by
            unfold lineWord
            rw [if_neg (by omega), en]
            exact str_ext (by rw [ls_app, ls_app, ls_app, ls_app, List.append_assoc]))
          exact ⟨xs, q1, q2, q3, q4, _, rfl⟩
        · rw [decide_eq_false hpos, if_neg (by decide)]
          try simp only [tRet, tRetN, tCB, tCons, tNil, tSeq, tIfS, tAsg, gName, tV, x0, x1, x2, x3, tC, tOp, e_tst, e_isB, e_tru, e_truB, e_truI, e_truN, tSp, tDrop, tNext, tNot, tOr, tAnd, tIf, e_tup, e_lst, tCont, tBreak, tAug, tAugS, tAndV, tOrV, tNotV, tChain, e_dnew, gSub, ipI, tSl, tNoPart, tPart, tMk, ex_bl, ex_int, ex_int2, ex_some, e_eqI4, e_eqS4, e_neI3, e_neS3, e_i0, e_i2, e_addI, e_addS, e_addL4, e_mulI3, e_mulS, e_ix3S, e_ix3D, e_lenS, e_strI, e_intS, e_ival, e_for, e_comp, e_rg1, e_rg2, e_en, e_rg1I, e_rg2I, e_tMt, e_lm, e_lmR, e_app, e_ext, e_bmS, e_bmSS, e_split, e_part, e_sl2S, e_isi3T, e_gTup, e_gxT, e_get3D, e_set3D, gx1, tYes, frv, x4, x5, x6, x7, x8, Function.comp, if_true, x9, if_false]
          refine ⟨small_size (by rw [show (Str.ofString "").length = 0 from by decide +kernel]; omega), ?_⟩
          obtain ⟨xs, q1, q2, q3, q4⟩ := fin (y.p.name ++ Str.ofString "") (by
            unfold lineWord
            rw [if_pos (by omega), en]
            exact str_ext (by rw [ls_app, show ls (Str.ofString "") = [] from ls_em, List.append_nil]))
          exact ⟨xs, q1, q2, q3, q4, _, rfl⟩
      · obtain ⟨s4, g4, o4, rfl⟩ := h
        rw [fvl, List.take_length] at g4
        have hq : (toPts parts)[i]? = some (toPt parts x) := by unfold toPts; rw [List.getElem?_map, hx]; rfl
        have hqm : toPt parts x ∈ toPts parts := List.mem_of_getElem? hq
        have er : (x.p.name :: x.p.kd.word :: Str.ofString (toString x.p.time) :: x.pf.map fun f => lineWord (nameAt parts f.1) f.2) = rowOf (toPt parts x) := by
          unfold rowOf toPt
          rw [List.map_map]
          rfl
        rw [er] at g4
        obtain ⟨b1, b2⟩ := join_row_len (rok ok) hqm (sep := " ") (by decide +kernel)
        have rl := row_len (rok ok) hqm
        simp only [tRet, tRetN, tCB, tCons, tNil, tSeq, tIfS, tAsg, gName, tV, x0, x1, x2, x3, tC, tOp, e_tst, e_isB, e_tru, e_truB, e_truI, e_truN, tSp, tDrop, tNext, tNot, tOr, tAnd, tIf, e_tup, e_lst, tCont, tBreak, tAug, tAugS, tAndV, tOrV, tNotV, tChain, e_dnew, gSub, ipI, tSl, tNoPart, tPart, tMk, ex_bl, ex_int, ex_int2, ex_some, e_eqI4, e_eqS4, e_neI3, e_neS3, e_i0, e_i2, e_addI, e_addS, e_addL4, e_mulI3, e_mulS, e_ix3S, e_ix3D, e_lenS, e_strI, e_intS, e_ival, e_for, e_comp, e_rg1, e_rg2, e_en, e_rg1I, e_rg2I, e_tMt, e_lm, e_lmR, e_app, e_ext, e_bmS, e_bmSS, e_split, e_part, e_sl2S, e_isi3T, e_gTup, e_gxT, e_get3D, e_set3D, gx1, tYes, frv, x4, x5, x6, x7, x8, Function.comp, if_true, x9, if_false]
        refine ⟨⟨_, SqL.of (s4 _ _ g2)⟩, ?_⟩
        refine ⟨rowOf (toPt parts x), SqL.of g4, by rw [show (Str.ofString " ").length = 1 from by decide +kernel]; omega, ?_⟩
        simp only [tRet, tRetN, tCB, tCons, tNil, tSeq, tIfS, tAsg, gName, tV, x0, x1, x2, x3, tC, tOp, e_tst, e_isB, e_tru, e_truB, e_truI, e_truN, tSp, tDrop, tNext, tNot, tOr, tAnd, tIf, e_tup, e_lst, tCont, tBreak, tAug, tAugS, tAndV, tOrV, tNotV, tChain, e_dnew, gSub, ipI, tSl, tNoPart, tPart, tMk, ex_bl, ex_int, ex_int2, ex_some, e_eqI4, e_eqS4, e_neI3, e_neS3, e_i0, e_i2, e_addI, e_addS, e_addL4, e_mulI3, e_mulS, e_ix3S, e_ix3D, e_lenS, e_strI, e_intS, e_ival, e_for, e_comp, e_rg1, e_rg2, e_en, e_rg1I, e_rg2I, e_tMt, e_lm, e_lmR, e_app, e_ext, e_bmS, e_bmSS, e_split, e_part, e_sl2S, e_isi3T, e_gTup, e_gxT, e_get3D, e_set3D, gx1, tYes, frv, x4, x5, x6, x7, x8, Function.comp, if_true, x9, if_false]
        have tl : (toPts parts).length = parts.length := by unfold toPts; rw [List.length_map]
        refine ⟨_, s4 _ _ g2, small_lt (by rw [List.length_map, List.length_map, List.length_take]; omega), (s2.trans s4).upd_free n1, ?_, _, _, _, rfl⟩
        rw [upd_same, take_get hq, List.map_append, List.map_append]
        rfl
    obtain ⟨s2, g2, o2, o3, o4, rfl⟩ := h
    have tl : (toPts parts).length = parts.length := by unfold toPts; rw [List.length_map]
    rw [vl, ← tl, List.take_length] at g2
    simp only [tRet, tRetN, tCB, tCons, tNil, tSeq, tIfS, tAsg, gName, tV, x0, x1, x2, x3, tC, tOp, e_tst, e_isB, e_tru, e_truB, e_truI, e_truN, tSp, tDrop, tNext, tNot, tOr, tAnd, tIf, e_tup, e_lst, tCont, tBreak, tAug, tAugS, tAndV, tOrV, tNotV, tChain, e_dnew, gSub, ipI, tSl, tNoPart, tPart, tMk, ex_bl, ex_int, ex_int2, ex_some, e_eqI4, e_eqS4, e_neI3, e_neS3, e_i0, e_i2, e_addI, e_addS, e_addL4, e_mulI3, e_mulS, e_ix3S, e_ix3D, e_lenS, e_strI, e_intS, e_ival, e_for, e_comp, e_rg1, e_rg2, e_en, e_rg1I, e_rg2I, e_tMt, e_lm, e_lmR, e_app, e_ext, e_bmS, e_bmSS, e_split, e_part, e_sl2S, e_isi3T, e_gTup, e_gxT, e_get3D, e_set3D, gx1, tYes, frv, x4, x5, x6, x7, x8, Function.comp, if_true, x9, if_false]
    have b := (text_len (rok ok)).1
    refine ⟨_, SqL.of g2, ?_, k H2 s2⟩
    rw [show (Str.ofString "\n").length = 1 from by decide +kernel, List.length_map]
    omega
abbrev s_law_lines : Stmt := top 52
theorem sc_law_lines : FnSc ["_law_parts", "_law_lines_here", "_law_k", "_law_feed"] ["_law_parts"] ["range", "len"] (defScope s_law_lines) := ⟨⟨rfl, rfl, rfl, by decide +kernel, rfl, by decide +kernel, by decide +kernel⟩, by decide +kernel, by decide +kernel, by decide +kernel⟩
theorem ok_law_lines {f : Addr} {fd : FuncData} (F : Fun K "_law_lines" "_law_lines" s_law_lines f fd) (n_len : mg "len" = none) (n_range : mg "range" = none) : FnOk P w K mg base CX0 1 f fd ["_law_parts"] spLines := by
  refine F.ok sc_law_lines.S (fun vs H Q E h => ?_) (fun cdv A outer s H vs Q E hr h => ?_)
  · obtain ⟨a, parts, rfl, _⟩ := h
    rfl
  · obtain ⟨a, parts, rfl, ok, hP, k⟩ := h
    have S := sc_law_lines.sx (CX := CX0) (P := P) (w := w) (K := K) (mg := mg) (base := base) (qual := "_law_lines") (f := f) (cd := cdv) (A := A) (outer := outer) (s := s) (H := H) (E := E)
    have Sg := fun i {x} h => sc_law_lines.gx (CX := CX0) (P := P) (w := w) (K := K) (mg := mg) (base := base) (qual := "_law_lines") (f := f) (cd := cdv) (A := A) (outer := outer) (s := s) (H := H) (E := E) i (x := x) h
    have hU := hr.units
    refine ⟨_, (pss_cons (ps_st S 1 (pe_lst pa_nil))
      (pss_cons (ps_for PassesOwn.never rfl (i_range1 (Sg 0 rfl) n_range (pa_cons (k_len (K := K) rfl (Sg 1 rfl) n_len (pa_cons (nv S 0) pa_nil)) pa_nil)) (pn S 2) (pss_one (ps_for PassesOwn.never rfl (i_val (K := K) rfl (pe_ix (o_ix3 (K := K) rfl hU) (pe_ix (o_ix3 (K := K) rfl hU) (nv S 0) (nv S 2) (fun _ _ => rfl)) pe_int (fun _ _ => rfl))) (pn S 3) (pss_one (ps_expr (m_append (K := K) rfl (nv S 1) (pa_cons (pe_tup (pa_cons (pe_ix (o_ix3 (K := K) rfl hU) (nv S 3) pe_int (fun _ _ => rfl)) (pa_cons (nv S 2) (pa_cons (pe_ix (o_ix3 (K := K) rfl hU) (nv S 3) pe_int (fun _ _ => rfl)) pa_nil)))) pa_nil)))))))
      (pss_one (ps_ret (nv S 1))))), ?_⟩
    show (_ : TS) _ [some (.ref a), none, none, none] H
    simp only [tRet, tRetN, tCB, tCons, tNil, tSeq, tIfS, tAsg, gName, tV, x0, x1, x2, x3, tC, tOp, e_tst, e_isB, e_tru, e_truB, e_truI, e_truN, tSp, tDrop, tNext, tNot, tOr, tAnd, tIf, e_tup, e_lst, tCont, tBreak, tAug, tAugS, tAndV, tOrV, tNotV, tChain, e_dnew, gSub, ipI, tSl, tNoPart, tPart, tMk, ex_bl, ex_int, ex_int2, ex_some, e_eqI4, e_eqS4, e_neI3, e_neS3, e_i0, e_i2, e_addI, e_addS, e_addL4, e_mulI3, e_mulS, e_ix3S, e_ix3D, e_lenS, e_strI, e_intS, e_ival, e_for, e_comp, e_rg1, e_rg2, e_en, e_rg1I, e_rg2I, e_tMt, e_lm, e_lmR, e_app, e_ext, e_bmS, e_bmSS, e_split, e_part, e_sl2S, e_isi3T, e_gTup, e_gxT, e_get3D, e_set3D, gx1, tYes, frv, x4, x5, x6, x7, x8, Function.comp, if_true, x9, if_false]
    obtain ⟨vs, g0, vl, hat, hpt⟩ := hP.at
    have n60 := ok.n60
    refine ⟨by show 0 ≤ sizeLine; decide, alloc fun pl H1 s1 n1 g1 => ?_⟩
    refine len_L (s1 _ _ g0) ?_
    simp only [tRet, tRetN, tCB, tCons, tNil, tSeq, tIfS, tAsg, gName, tV, x0, x1, x2, x3, tC, tOp, e_tst, e_isB, e_tru, e_truB, e_truI, e_truN, tSp, tDrop, tNext, tNot, tOr, tAnd, tIf, e_tup, e_lst, tCont, tBreak, tAug, tAugS, tAndV, tOrV, tNotV, tChain, e_dnew, gSub, ipI, tSl, tNoPart, tPart, tMk, ex_bl, ex_int, ex_int2, ex_some, e_eqI4, e_eqS4, e_neI3, e_neS3, e_i0, e_i2, e_addI, e_addS, e_addL4, e_mulI3, e_mulS, e_ix3S, e_ix3D, e_lenS, e_strI, e_intS, e_ival, e_for, e_comp, e_rg1, e_rg2, e_en, e_rg1I, e_rg2I, e_tMt, e_lm, e_lmR, e_app, e_ext, e_bmS, e_bmSS, e_split, e_part, e_sl2S, e_isi3T, e_gTup, e_gxT, e_get3D, e_set3D, gx1, tYes, frv, x4, x5, x6, x7, x8, Function.comp, if_true, x9, if_false]
    refine ⟨by omega, ?_⟩
    rw [Int.toNat_natCast]
    refine for_R (fun i σ H' => Same H H' ∧ (∃ lv, H' pl = some (.lst lv) ∧ Tups H' lv ((llOf 0 (parts.take i)).map llrow)) ∧ ∃ o2 o3, σ = [some (.ref a), some (.ref pl), o2, o3]) ⟨s1, ⟨[], g1, Tups.nil⟩, _, _, rfl⟩ (fun i σ H2 hi h => ?_) (fun σ H2 h => ?_)
    · obtain ⟨s2, ⟨lv, g2, t2⟩, o2, o3, rfl⟩ := h
      obtain ⟨x, hx⟩ : ∃ x, parts[i]? = some x := ⟨_, List.getElem?_eq_getElem (by omega)⟩
      obtain ⟨v, hv, ta, tf, fv, rfl, h1, h2, h3⟩ := hpt i x hx
      simp only [Int.zero_add, tRet, tRetN, tCB, tCons, tNil, tSeq, tIfS, tAsg, gName, tV, x0, x1, x2, x3, tC, tOp, e_tst, e_isB, e_tru, e_truB, e_truI, e_truN, tSp, tDrop, tNext, tNot, tOr, tAnd, tIf, e_tup, e_lst, tCont, tBreak, tAug, tAugS, tAndV, tOrV, tNotV, tChain, e_dnew, gSub, ipI, tSl, tNoPart, tPart, tMk, ex_bl, ex_int, ex_int2, ex_some, e_eqI4, e_eqS4, e_neI3, e_neS3, e_i0, e_i2, e_addI, e_addS, e_addL4, e_mulI3, e_mulS, e_ix3S, e_ix3D, e_lenS, e_strI, e_intS, e_ival, e_for, e_comp, e_rg1, e_rg2, e_en, e_rg1I, e_rg2I, e_tMt, e_lm, e_lmR, e_app, e_ext, e_bmS, e_bmSS, e_split, e_part, e_sl2S, e_isi3T, e_gTup, e_gxT, e_get3D, e_set3D, gx1, tYes, frv, x4, x5, x6, x7, x8, Function.comp, if_true, x9, if_false]
      refine ix_L (s2 _ _ g0) (atI_nat hv) ?_
      refine ix_T (s2 _ _ h1) (atI_nat (j := 3) rfl) ?_
      have fvl : fv.length = x.pf.length := by rw [h3.1, List.length_map]
      have ll := line_len ok
      refine for_L (xs := fv) (SqL.of (s2 _ _ h2)) (fun j σ H' => Same H H' ∧ (∃ lv, H' pl = some (.lst lv) ∧ Tups H' lv ((llOf 0 (parts.take i) ++ (x.pf.take j).map fun f => (f.1, i, f.2)).map llrow)) ∧ ∃ o3, σ = [some (.ref a), some (.ref pl), some (.int (i : Nat)), o3]) ⟨s2, ⟨lv, g2, by rw [List.take_zero, List.map_nil, List.append_nil]; exact t2⟩, _, rfl⟩ (fun j σ H' hj h => SqL.of (h.1 _ _ h2)) (fun j u σ H4 hj hu h => ?_) (fun σ H4 h => ?_)
      · obtain ⟨s4, ⟨lv, g4, t4⟩, o3, rfl⟩ := h
        obtain ⟨p4, row, rfl, hr, hp4⟩ := (h3.fix s4.fix).at hu
        obtain ⟨f, hf, rfl⟩ := get_map hr
        simp only [frow] at hp4
        have lvl : lv.length < 1000 := by
          have := t4.1
          rw [List.length_map, List.length_append, List.length_map, List.length_take] at this
          have h5 := congrArg List.length (llOf_snoc hx)
          rw [List.length_append, List.length_map] at h5
          have h6 : (llOf 0 (parts.take (i + 1))).length ≤ (llOf 0 parts).length := by
            have := llOf_app 0 (parts.take (i + 1)) (parts.drop (i + 1))
            rw [List.take_append_drop] at this
            rw [this, List.length_append]
            omega
          have := fvl
          omega
        simp only [tRet, tRetN, tCB, tCons, tNil, tSeq, tIfS, tAsg, gName, tV, x0, x1, x2, x3, tC, tOp, e_tst, e_isB, e_tru, e_truB, e_truI, e_truN, tSp, tDrop, tNext, tNot, tOr, tAnd, tIf, e_tup, e_lst, tCont, tBreak, tAug, tAugS, tAndV, tOrV, tNotV, tChain, e_dnew, gSub, ipI, tSl, tNoPart, tPart, tMk, ex_bl, ex_int, ex_int2, ex_some, e_eqI4, e_eqS4, e_neI3, e_neS3, e_i0, e_i2, e_addI, e_addS, e_addL4, e_mulI3, e_mulS, e_ix3S, e_ix3D, e_lenS, e_strI, e_intS, e_ival, e_for, e_comp, e_rg1, e_rg2, e_en, e_rg1I, e_rg2I, e_tMt, e_lm, e_lmR, e_app, e_ext, e_bmS, e_bmSS, e_split, e_part, e_sl2S, e_isi3T, e_gTup, e_gxT, e_get3D, e_set3D, gx1, tYes, frv, x4, x5, x6, x7, x8, Function.comp, if_true, x9, if_false]
        refine ⟨⟨_, SqL.of g4⟩, ?_⟩
        refine ix_T hp4 (atI_nat (j := 0) rfl) ?_
        refine ix_T hp4 (atI_nat (j := 1) rfl) ?_
        refine ⟨by show 3 ≤ sizeLine; decide, alloc fun pt H5 s5 n5 g5 => ⟨_, s5 _ _ g4, small_lt (by omega), ?_⟩⟩
        refine ⟨(s4.trans s5).upd_free n1, ⟨_, upd_same, ?_⟩, _, rfl⟩
        have em : (llOf 0 (parts.take i) ++ (x.pf.take (j + 1)).map fun f => (f.1, i, f.2)).map llrow = (llOf 0 (parts.take i) ++ (x.pf.take j).map fun f => (f.1, i, f.2)).map llrow ++ [llrow (f.1, i, f.2)] := by
          rw [take_get hf]
          simp
        rw [em]
        exact ((t4.fix s5.fix).snoc g5).fix (Fix.upd (s5 _ _ g4) rfl)
      · obtain ⟨s4, ⟨lv, g4, t4⟩, o3, rfl⟩ := h
        rw [fvl, List.take_length, ← llOf_snoc hx] at t4
        exact ⟨s4, ⟨lv, g4, t4⟩, _, _, rfl⟩
    obtain ⟨s2, ⟨lv, g2, t2⟩, o2, o3, rfl⟩ := h
    rw [vl, List.take_length] at t2
    exact k pl lv H2 s2 n1 g2 t2
end
end K2
end
section
set_option maxRecDepth 100000
set_option maxHeartbeats 4000000
set_option linter.all false
namespace K2
open PySem L2
open TX
seal L2.PE L2.PS L2.PSs L2.PT L2.PA L2.PG L2.PI L2.PW
theorem rep_sp (n : Int) (h0 : 0 ≤ n) (h1 : n < 5) : ls (repS " " n) = List.replicate n.toNat 32 := by
  obtain ⟨m, rfl⟩ := Int.eq_ofNat_of_zero_le h0
  have : ∀ j : _root_.Fin 5, ls (repS " " (j.val : Int)) = List.replicate j.val 32 := by decide +kernel
  exact this ⟨m, by omega⟩
theorem rep_no {z : Str} {n : Nat} (h : ls z = List.replicate n 32) : 10 ∉ ls z := fun e => by
  rw [h] at e
  exact absurd (List.eq_of_mem_replicate e) (by decide)
theorem rep_len {z : Str} {n : Nat} (h : ls z = List.replicate n 32) : z.length = n := by rw [← ls_len, h, List.length_replicate]
theorem text_split {qs : List Pt} (ok : ROk qs) : Txt.split (textOf qs) "\n" = qs.map fun q => Txt.join " " (rowOf q) := by
  unfold textOf
  refine split_rows (by simpa using qs_ne ok) fun z hz => ?_
  obtain ⟨q, hq, rfl⟩ := List.mem_map.mp hz
  exact join_no (by rw [ls_sp]; decide) fun w hw => (row_wd ok hq w hw).nl
theorem row_split {qs : List Pt} (ok : ROk qs) {q : Pt} (hq : q ∈ qs) : Txt.split (Txt.join " " (rowOf q)) " " = rowOf q := split_row (row_ne q) fun w hw => (row_wd ok hq w hw).sp
def spSpread : Sp := fun vs H Q _ => ∃ (cell : Int) (qs : List Pt), vs = [.str (textOf qs), .int cell] ∧ ROk qs ∧ ∀ z' H', rowsOf z' = qs.map rowOf → z'.length ≤ 100000 → Same H H' → Q (.str z') H'
structure ZOk (qs : List Pt) (i : Nat) (zs : List Str) : Prop where
  le : zs.length ≤ 2 * i
  no : ∀ z ∈ zs, 10 ∉ ls z ∧ z.length ≤ 200
  rows : ((zs.map wordsT).filter fun r => !decide (r = [])) = (qs.take i).map rowOf
  ne : 0 < i → zs ≠ []
theorem ZOk.row {qs : List Pt} {i : Nat} {zs : List Str} {q : Pt} {z : Str} (h : ZOk qs i zs) (hq : qs[i]? = some q) (hw : wordsT z = rowOf q) (hn : 10 ∉ ls z) (hl : z.length ≤ 200) : ZOk qs (i + 1) (zs ++ [z]) ∧ (zs ++ [z]).length ≤ 2 * i + 1 := by
  have e : (zs ++ [z]).length = zs.length + 1 := by simp
  have := h.le
  refine ⟨⟨by omega, fun y hy => ?_, ?_, fun _ => by simp⟩, by omega⟩
  · rcases List.mem_append.mp hy with hy | hy
    · exact h.no y hy
    · rw [List.mem_singleton.mp hy]; exact ⟨hn, hl⟩
  · rw [List.map_append, List.filter_append, h.rows, take_get hq, List.map_append]
    congr 1
    simp [hw, row_ne q]
theorem ZOk.blank {qs : List Pt} {i : Nat} {zs : List Str} {z : Str} (h : ZOk qs i zs) (h2 : zs.length + 1 ≤ 2 * i) (hw : wordsT z = []) (hn : 10 ∉ ls z) (hl : z.length ≤ 200) : ZOk qs i (zs ++ [z]) := by
  refine ⟨by rw [List.length_append]; exact h2, fun y hy => ?_, ?_, fun _ => by simp⟩
  · rcases List.mem_append.mp hy with hy | hy
    · exact h.no y hy
    · rw [List.mem_singleton.mp hy]; exact ⟨hn, hl⟩
  · rw [List.map_append, List.filter_append, h.rows]
    simp [hw]
section
variable {P : Program} {w : World} {K : PySem.W.Frag} {mg : Str → Option Value} {base : Heap} {c : Cs} {cW : Addr}
abbrev s_law_spread : Stmt := top 53
theorem sc_law_spread : FnSc ["_law_text_here", "_law_cell", "_law_rows", "_law_k", "_law_row", "_law_one", "_law_gap", "_law_ahead"] ["_law_text_here", "_law_cell"] ["enumerate", "_law_draw"] (defScope s_law_spread) := ⟨⟨rfl, rfl, rfl, by decide +kernel, rfl, by decide +kernel, by decide +kernel⟩, by decide +kernel, by decide +kernel, by decide +kernel⟩
theorem ok_law_spread {f : Addr} {fd : FuncData} (F : Fun K "_law_spread" "_law_spread" s_law_spread f fd) (C_law_draw : Cal P w K mg base 1 "_law_draw" ["_law_cell", "_law_k", "_law_many"] spDraw) (n_enumerate : mg "enumerate" = none) : FnOk P w K mg base CX0 2 f fd ["_law_text_here", "_law_cell"] spSpread := by
  refine F.ok sc_law_spread.S (fun vs H Q E h => ?_) (fun cdv A outer s H vs Q E hr h => ?_)
  · obtain ⟨cell, qs, rfl, _⟩ := h
    rfl
  · obtain ⟨cell, qs, rfl, ok, k⟩ := h
    have S := sc_law_spread.sx (CX := CX0) (P := P) (w := w) (K := K) (mg := mg) (base := base) (qual := "_law_spread") (f := f) (cd := cdv) (A := A) (outer := outer) (s := s) (H := H) (E := E)
    have Sg := fun i {x} h => sc_law_spread.gx (CX := CX0) (P := P) (w := w) (K := K) (mg := mg) (base := base) (qual := "_law_spread") (f := f) (cd := cdv) (A := A) (outer := outer) (s := s) (H := H) (E := E) i (x := x) h
    have hU := hr.units
    refine ⟨_, (pss_cons (ps_st S 2 (pe_lst pa_nil))
      (pss_cons (ps_for PassesOwn.never rfl (i_enum (K := K) rfl (Sg 0 rfl) n_enumerate (pa_cons (m_split (nv S 0) (pa_cons pe_str pa_nil)) pa_nil)) (pg_tup rfl (pgs_cons (pn S 3) (pgs_cons (pn S 4) pgs_nil))) (pss_cons (ps_st S 5 (pe_op o_add (nv S 1) (pe_op o_mul3 pe_int (nv S 3))))
      (pss_cons (ps_st S 6 (pe_op o_mul3 pe_str (pe_op o_add pe_int (c_call C_law_draw (hr.mono (by decide)) (Sg 1 rfl) (pa_cons (nv S 5) (pa_cons pe_int (pa_cons pe_int pa_nil)))))))
      (pss_cons (ps_st S 7 (pe_op o_mul3 pe_str (c_call C_law_draw (hr.mono (by decide)) (Sg 1 rfl) (pa_cons (nv S 5) (pa_cons pe_int (pa_cons pe_int pa_nil))))))
      (pss_cons (ps_expr (m_append (K := K) rfl (nv S 2) (pa_cons (pe_op o_add (pe_op o_add (nv S 7) (m_join (K := K) rfl (nv S 6) (pa_cons (m_split (nv S 4) (pa_cons pe_str pa_nil)) pa_nil))) (pe_op o_mul3 pe_str (c_call C_law_draw (hr.mono (by decide)) (Sg 1 rfl) (pa_cons (nv S 1) (pa_cons pe_int (pa_cons pe_int pa_nil)))))) pa_nil)))
      (pss_one (ps_if (pt_of (o_eq4 (K := K) rfl hU) (c_call C_law_draw (hr.mono (by decide)) (Sg 1 rfl) (pa_cons (nv S 5) (pa_cons pe_int (pa_cons pe_int pa_nil)))) pe_int) (pss_one (ps_expr (m_append (K := K) rfl (nv S 2) (pa_cons (pe_op o_mul3 pe_str (c_call C_law_draw (hr.mono (by decide)) (Sg 1 rfl) (pa_cons (nv S 1) (pa_cons pe_int (pa_cons pe_int pa_nil))))) pa_nil)))) pss_nil)))))))
      (pss_one (ps_ret (m_join (K := K) rfl pe_str (pa_cons (nv S 2) pa_nil)))))), ?_⟩
    show (_ : TS) _ [some (.str (textOf qs)), some (.int cell), none, none, none, none, none, none] H
    simp only [tRet, tRetN, tCB, tCons, tNil, tSeq, tIfS, tAsg, gName, tV, x0, x1, x2, x3, tC, tOp, e_tst, e_isB, e_tru, e_truB, e_truI, e_truN, tSp, tDrop, tNext, tNot, tOr, tAnd, tIf, e_tup, e_lst, tCont, tBreak, tAug, tAugS, tAndV, tOrV, tNotV, tChain, e_dnew, gSub, ipI, tSl, tNoPart, tPart, tMk, ex_bl, ex_int, ex_int2, ex_some, e_eqI4, e_eqS4, e_neI3, e_neS3, e_i0, e_i2, e_addI, e_addS, e_addL4, e_mulI3, e_mulS, e_ix3S, e_ix3D, e_lenS, e_strI, e_intS, e_ival, e_for, e_comp, e_rg1, e_rg2, e_en, e_rg1I, e_rg2I, e_tMt, e_lm, e_lmR, e_app, e_ext, e_bmS, e_bmSS, e_split, e_part, e_sl2S, e_isi3T, e_gTup, e_gxT, e_get3D, e_set3D, gx1, tYes, frv, x4, x5, x6, x7, x8, Function.comp, if_true, x9, if_false]
    have tl := text_len ok
    have h60 : qs.length ≤ 60 := by have := ok.w.p60; unfold ptsOf at this; rw [List.length_map] at this; exact this
    refine ⟨by show 0 ≤ sizeLine; decide, alloc fun pr H1 s1 n1 g1 => ?_⟩
    refine ⟨⟨by decide +kernel, Nat.le_trans (show (textOf qs).length + 2 ≤ 1000000 by omega) (by decide)⟩, alloc fun lr H2 s2 n2 g2 => ?_⟩
    rw [show Txt.split (textOf qs) (Str.ofString "\n") = _ from text_split ok] at g2
    have nrl : lr ≠ pr := (ne_at g1 n2).symm
    refine for_E (xs := (qs.map fun q => Txt.join " " (rowOf q)).map V.str) (SqL.of g2) (fun i σ H' => Same H H' ∧ H' lr = some (.lst ((qs.map fun q => Txt.join " " (rowOf q)).map V.str)) ∧ (∃ zs, H' pr = some (.lst (zs.map V.str)) ∧ ZOk qs i zs) ∧ ∃ o3 o4 o5 o6 o7, σ = [some (.str (textOf qs)), some (.int cell), some (.ref pr), o3, o4, o5, o6, o7]) ⟨s1.trans s2, g2, ⟨[], s2 _ _ g1, ⟨Nat.le_refl _, (fun z h => by simp at h), rfl, fun z => absurd z (by decide)⟩⟩, _, _, _, _, _, rfl⟩ (fun i σ H' hi h => SqL.of h.2.1) (fun i x σ H3 hi hx h T hT => ?_) (fun σ H3 h => ?_)
    · obtain ⟨s3, l3, ⟨zs, g3, zk⟩, o3, o4, o5, o6, o7, rfl⟩ := h
      obtain ⟨r, hr, rfl⟩ := get_map hx
      obtain ⟨q, hq, rfl⟩ := get_map hr
      have hqm : q ∈ qs := List.mem_of_getElem? hq
      have hiq := (List.getElem?_eq_some_iff.mp hq).1
      have zl := zk.le
      have sT : Same H3 (upd H3 T (.tup [.int i, .str (Txt.join " " (rowOf q))])) := same_new hT
      have gT : upd H3 T (.tup [.int i, .str (Txt.join " " (rowOf q))]) T = some (.tup [.int i, .str (Txt.join " " (rowOf q))]) := upd_same
      generalize upd H3 T (.tup [.int i, .str (Txt.join " " (rowOf q))]) = H4 at sT gT
      rw [e_gTup]
      refine ⟨_, SqT.of gT, rfl, ?_⟩
      simp only [e_gCons, e_gNil, tRet, tRetN, tCB, tCons, tNil, tSeq, tIfS, tAsg, gName, tV, x0, x1, x2, x3, tC, tOp, e_tst, e_isB, e_tru, e_truB, e_truI, e_truN, tSp, tDrop, tNext, tNot, tOr, tAnd, tIf, e_tup, e_lst, tCont, tBreak, tAug, tAugS, tAndV, tOrV, tNotV, tChain, e_dnew, gSub, ipI, tSl, tNoPart, tPart, tMk, ex_bl, ex_int, ex_int2, ex_some, e_eqI4, e_eqS4, e_neI3, e_neS3, e_i0, e_i2, e_addI, e_addS, e_addL4, e_mulI3, e_mulS, e_ix3S, e_ix3D, e_lenS, e_strI, e_intS, e_ival, e_for, e_comp, e_rg1, e_rg2, e_en, e_rg1I, e_rg2I, e_tMt, e_lm, e_lmR, e_app, e_ext, e_bmS, e_bmSS, e_split, e_part, e_sl2S, e_isi3T, e_gTup, e_gxT, e_get3D, e_set3D, gx1, tYes, frv, x4, x5, x6, x7, x8, Function.comp, if_true, x9, if_false]
      refine ⟨.inl ⟨by decide, by decide⟩, ?_⟩
      refine ⟨_, 3, 7, rfl, by decide, by decide, by decide, fun d7 H5 a7 b7 s5 => ?_⟩
      simp only [tRet, tRetN, tCB, tCons, tNil, tSeq, tIfS, tAsg, gName, tV, x0, x1, x2, x3, tC, tOp, e_tst, e_isB, e_tru, e_truB, e_truI, e_truN, tSp, tDrop, tNext, tNot, tOr, tAnd, tIf, e_tup, e_lst, tCont, tBreak, tAug, tAugS, tAndV, tOrV, tNotV, tChain, e_dnew, gSub, ipI, tSl, tNoPart, tPart, tMk, ex_bl, ex_int, ex_int2, ex_some, e_eqI4, e_eqS4, e_neI3, e_neS3, e_i0, e_i2, e_addI, e_addS, e_addL4, e_mulI3, e_mulS, e_ix3S, e_ix3D, e_lenS, e_strI, e_intS, e_ival, e_for, e_comp, e_rg1, e_rg2, e_en, e_rg1I, e_rg2I, e_tMt, e_lm, e_lmR, e_app, e_ext, e_bmS, e_bmSS, e_split, e_part, e_sl2S, e_isi3T, e_gTup, e_gxT, e_get3D, e_set3D, gx1, tYes, frv, x4, x5, x6, x7, x8, Function.comp, if_true, x9, if_false]
      refine ⟨⟨by omega, by decide +kernel, by omega⟩, ?_⟩
      refine ⟨_, 3, 8, rfl, by decide, by decide, by decide, fun d8 H6 a8 b8 s6 => ?_⟩
      simp only [tRet, tRetN, tCB, tCons, tNil, tSeq, tIfS, tAsg, gName, tV, x0, x1, x2, x3, tC, tOp, e_tst, e_isB, e_tru, e_truB, e_truI, e_truN, tSp, tDrop, tNext, tNot, tOr, tAnd, tIf, e_tup, e_lst, tCont, tBreak, tAug, tAugS, tAndV, tOrV, tNotV, tChain, e_dnew, gSub, ipI, tSl, tNoPart, tPart, tMk, ex_bl, ex_int, ex_int2, ex_some, e_eqI4, e_eqS4, e_neI3, e_neS3, e_i0, e_i2, e_addI, e_addS, e_addL4, e_mulI3, e_mulS, e_ix3S, e_ix3D, e_lenS, e_strI, e_intS, e_ival, e_for, e_comp, e_rg1, e_rg2, e_en, e_rg1I, e_rg2I, e_tMt, e_lm, e_lmR, e_app, e_ext, e_bmS, e_bmSS, e_split, e_part, e_sl2S, e_isi3T, e_gTup, e_gxT, e_get3D, e_set3D, gx1, tYes, frv, x4, x5, x6, x7, x8, Function.comp, if_true, x9, if_false]
      refine ⟨⟨by omega, by decide +kernel, by omega⟩, ?_⟩
      have s36 : Same H3 H6 := (sT.trans s5).trans s6
      refine ⟨⟨_, SqL.of (s36 _ _ g3)⟩, ?_⟩
      obtain ⟨jb1, jb2⟩ := join_row_len ok hqm (sep := " ") (by decide +kernel)
      refine ⟨⟨by decide +kernel, Nat.le_trans (show (Txt.join (Str.ofString " ") (rowOf q)).length + 2 ≤ 1000000 from Nat.le_trans (Nat.add_le_add_right jb2 2) (by decide)) (by decide)⟩, alloc fun pz H7 s7 n7 g7 => ?_⟩
      rw [show Txt.split (Txt.join (Str.ofString " ") (rowOf q)) (Str.ofString " ") = _ from row_split ok hqm] at g7
      have eg := rep_sp (1 + d7) (by omega) (by omega)
      have ea := rep_sp d8 (by omega) (by omega)
      have lg := rep_len eg
      have la := rep_len ea
      rw [show (1 + d7).toNat = d7.toNat + 1 by omega] at eg
      obtain ⟨jc1, jc2⟩ := join_row_len ok hqm (sep := repS (Str.ofString " ") (1 + d7)) (by rw [show (repS (Str.ofString " ") (1 + d7)).length = _ from lg]; omega)
      have rl := row_len ok hqm
      have rg : (rowOf q).length * (repS (Str.ofString " ") (1 + d7)).length ≤ 6 * 3 := Nat.mul_le_mul rl (by rw [show (repS (Str.ofString " ") (1 + d7)).length = _ from lg]; omega)
      refine ⟨rowOf q, SqL.of g7, by omega, ?_⟩
      have la' : (repS (Str.ofString " ") d8).length ≤ 2 := by rw [show (repS (Str.ofString " ") d8).length = _ from la]; omega
      simp only [tRet, tRetN, tCB, tCons, tNil, tSeq, tIfS, tAsg, gName, tV, x0, x1, x2, x3, tC, tOp, e_tst, e_isB, e_tru, e_truB, e_truI, e_truN, tSp, tDrop, tNext, tNot, tOr, tAnd, tIf, e_tup, e_lst, tCont, tBreak, tAug, tAugS, tAndV, tOrV, tNotV, tChain, e_dnew, gSub, ipI, tSl, tNoPart, tPart, tMk, ex_bl, ex_int, ex_int2, ex_some, e_eqI4, e_eqS4, e_neI3, e_neS3, e_i0, e_i2, e_addI, e_addS, e_addL4, e_mulI3, e_mulS, e_ix3S, e_ix3D, e_lenS, e_strI, e_intS, e_ival, e_for, e_comp, e_rg1, e_rg2, e_en, e_rg1I, e_rg2I, e_tMt, e_lm, e_lmR, e_app, e_ext, e_bmS, e_bmSS, e_split, e_part, e_sl2S, e_isi3T, e_gTup, e_gxT, e_get3D, e_set3D, gx1, tYes, frv, x4, x5, x6, x7, x8, Function.comp, if_true, x9, if_false]
      refine ⟨small_size (by omega), ?_⟩
      refine ⟨_, 2, 9, rfl, by decide, by decide, by decide, fun d9 H8 a9 b9 s8 => ?_⟩
      simp only [tRet, tRetN, tCB, tCons, tNil, tSeq, tIfS, tAsg, gName, tV, x0, x1, x2, x3, tC, tOp, e_tst, e_isB, e_tru, e_truB, e_truI, e_truN, tSp, tDrop, tNext, tNot, tOr, tAnd, tIf, e_tup, e_lst, tCont, tBreak, tAug, tAugS, tAndV, tOrV, tNotV, tChain, e_dnew, gSub, ipI, tSl, tNoPart, tPart, tMk, ex_bl, ex_int, ex_int2, ex_some, e_eqI4, e_eqS4, e_neI3, e_neS3, e_i0, e_i2, e_addI, e_addS, e_addL4, e_mulI3, e_mulS, e_ix3S, e_ix3D, e_lenS, e_strI, e_intS, e_ival, e_for, e_comp, e_rg1, e_rg2, e_en, e_rg1I, e_rg2I, e_tMt, e_lm, e_lmR, e_app, e_ext, e_bmS, e_bmSS, e_split, e_part, e_sl2S, e_isi3T, e_gTup, e_gxT, e_get3D, e_set3D, gx1, tYes, frv, x4, x5, x6, x7, x8, Function.comp, if_true, x9, if_false]
      have et := rep_sp d9 (by omega) (by omega)
      have lt := rep_len et
      have lt' : (repS (Str.ofString " ") d9).length ≤ 1 := by rw [show (repS (Str.ofString " ") d9).length = _ from lt]; omega
      refine ⟨⟨by omega, by decide +kernel, by omega⟩, small_size (by rw [len_app]; omega), ?_⟩
      have s38 : Same H3 H8 := (s36.trans s7).trans s8
      have zw := words_spread (x := repS (Str.ofString " ") d8) (g := repS (Str.ofString " ") (1 + d7)) (y := repS (Str.ofString " ") d9) (ws := rowOf q) ea eg et fun w hw => ⟨(row_wd ok hqm w hw).ne, (row_wd ok hqm w hw).sp⟩
      have zn : 10 ∉ ls (repS (Str.ofString " ") d8 ++ Txt.join (repS (Str.ofString " ") (1 + d7)) (rowOf q) ++ repS (Str.ofString " ") d9) := by
        rw [ls_app, ls_app]
        intro z
        rcases List.mem_append.mp z with z | z
        · rcases List.mem_append.mp z with z | z
          · exact rep_no ea z
          · exact join_no (rep_no eg) (fun w hw => (row_wd ok hqm w hw).nl) z
        · exact rep_no et z
      have zlen : (repS (Str.ofString " ") d8 ++ Txt.join (repS (Str.ofString " ") (1 + d7)) (rowOf q) ++ repS (Str.ofString " ") d9).length ≤ 200 := by
        rw [len_app, len_app]; omega
      generalize repS (Str.ofString " ") d8 ++ Txt.join (repS (Str.ofString " ") (1 + d7)) (rowOf q) ++ repS (Str.ofString " ") d9 = zz at zw zn zlen
      obtain ⟨zk1, zk2⟩ := zk.row hq zw zn zlen
      refine ⟨_, s38 _ _ g3, small_lt (by rw [List.length_map]; omega), ?_⟩
      have e9 : zs.map V.str ++ [.str zz] = (zs ++ [zz]).map V.str := by rw [List.map_append]; rfl
      rw [e9]
      have s9 : Same H (upd H8 pr (.lst ((zs ++ [zz]).map V.str))) := (s3.trans s38).upd_free n1
      have g9 : upd H8 pr (.lst ((zs ++ [zz]).map V.str)) pr = some (.lst ((zs ++ [zz]).map V.str)) := upd_same
      have l9 : upd H8 pr (.lst ((zs ++ [zz]).map V.str)) lr = some (.lst ((qs.map fun q => Txt.join " " (rowOf q)).map V.str)) := upd_at (s38 _ _ l3) nrl
      generalize upd H8 pr (.lst ((zs ++ [zz]).map V.str)) = H9 at s9 g9 l9
      refine ⟨_, 4, 10, rfl, by decide, by decide, by decide, fun d10 HA a10 b10 sA => ?_⟩
      simp only [tRet, tRetN, tCB, tCons, tNil, tSeq, tIfS, tAsg, gName, tV, x0, x1, x2, x3, tC, tOp, e_tst, e_isB, e_tru, e_truB, e_truI, e_truN, tSp, tDrop, tNext, tNot, tOr, tAnd, tIf, e_tup, e_lst, tCont, tBreak, tAug, tAugS, tAndV, tOrV, tNotV, tChain, e_dnew, gSub, ipI, tSl, tNoPart, tPart, tMk, ex_bl, ex_int, ex_int2, ex_some, e_eqI4, e_eqS4, e_neI3, e_neS3, e_i0, e_i2, e_addI, e_addS, e_addL4, e_mulI3, e_mulS, e_ix3S, e_ix3D, e_lenS, e_strI, e_intS, e_ival, e_for, e_comp, e_rg1, e_rg2, e_en, e_rg1I, e_rg2I, e_tMt, e_lm, e_lmR, e_app, e_ext, e_bmS, e_bmSS, e_split, e_part, e_sl2S, e_isi3T, e_gTup, e_gxT, e_get3D, e_set3D, gx1, tYes, frv, x4, x5, x6, x7, x8, Function.comp, if_true, x9, if_false]
      refine ite2 (fun h0 => ?_) (fun h0 => ?_)
      · refine ⟨⟨_, SqL.of (sA _ _ g9)⟩, ?_⟩
        refine ⟨_, 4, 11, rfl, by decide, by decide, by decide, fun d11 HB a11 b11 sB => ?_⟩
        simp only [tRet, tRetN, tCB, tCons, tNil, tSeq, tIfS, tAsg, gName, tV, x0, x1, x2, x3, tC, tOp, e_tst, e_isB, e_tru, e_truB, e_truI, e_truN, tSp, tDrop, tNext, tNot, tOr, tAnd, tIf, e_tup, e_lst, tCont, tBreak, tAug, tAugS, tAndV, tOrV, tNotV, tChain, e_dnew, gSub, ipI, tSl, tNoPart, tPart, tMk, ex_bl, ex_int, ex_int2, ex_some, e_eqI4, e_eqS4, e_neI3, e_neS3, e_i0, e_i2, e_addI, e_addS, e_addL4, e_mulI3, e_mulS, e_ix3S, e_ix3D, e_lenS, e_strI, e_intS, e_ival, e_for, e_comp, e_rg1, e_rg2, e_en, e_rg1I, e_rg2I, e_tMt, e_lm, e_lmR, e_app, e_ext, e_bmS, e_bmSS, e_split, e_part, e_sl2S, e_isi3T, e_gTup, e_gxT, e_get3D, e_set3D, gx1, tYes, frv, x4, x5, x6, x7, x8, Function.comp, if_true, x9, if_false]
        have eb := rep_sp d11 (by omega) (by omega)
        have lb := rep_len eb
        have lb' : (repS (Str.ofString " ") d11).length ≤ 200 := by rw [show (repS (Str.ofString " ") d11).length = _ from lb]; omega
        refine ⟨⟨by omega, by decide +kernel, by omega⟩, _, (sA.trans sB) _ _ g9, small_lt (by rw [List.length_map]; omega), ?_⟩
        refine ⟨(s9.trans (sA.trans sB)).upd_free n1, upd_at ((sA.trans sB) _ _ l9) nrl, ⟨zs ++ [zz] ++ [repS (Str.ofString " ") d11], by rw [upd_same, List.map_append (l₁ := zs ++ [zz])]; rfl, zk1.blank (by omega) (words_blank eb) (rep_no eb) lb'⟩, _, _, _, _, _, rfl⟩
      · exact ⟨s9.trans sA, sA _ _ l9, ⟨_, sA _ _ g9, zk1⟩, _, _, _, _, _, rfl⟩
    obtain ⟨s3, l3, ⟨zs, g3, zk⟩, o3, o4, o5, o6, o7, rfl⟩ := h
    rw [List.length_map, List.length_map] at zk
    have q1 : 0 < qs.length := List.length_pos_iff.mpr (qs_ne ok)
    simp only [tRet, tRetN, tCB, tCons, tNil, tSeq, tIfS, tAsg, gName, tV, x0, x1, x2, x3, tC, tOp, e_tst, e_isB, e_tru, e_truB, e_truI, e_truN, tSp, tDrop, tNext, tNot, tOr, tAnd, tIf, e_tup, e_lst, tCont, tBreak, tAug, tAugS, tAndV, tOrV, tNotV, tChain, e_dnew, gSub, ipI, tSl, tNoPart, tPart, tMk, ex_bl, ex_int, ex_int2, ex_some, e_eqI4, e_eqS4, e_neI3, e_neS3, e_i0, e_i2, e_addI, e_addS, e_addL4, e_mulI3, e_mulS, e_ix3S, e_ix3D, e_lenS, e_strI, e_intS, e_ival, e_for, e_comp, e_rg1, e_rg2, e_en, e_rg1I, e_rg2I, e_tMt, e_lm, e_lmR, e_app, e_ext, e_bmS, e_bmSS, e_split, e_part, e_sl2S, e_isi3T, e_gTup, e_gxT, e_get3D, e_set3D, gx1, tYes, frv, x4, x5, x6, x7, x8, Function.comp, if_true, x9, if_false]
    have zsum : (zs.map (·.length)).sum ≤ (zs.map (·.length)).length * 200 := sum_le fun x hx => by
      obtain ⟨w, hw, rfl⟩ := List.mem_map.mp hx
      exact (zk.no w hw).2
    rw [List.length_map] at zsum
    have zl := zk.le
    have jl := join_len "\n" zs
    have e1 : ("\n" : Str).length = 1 := by decide +kernel
    rw [e1] at jl
    refine ⟨zs, SqL.of g3, by rw [show (Str.ofString "\n").length = 1 from e1]; omega, k _ H3 ?_ (Nat.le_trans jl (by omega)) s3⟩
    rw [rows_join (zk.ne q1) fun z hz => (zk.no z hz).1, zk.rows, List.take_length]
end
end K2
end
section
set_option maxRecDepth 100000
set_option maxHeartbeats 4000000
set_option linter.all false
namespace K2
open PySem L2
open TX
seal L2.PE L2.PS L2.PSs L2.PT L2.PA L2.PG L2.PI L2.PW
theorem kit_refl (K : PySem.W.Frag) (n : String) : PySem.W.kitOne K (.type n) (.type n) = some true := by
  unfold PySem.W.kitOne
  rw [if_pos (by simp)]
def ldata (l : Ln) : PyData := .tuple [.str l.1, .str l.2.1, .int l.2.2]
theorem dvs_rows {K : PySem.W.Frag} {H : Hp} : ∀ {lv : List V} {lns : List Ln}, Tups H lv (lns.map lrow) → DVs K H lv (lns.map ldata)
  | [], [], _ => .nil
  | [], _ :: _, t => absurd t.1 (by simp)
  | _ :: _, [], t => absurd t.1 (by simp)
  | v :: lv, l :: lns, t => by
    obtain ⟨p, e, g⟩ := t.2 0 (lrow l) rfl
    cases e
    refine .cons (.tup (SqT.of g) (.cons (.str _) (.cons (.str _) (.cons (.int _) .nil)))) (dvs_rows ⟨Nat.succ.inj t.1, fun i row hr => t.2 (i + 1) row hr⟩)
theorem strOk_name {z : Str} (h : isName z = true) : PyData.strOk z = true := by
  have hs : ∀ c ∈ nameSigns.cps.toList, c < 1114112 := by decide +kernel
  unfold PyData.strOk
  rw [← Array.all_toList, List.all_eq_true]
  intro c hc
  exact decide_eq_true (hs c ((isName_of h).2.2 c hc))
theorem lay_strs : ∀ {l : List Str}, (∀ z ∈ l, PyData.strOk z = true) → PyData.canLayAll0 (l.map PyData.str) = true
  | [], _ => rfl
  | a :: r, h => by
    rw [List.map_cons, PyData.canLayAll0.eq_2, PyData.canLay0.eq_4, h a (by simp), lay_strs fun z hz => h z (by simp [hz])]
    rfl
theorem depth_strs : ∀ (l : List Str), PyData.depthAll (l.map PyData.str) = 0
  | [] => rfl
  | a :: r => by rw [List.map_cons, PyData.depthAll.eq_2, depth_strs r, PyData.depth.eq_7]; rfl
theorem sh_strs {l : List Str} (h : ∀ z ∈ l, PyData.strOk z = true) : SeqAt.shaped (.list (l.map PyData.str)) = true ∧ (PyData.list (l.map PyData.str)).eqv (.list (l.map PyData.str)) = true := by
  have e : (PyData.list (l.map PyData.str)).canLay0 = true := by rw [PyData.canLay0.eq_5]; exact lay_strs h
  refine ⟨?_, SeqAt.eqv_refl _ e⟩
  unfold SeqAt.shaped
  rw [e, PyData.depth.eq_1, depth_strs]
  rfl
theorem lay_rows : ∀ {l : List Ln}, (∀ x ∈ l, PyData.strOk x.1 = true ∧ PyData.strOk x.2.1 = true) → PyData.canLayAll0 (l.map ldata) = true
  | [], _ => rfl
  | a :: r, h => by
    obtain ⟨h1, h2⟩ := h a (by simp)
    rw [List.map_cons, PyData.canLayAll0.eq_2, lay_rows fun z hz => h z (by simp [hz])]
    unfold ldata
    rw [PyData.canLay0.eq_6, PyData.canLayAll0.eq_2, PyData.canLayAll0.eq_2, PyData.canLayAll0.eq_2, PyData.canLayAll0.eq_1, PyData.canLay0.eq_4, PyData.canLay0.eq_4, PyData.canLay0.eq_3, h1, h2]
    rfl
theorem depth_rows : ∀ (l : List Ln), PyData.depthAll (l.map ldata) ≤ 1
  | [] => by rw [List.map_nil, PyData.depthAll.eq_1]; decide
  | a :: r => by
    have ih := depth_rows r
    have e : (ldata a).depth = 1 := by
      unfold ldata
      rw [PyData.depth.eq_2, PyData.depthAll.eq_2, PyData.depthAll.eq_2, PyData.depthAll.eq_2, PyData.depthAll.eq_1, PyData.depth.eq_7, PyData.depth.eq_7, PyData.depth.eq_6]
      rfl
    rw [List.map_cons, PyData.depthAll.eq_2, e]
    omega
theorem sh_rows {l : List Ln} (h : ∀ x ∈ l, PyData.strOk x.1 = true ∧ PyData.strOk x.2.1 = true) : SeqAt.shaped (.list (l.map ldata)) = true ∧ (PyData.list (l.map ldata)).eqv (.list (l.map ldata)) = true := by
  have e : (PyData.list (l.map ldata)).canLay0 = true := by rw [PyData.canLay0.eq_5]; exact lay_rows h
  refine ⟨?_, SeqAt.eqv_refl _ e⟩
  have := depth_rows l
  unfold SeqAt.shaped
  rw [e, PyData.depth.eq_1, Bool.true_and]
  exact decide_eq_true (by omega)
def spRight (c : Cs) (cW : Addr) : Sp := fun vs H Q _ => ∃ (q a : Addr) (parts : List LP), vs = [.ref q, .ref a] ∧ LOk parts ∧ PartsAt H a parts ∧ WorksAt c cW H q (ptsOf (toPts parts)) (lnsOf (toPts parts)) ∧ ∀ H', Same H H' → Q (.bl true) H'
section
variable {P : Program} {w : World} {K : PySem.W.Frag} {mg : Str → Option Value} {base : Heap} {c : Cs} {cW : Addr}
abbrev s_law_right : Stmt := top 54
theorem sc_law_right : FnSc ["_law_works_here", "_law_parts", "_law_names", "_law_told", "_law_lines_here", "_law_due", "_law_part", "_law_time"] ["_law_works_here", "_law_parts"] ["len", "isinstance", "int", "list", "_law_lines"] (defScope s_law_right) := ⟨⟨rfl, rfl, rfl, by decide +kernel, rfl, by decide +kernel, by decide +kernel⟩, by decide +kernel, by decide +kernel, by decide +kernel⟩
theorem cs_law_right_0 : CompSc ["_law_one"] ["_law_names"] (scopeOf (kidS (bodyAt (top 54) 5) 0)) (defScope s_law_right) := ⟨rfl, by decide +kernel, by decide +kernel, by decide +kernel, by decide +kernel, by decide +kernel, by decide +kernel⟩
theorem cn_law_right_0 : ∀ x ∈ ((["_law_one"] : List Str) ++ (["_law_names"] : List Str)), (x == ("__debug__" : Str)) = false ∧ (x == ("__classdict__" : Str)) = false := by decide +kernel
theorem cs_law_right_1 : CompSc ["_law_part"] [] (scopeOf (kidS (bodyAt (top 54) 0) 0)) (defScope s_law_right) := ⟨rfl, by decide +kernel, by decide +kernel, by decide +kernel, by decide +kernel, by decide +kernel, by decide +kernel⟩
theorem cn_law_right_1 : ∀ x ∈ ((["_law_part"] : List Str) ++ ([] : List Str)), (x == ("__debug__" : Str)) = false ∧ (x == ("__classdict__" : Str)) = false := by decide +kernel
theorem ok_law_right {f : Addr} {fd : FuncData} (F : Fun K "_law_right" "_law_right" s_law_right f fd) (kc : KC P w K mg base c) (mN : M_names P w K mg base cW (spWNames c cW)) (mL : M_lines P w K mg base cW (spWLines c cW)) (mK : M_kind P w K mg base cW (spWKind c cW)) (mT : M_time P w K mg base cW (spWTime c cW)) (C_law_lines : Cal P w K mg base 1 "_law_lines" ["_law_parts"] spLines) (n_isinstance : mg "isinstance" = none) (n_list : mg "list" = none) (n_int : mg "int" = none) (n_len : mg "len" = none) : FnOk P w K mg base CX0 2 f fd ["_law_works_here", "_law_parts"] (spRight c cW) := by
  refine F.ok sc_law_right.S (fun vs H Q E h => ?_) (fun cdv A outer s H vs Q E hr h => ?_)
  · obtain ⟨q, a, parts, rfl, _⟩ := h
    rfl
  · obtain ⟨q, a, parts, rfl, ok, hP, hW, k⟩ := h
    have S := sc_law_right.sx (CX := CX0) (P := P) (w := w) (K := K) (mg := mg) (base := base) (qual := "_law_right") (f := f) (cd := cdv) (A := A) (outer := outer) (s := s) (H := H) (E := E)
    have Sg := fun i {x} h => sc_law_right.gx (CX := CX0) (P := P) (w := w) (K := K) (mg := mg) (base := base) (qual := "_law_right") (f := f) (cd := cdv) (A := A) (outer := outer) (s := s) (H := H) (E := E) i (x := x) h
    have hU := hr.units
    have S0 : CompSc ["_law_one"] ["_law_names"] (scopeOf (kidS (bodyAt (top 54) 5) 0)) (cxOf CX0 P w K mg base ["_law_works_here", "_law_parts", "_law_names", "_law_told", "_law_lines_here", "_law_due", "_law_part", "_law_time"] "_law_right" (defScope s_law_right) f cdv A outer s H E).nox.env.scope := cs_law_right_0
    have K0 := fun C s₀ H₀ ex => S0.sx (C := C) (s₀ := s₀) (H₀ := H₀) (ex := ex) rfl cn_law_right_0
    have S1 : CompSc ["_law_part"] [] (scopeOf (kidS (bodyAt (top 54) 0) 0)) (cxOf CX0 P w K mg base ["_law_works_here", "_law_parts", "_law_names", "_law_told", "_law_lines_here", "_law_due", "_law_part", "_law_time"] "_law_right" (defScope s_law_right) f cdv A outer s H E).nox.env.scope := cs_law_right_1
    have K1 := fun C s₀ H₀ ex => S1.sx (C := C) (s₀ := s₀) (H₀ := H₀) (ex := ex) rfl cn_law_right_1
    refine ⟨_, (pss_cons (ps_st S 2 (pe_cp S1 (js := []) rfl rfl (i_val (K := K) rfl (nv S 1)) (pg1 S1) (fun C s₀ H₀ ex => pts_nil) (fun C s₀ H₀ ex => (pe_ix (o_ix3 (K := K) rfl hU) (nv (K1 C s₀ H₀ ex) 0) pe_int (fun _ _ => rfl)))))
      (pss_cons (ps_st S 3 (m_call0 1 (hr.mono (by decide)) (MS := M_names P w K mg base) (fun _ _ h => h) (nv S 0)))
      (pss_cons (ps_if (PW.pt (pw_or (pt_not (pt_tr (K := K) rfl (k_isinstance3 (K := K) rfl (Sg 1 rfl) n_isinstance (pa_cons (nv S 3) (pa_cons (g_ty (Sg 3 rfl) n_list bb_list) pa_nil))))) (pw_or1 (pt_of (o_ne3 (K := K) rfl hU) (nv S 3) (nv S 2))))) (pss_one (ps_ret pe_bl)) pss_nil)
      (pss_cons (ps_expr (m_append (K := K) rfl (nv S 3) (pa_cons pe_str pa_nil)))
      (pss_cons (ps_st S 4 (m_call0 1 (hr.mono (by decide)) (MS := M_lines P w K mg base) (fun _ _ h => h) (nv S 0)))
      (pss_cons (ps_cp S 5 S0 (js := [2]) rfl rfl (i_val (K := K) rfl (c_call C_law_lines (hr.mono (by decide)) (Sg 4 rfl) (pa_cons (nv S 1) pa_nil))) (pg1 S0) (fun C s₀ H₀ ex => pts_nil) (fun C s₀ H₀ ex => (pe_tup (pa_cons (pe_ix (o_ix3 (K := K) rfl hU) (nv (K0 C s₀ H₀ ex) 1) (pe_ix (o_ix3 (K := K) rfl hU) (nv (K0 C s₀ H₀ ex) 0) pe_int (fun _ _ => rfl)) (fun _ _ => rfl)) (pa_cons (pe_ix (o_ix3 (K := K) rfl hU) (nv (K0 C s₀ H₀ ex) 1) (pe_ix (o_ix3 (K := K) rfl hU) (nv (K0 C s₀ H₀ ex) 0) pe_int (fun _ _ => rfl)) (fun _ _ => rfl)) (pa_cons (pe_ix (o_ix3 (K := K) rfl hU) (nv (K0 C s₀ H₀ ex) 0) pe_int (fun _ _ => rfl)) pa_nil))))))
      (pss_cons (ps_if (PW.pt (pw_or (pt_not (pt_tr (K := K) rfl (k_isinstance3 (K := K) rfl (Sg 1 rfl) n_isinstance (pa_cons (nv S 4) (pa_cons (g_ty (Sg 3 rfl) n_list bb_list) pa_nil))))) (pw_or1 (pt_of (o_ne3 (K := K) rfl hU) (nv S 4) (nv S 5))))) (pss_one (ps_ret pe_bl)) pss_nil)
      (pss_cons (ps_expr (m_append (K := K) rfl (nv S 4) (pa_cons (pe_tup (pa_cons pe_str (pa_cons pe_str (pa_cons pe_int pa_nil)))) pa_nil)))
      (pss_cons (ps_for PassesOwn.never rfl (i_val (K := K) rfl (nv S 1)) (pn S 6) (pss_cons (ps_st S 7 (m_call 1 (hr.mono (by decide)) (MS := M_time P w K mg base) (fun _ _ h => h) (nv S 0) (pa_cons (pe_ix (o_ix3 (K := K) rfl hU) (nv S 6) pe_int (fun _ _ => rfl)) pa_nil)))
      (pss_one (ps_if (PW.pt (pw_or (pt_of (o_ne3 (K := K) rfl hU) (m_call0 1 (hr.mono (by decide)) (MS := M_word P w K mg base) (fun _ _ h => h) (m_call 1 (hr.mono (by decide)) (MS := M_kind P w K mg base) (fun _ _ h => h) (nv S 0) (pa_cons (pe_ix (o_ix3 (K := K) rfl hU) (nv S 6) pe_int (fun _ _ => rfl)) pa_nil))) (pe_ix (o_ix3 (K := K) rfl hU) (nv S 6) pe_int (fun _ _ => rfl))) (pw_or (pt_not (pt_tr (K := K) rfl (k_isinstance3 (K := K) rfl (Sg 1 rfl) n_isinstance (pa_cons (nv S 7) (pa_cons (g_ty (Sg 2 rfl) n_int bb_int) pa_nil))))) (pw_or1 (pt_of (o_ne3 (K := K) rfl hU) (nv S 7) (pe_ix (o_ix3 (K := K) rfl hU) (nv S 6) pe_int (fun _ _ => rfl))))))) (pss_one (ps_ret pe_bl)) pss_nil))))
      (pss_one (ps_ret (pe_and (pe_of (o_eq4 (K := K) rfl hU) (m_call0 1 (hr.mono (by decide)) (MS := M_names P w K mg base) (fun _ _ h => h) (nv S 0)) (nv S 2)) (pe_one (pe_of (o_eq4 (K := K) rfl hU) (k_len (K := K) rfl (Sg 0 rfl) n_len (pa_cons (m_call0 1 (hr.mono (by decide)) (MS := M_lines P w K mg base) (fun _ _ h => h) (nv S 0)) pa_nil)) (pe_op o_sub (k_len (K := K) rfl (Sg 0 rfl) n_len (pa_cons (nv S 4) pa_nil)) pe_int))))))))))))))), ?_⟩
    show (_ : TS) _ [some (.ref q), some (.ref a), none, none, none, none, none, none] H
    simp only [tRet, tRetN, tCB, tCons, tNil, tSeq, tIfS, tAsg, gName, tV, x0, x1, x2, x3, tC, tOp, e_tst, e_isB, e_tru, e_truB, e_truI, e_truN, tSp, tDrop, tNext, tNot, tOr, tAnd, tIf, e_tup, e_lst, tCont, tBreak, tAug, tAugS, tAndV, tOrV, tNotV, tChain, e_dnew, gSub, ipI, tSl, tNoPart, tPart, tMk, ex_bl, ex_int, ex_int2, ex_some, e_eqI4, e_eqS4, e_neI3, e_neS3, e_i0, e_i2, e_addI, e_addS, e_addL4, e_mulI3, e_mulS, e_ix3S, e_ix3D, e_lenS, e_strI, e_intS, e_ival, e_for, e_comp, e_rg1, e_rg2, e_en, e_rg1I, e_rg2I, e_tMt, e_lm, e_lmR, e_app, e_ext, e_bmS, e_bmSS, e_split, e_part, e_sl2S, e_isi3T, e_gTup, e_gxT, e_get3D, e_set3D, gx1, tYes, frv, x4, x5, x6, x7, x8, Function.comp, if_true, x9, if_false]
    obtain ⟨vs, g0, vl, hat, hpt⟩ := hP.at
    have n60 := ok.n60
    have rk := rok ok
    have llen : (lnsOf (toPts parts)).length ≤ 1000 := rk.w.ll
    refine comp_L (xs := vs) (SqL.of g0) (fun i ys H' => H' = H ∧ ys = ((parts.take i).map fun x => x.p.name).map V.str) ⟨rfl, rfl⟩ (small_size (by omega)) (fun i ys H' hi h => ?_) (fun i ys H' hi h => by rw [h.1]; exact SqL.of g0) (fun i v ys H1 hi hv h => ?_) (fun ys H1 h => ?_)
    · rw [h.2, List.length_map, List.length_map, List.length_take]
      exact Nat.min_le_left _ _
    · obtain ⟨rfl, rfl⟩ := h
      obtain ⟨x, hx, ta, tf, fv, rfl, h1, h2, h3⟩ := hat i v hv
      simp only [tRet, tRetN, tCB, tCons, tNil, tSeq, tIfS, tAsg, gName, tV, x0, x1, x2, x3, tC, tOp, e_tst, e_isB, e_tru, e_truB, e_truI, e_truN, tSp, tDrop, tNext, tNot, tOr, tAnd, tIf, e_tup, e_lst, tCont, tBreak, tAug, tAugS, tAndV, tOrV, tNotV, tChain, e_dnew, gSub, ipI, tSl, tNoPart, tPart, tMk, ex_bl, ex_int, ex_int2, ex_some, e_eqI4, e_eqS4, e_neI3, e_neS3, e_i0, e_i2, e_addI, e_addS, e_addL4, e_mulI3, e_mulS, e_ix3S, e_ix3D, e_lenS, e_strI, e_intS, e_ival, e_for, e_comp, e_rg1, e_rg2, e_en, e_rg1I, e_rg2I, e_tMt, e_lm, e_lmR, e_app, e_ext, e_bmS, e_bmSS, e_split, e_part, e_sl2S, e_isi3T, e_gTup, e_gxT, e_get3D, e_set3D, gx1, tYes, frv, x4, x5, x6, x7, x8, Function.comp, if_true, x9, if_false]
      refine ix_T h1 (atI_nat (j := 0) rfl) ?_
      rw [take_get hx, List.map_append, List.map_append]
      exact ⟨rfl, rfl⟩
    obtain ⟨rfl, rfl⟩ := h
    rw [vl, List.take_length]
    have ens : (parts.map fun x => x.p.name) = nms (ptsOf (toPts parts)) := (nms_to parts).symm
    rw [ens]
    have nsOk : ∀ z ∈ nms (ptsOf (toPts parts)), PyData.strOk z = true := fun z hz => by
      obtain ⟨p, hp, rfl⟩ := List.mem_map.mp hz
      exact strOk_name (rk.w.nm p hp)
    have lsOk : ∀ l ∈ lnsOf (toPts parts), PyData.strOk l.1 = true ∧ PyData.strOk l.2.1 = true := fun l hl => by
      obtain ⟨p, hp, e, _⟩ := rk.w.frm l hl
      exact ⟨by rw [← e]; exact strOk_name (rk.w.nm p hp), nsOk _ (rk.w.to l hl)⟩
    obtain ⟨shN, eqN⟩ := sh_strs nsOk
    obtain ⟨shL, eqL⟩ := sh_rows lsOk
    refine alloc fun pn H2 s2 n2 g2 => ?_
    refine mt_names (hW.mono s2) mN fun pt H3 s3 n3 g3 => ?_
    refine ⟨_, _, .lst g3, kit_refl K "list", ?_⟩
    simp only [tRet, tRetN, tCB, tCons, tNil, tSeq, tIfS, tAsg, gName, tV, x0, x1, x2, x3, tC, tOp, e_tst, e_isB, e_tru, e_truB, e_truI, e_truN, tSp, tDrop, tNext, tNot, tOr, tAnd, tIf, e_tup, e_lst, tCont, tBreak, tAug, tAugS, tAndV, tOrV, tNotV, tChain, e_dnew, gSub, ipI, tSl, tNoPart, tPart, tMk, ex_bl, ex_int, ex_int2, ex_some, e_eqI4, e_eqS4, e_neI3, e_neS3, e_i0, e_i2, e_addI, e_addS, e_addL4, e_mulI3, e_mulS, e_ix3S, e_ix3D, e_lenS, e_strI, e_intS, e_ival, e_for, e_comp, e_rg1, e_rg2, e_en, e_rg1I, e_rg2I, e_tMt, e_lm, e_lmR, e_app, e_ext, e_bmS, e_bmSS, e_split, e_part, e_sl2S, e_isi3T, e_gTup, e_gxT, e_get3D, e_set3D, gx1, tYes, frv, x4, x5, x6, x7, x8, Function.comp, if_true, x9, if_false]
    rw [if_neg (by decide), e_neL3]
    refine ⟨_, _, dv_strs g3, dv_strs (s3 _ _ g2), ⟨shN, shN⟩, ?_⟩
    rw [eqN]
    simp only [tRet, tRetN, tCB, tCons, tNil, tSeq, tIfS, tAsg, gName, tV, x0, x1, x2, x3, tC, tOp, e_tst, e_isB, e_tru, e_truB, e_truI, e_truN, tSp, tDrop, tNext, tNot, tOr, tAnd, tIf, e_tup, e_lst, tCont, tBreak, tAug, tAugS, tAndV, tOrV, tNotV, tChain, e_dnew, gSub, ipI, tSl, tNoPart, tPart, tMk, ex_bl, ex_int, ex_int2, ex_some, e_eqI4, e_eqS4, e_neI3, e_neS3, e_i0, e_i2, e_addI, e_addS, e_addL4, e_mulI3, e_mulS, e_ix3S, e_ix3D, e_lenS, e_strI, e_intS, e_ival, e_for, e_comp, e_rg1, e_rg2, e_en, e_rg1I, e_rg2I, e_tMt, e_lm, e_lmR, e_app, e_ext, e_bmS, e_bmSS, e_split, e_part, e_sl2S, e_isi3T, e_gTup, e_gxT, e_get3D, e_set3D, gx1, tYes, frv, x4, x5, x6, x7, x8, Function.comp, if_true, x9, if_false]
    rw [if_neg (by decide)]
    have nl60 : (nms (ptsOf (toPts parts))).length ≤ 60 := by rw [List.length_map]; exact rk.w.p60
    refine ⟨⟨_, SqL.of g3⟩, _, g3, small_lt (by rw [List.length_map]; omega), ?_⟩
    have s4 : Same H2 (upd H3 pt (.lst ((nms (ptsOf (toPts parts))).map V.str ++ [.str (Str.ofString "a")]))) := s3.upd_free n3
    generalize upd H3 pt (.lst ((nms (ptsOf (toPts parts))).map V.str ++ [.str (Str.ofString "a")])) = H4 at s4
    refine mt_lines (hW.mono (s2.trans s4)) mL fun pl lv H5 s5 n5 g5 t5 => ?_
    have lvl : lv.length = (lnsOf (toPts parts)).length := by rw [t5.1, List.length_map]
    have s25 := s4.trans s5
    refine ⟨a, parts, rfl, ok, hP.mono (s2.trans s25), fun p6 l6 H6 s6 n6 g6 t6 => ?_⟩
    have l6l : l6.length = (llOf 0 parts).length := by rw [t6.1, List.length_map]
    have ll180 := line_len ok
    have gn6 := (s25.trans s6) _ _ g2
    refine comp_L (xs := l6) (SqL.of g6) (fun i ys H' => Same H6 H' ∧ ys.length ≤ i ∧ Tups H' ys ((((llOf 0 parts).take i).map fun e => ((nameAt parts e.1, nameAt parts e.2.1, e.2.2) : Ln)).map lrow)) ⟨Same.rfl', Nat.le_refl _, Tups.nil⟩ (small_size (by omega)) (fun i ys H' hi h => h.2.1) (fun i ys H' hi h => SqL.of (h.1 _ _ g6)) (fun i u ys H7 hi hu h => ?_) (fun ys H7 h => ?_)
    · obtain ⟨s7, yl, ty⟩ := h
      obtain ⟨p7, row, rfl, hr, hp7⟩ := (t6.fix s7.fix).at hu
      obtain ⟨e, he, rfl⟩ := get_map hr
      simp only [llrow] at hp7
      obtain ⟨j, x, hx, ej, hf⟩ := ll_mem (parts := parts) 0 parts (List.mem_of_getElem? he)
      rw [Nat.zero_add] at ej
      obtain ⟨⟨y, hy, _⟩, _⟩ := ok.fd j x hx _ hf
      have hn1 : ((nms (ptsOf (toPts parts))).map V.str)[e.1]? = some (.str (nameAt parts e.1)) := by
        rw [← ens, List.getElem?_map, List.getElem?_map, hy, nameAt_of hy]; rfl
      have hn2 : ((nms (ptsOf (toPts parts))).map V.str)[e.2.1]? = some (.str (nameAt parts e.2.1)) := by
        rw [← ens, List.getElem?_map, List.getElem?_map, ej, hx, nameAt_of hx]; rfl
      simp only [tRet, tRetN, tCB, tCons, tNil, tSeq, tIfS, tAsg, gName, tV, x0, x1, x2, x3, tC, tOp, e_tst, e_isB, e_tru, e_truB, e_truI, e_truN, tSp, tDrop, tNext, tNot, tOr, tAnd, tIf, e_tup, e_lst, tCont, tBreak, tAug, tAugS, tAndV, tOrV, tNotV, tChain, e_dnew, gSub, ipI, tSl, tNoPart, tPart, tMk, ex_bl, ex_int, ex_int2, ex_some, e_eqI4, e_eqS4, e_neI3, e_neS3, e_i0, e_i2, e_addI, e_addS, e_addL4, e_mulI3, e_mulS, e_ix3S, e_ix3D, e_lenS, e_strI, e_intS, e_ival, e_for, e_comp, e_rg1, e_rg2, e_en, e_rg1I, e_rg2I, e_tMt, e_lm, e_lmR, e_app, e_ext, e_bmS, e_bmSS, e_split, e_part, e_sl2S, e_isi3T, e_gTup, e_gxT, e_get3D, e_set3D, gx1, tYes, frv, x4, x5, x6, x7, x8, Function.comp, if_true, x9, if_false]
      refine ix_T hp7 (atI_nat (j := 0) rfl) ?_
      refine ix_L (s7 _ _ gn6) (atI_nat hn1) ?_
      refine ix_T hp7 (atI_nat (j := 1) rfl) ?_
      refine ix_L (s7 _ _ gn6) (atI_nat hn2) ?_
      refine ix_T hp7 (atI_nat (j := 2) rfl) ?_
      refine ⟨by show 3 ≤ sizeLine; decide, alloc fun t8 H8 s8 n8 g8 => ⟨s7.trans s8, by rw [List.length_append]; exact Nat.succ_le_succ yl, ?_⟩⟩
      rw [take_get he, List.map_append, List.map_append]
      exact (ty.fix s8.fix).snoc g8
    obtain ⟨s7, yl, ty⟩ := h
    rw [l6l, List.take_length, ll_lns'] at ty
    refine alloc fun pd H8 s8 n8 g8 => ?_
    have s58 : Same H5 H8 := (s6.trans s7).trans s8
    have t58 := t5.fix s58.fix
    have tyd := ty.fix s8.fix
    refine ⟨_, _, .lst (s58 _ _ g5), kit_refl K "list", ?_⟩
    simp only [tRet, tRetN, tCB, tCons, tNil, tSeq, tIfS, tAsg, gName, tV, x0, x1, x2, x3, tC, tOp, e_tst, e_isB, e_tru, e_truB, e_truI, e_truN, tSp, tDrop, tNext, tNot, tOr, tAnd, tIf, e_tup, e_lst, tCont, tBreak, tAug, tAugS, tAndV, tOrV, tNotV, tChain, e_dnew, gSub, ipI, tSl, tNoPart, tPart, tMk, ex_bl, ex_int, ex_int2, ex_some, e_eqI4, e_eqS4, e_neI3, e_neS3, e_i0, e_i2, e_addI, e_addS, e_addL4, e_mulI3, e_mulS, e_ix3S, e_ix3D, e_lenS, e_strI, e_intS, e_ival, e_for, e_comp, e_rg1, e_rg2, e_en, e_rg1I, e_rg2I, e_tMt, e_lm, e_lmR, e_app, e_ext, e_bmS, e_bmSS, e_split, e_part, e_sl2S, e_isi3T, e_gTup, e_gxT, e_get3D, e_set3D, gx1, tYes, frv, x4, x5, x6, x7, x8, Function.comp, if_true, x9, if_false]
    rw [if_neg (by decide), e_neL3]
    refine ⟨_, _, .lst (SqL.of (s58 _ _ g5)) (dvs_rows t58), .lst (SqL.of g8) (dvs_rows tyd), ⟨shL, shL⟩, ?_⟩
    rw [eqL]
    simp only [tRet, tRetN, tCB, tCons, tNil, tSeq, tIfS, tAsg, gName, tV, x0, x1, x2, x3, tC, tOp, e_tst, e_isB, e_tru, e_truB, e_truI, e_truN, tSp, tDrop, tNext, tNot, tOr, tAnd, tIf, e_tup, e_lst, tCont, tBreak, tAug, tAugS, tAndV, tOrV, tNotV, tChain, e_dnew, gSub, ipI, tSl, tNoPart, tPart, tMk, ex_bl, ex_int, ex_int2, ex_some, e_eqI4, e_eqS4, e_neI3, e_neS3, e_i0, e_i2, e_addI, e_addS, e_addL4, e_mulI3, e_mulS, e_ix3S, e_ix3D, e_lenS, e_strI, e_intS, e_ival, e_for, e_comp, e_rg1, e_rg2, e_en, e_rg1I, e_rg2I, e_tMt, e_lm, e_lmR, e_app, e_ext, e_bmS, e_bmSS, e_split, e_part, e_sl2S, e_isi3T, e_gTup, e_gxT, e_get3D, e_set3D, gx1, tYes, frv, x4, x5, x6, x7, x8, Function.comp, if_true, x9, if_false]
    rw [if_neg (by decide)]
    refine ⟨⟨_, SqL.of (s58 _ _ g5)⟩, by show 3 ≤ sizeLine; decide, alloc fun tt H9 s9 n9 g9 => ?_⟩
    have s59 := s58.trans s9
    refine ⟨_, s59 _ _ g5, small_lt (by omega), ?_⟩
    have s4A : Same H4 (upd H9 pl (.lst (lv ++ [.ref tt]))) := (s5.trans s59).upd_free n5
    have gA : upd H9 pl (.lst (lv ++ [.ref tt])) pl = some (.lst (lv ++ [.ref tt])) := upd_same
    generalize upd H9 pl (.lst (lv ++ [.ref tt])) = HA at s4A gA
    have sA : Same H1 HA := s2.trans (s4.trans s4A)
    have gnA := (s4.trans s4A) _ _ g2
    refine for_L (xs := vs) (SqL.of (sA _ _ g0)) (fun i σ H' => H' = HA ∧ ∃ o6 o7, σ = [some (.ref q), some (.ref a), some (.ref pn), some (.ref pt), some (.ref pl), some (.ref pd), o6, o7]) ⟨rfl, _, _, rfl⟩ (fun i σ H' hi h => by rw [h.1]; exact SqL.of (sA _ _ g0)) (fun i v σ HB hi hv h => ?_) (fun σ HB h => ?_)
    · obtain ⟨rfl, o6, o7, rfl⟩ := h
      obtain ⟨x, hx, ta, tf, fv, rfl, h1, h2, h3⟩ := hat i v hv
      have h1' := sA _ _ h1
      have WA := hW.mono sA
      have hpi : (ptsOf (toPts parts))[i]? = some x.p := by rw [pts_to, List.getElem?_map, hx]; rfl
      simp only [tRet, tRetN, tCB, tCons, tNil, tSeq, tIfS, tAsg, gName, tV, x0, x1, x2, x3, tC, tOp, e_tst, e_isB, e_tru, e_truB, e_truI, e_truN, tSp, tDrop, tNext, tNot, tOr, tAnd, tIf, e_tup, e_lst, tCont, tBreak, tAug, tAugS, tAndV, tOrV, tNotV, tChain, e_dnew, gSub, ipI, tSl, tNoPart, tPart, tMk, ex_bl, ex_int, ex_int2, ex_some, e_eqI4, e_eqS4, e_neI3, e_neS3, e_i0, e_i2, e_addI, e_addS, e_addL4, e_mulI3, e_mulS, e_ix3S, e_ix3D, e_lenS, e_strI, e_intS, e_ival, e_for, e_comp, e_rg1, e_rg2, e_en, e_rg1I, e_rg2I, e_tMt, e_lm, e_lmR, e_app, e_ext, e_bmS, e_bmSS, e_split, e_part, e_sl2S, e_isi3T, e_gTup, e_gxT, e_get3D, e_set3D, gx1, tYes, frv, x4, x5, x6, x7, x8, Function.comp, if_true, x9, if_false]
      refine mt_time WA mT ?_
      refine ix_T h1' (atI_nat (j := 0) rfl) ?_
      refine ⟨q, x.p.name, _, _, i, x.p, rfl, WA, rk.w.nd, hpi, rfl, ?_⟩
      refine mt_kind WA mK ?_
      refine ix_T h1' (atI_nat (j := 0) rfl) ?_
      refine ⟨q, x.p.name, _, _, i, x.p, rfl, WA, rk.w.nd, hpi, rfl, fun kp hk => ?_⟩
      refine mt_kword kc hk ?_
      refine ix_T h1' (atI_nat (j := 1) rfl) ?_
      simp only [tRet, tRetN, tCB, tCons, tNil, tSeq, tIfS, tAsg, gName, tV, x0, x1, x2, x3, tC, tOp, e_tst, e_isB, e_tru, e_truB, e_truI, e_truN, tSp, tDrop, tNext, tNot, tOr, tAnd, tIf, e_tup, e_lst, tCont, tBreak, tAug, tAugS, tAndV, tOrV, tNotV, tChain, e_dnew, gSub, ipI, tSl, tNoPart, tPart, tMk, ex_bl, ex_int, ex_int2, ex_some, e_eqI4, e_eqS4, e_neI3, e_neS3, e_i0, e_i2, e_addI, e_addS, e_addL4, e_mulI3, e_mulS, e_ix3S, e_ix3D, e_lenS, e_strI, e_intS, e_ival, e_for, e_comp, e_rg1, e_rg2, e_en, e_rg1I, e_rg2I, e_tMt, e_lm, e_lmR, e_app, e_ext, e_bmS, e_bmSS, e_split, e_part, e_sl2S, e_isi3T, e_gTup, e_gxT, e_get3D, e_set3D, gx1, tYes, frv, x4, x5, x6, x7, x8, Function.comp, if_true, x9, if_false]
      rw [if_neg (by simp)]
      refine ⟨_, _, .int _, kit_refl K "int", ?_⟩
      try simp only [tRet, tRetN, tCB, tCons, tNil, tSeq, tIfS, tAsg, gName, tV, x0, x1, x2, x3, tC, tOp, e_tst, e_isB, e_tru, e_truB, e_truI, e_truN, tSp, tDrop, tNext, tNot, tOr, tAnd, tIf, e_tup, e_lst, tCont, tBreak, tAug, tAugS, tAndV, tOrV, tNotV, tChain, e_dnew, gSub, ipI, tSl, tNoPart, tPart, tMk, ex_bl, ex_int, ex_int2, ex_some, e_eqI4, e_eqS4, e_neI3, e_neS3, e_i0, e_i2, e_addI, e_addS, e_addL4, e_mulI3, e_mulS, e_ix3S, e_ix3D, e_lenS, e_strI, e_intS, e_ival, e_for, e_comp, e_rg1, e_rg2, e_en, e_rg1I, e_rg2I, e_tMt, e_lm, e_lmR, e_app, e_ext, e_bmS, e_bmSS, e_split, e_part, e_sl2S, e_isi3T, e_gTup, e_gxT, e_get3D, e_set3D, gx1, tYes, frv, x4, x5, x6, x7, x8, Function.comp, if_true, x9, if_false]
      rw [if_neg (by decide)]
      refine ix_T h1' (atI_nat (j := 2) rfl) ?_
      simp only [tRet, tRetN, tCB, tCons, tNil, tSeq, tIfS, tAsg, gName, tV, x0, x1, x2, x3, tC, tOp, e_tst, e_isB, e_tru, e_truB, e_truI, e_truN, tSp, tDrop, tNext, tNot, tOr, tAnd, tIf, e_tup, e_lst, tCont, tBreak, tAug, tAugS, tAndV, tOrV, tNotV, tChain, e_dnew, gSub, ipI, tSl, tNoPart, tPart, tMk, ex_bl, ex_int, ex_int2, ex_some, e_eqI4, e_eqS4, e_neI3, e_neS3, e_i0, e_i2, e_addI, e_addS, e_addL4, e_mulI3, e_mulS, e_ix3S, e_ix3D, e_lenS, e_strI, e_intS, e_ival, e_for, e_comp, e_rg1, e_rg2, e_en, e_rg1I, e_rg2I, e_tMt, e_lm, e_lmR, e_app, e_ext, e_bmS, e_bmSS, e_split, e_part, e_sl2S, e_isi3T, e_gTup, e_gxT, e_get3D, e_set3D, gx1, tYes, frv, x4, x5, x6, x7, x8, Function.comp, if_true, x9, if_false]
      rw [if_neg (by simp)]
      exact ⟨trivial, _, _, rfl⟩
    obtain ⟨rfl, o6, o7, rfl⟩ := h
    simp only [tRet, tRetN, tCB, tCons, tNil, tSeq, tIfS, tAsg, gName, tV, x0, x1, x2, x3, tC, tOp, e_tst, e_isB, e_tru, e_truB, e_truI, e_truN, tSp, tDrop, tNext, tNot, tOr, tAnd, tIf, e_tup, e_lst, tCont, tBreak, tAug, tAugS, tAndV, tOrV, tNotV, tChain, e_dnew, gSub, ipI, tSl, tNoPart, tPart, tMk, ex_bl, ex_int, ex_int2, ex_some, e_eqI4, e_eqS4, e_neI3, e_neS3, e_i0, e_i2, e_addI, e_addS, e_addL4, e_mulI3, e_mulS, e_ix3S, e_ix3D, e_lenS, e_strI, e_intS, e_ival, e_for, e_comp, e_rg1, e_rg2, e_en, e_rg1I, e_rg2I, e_tMt, e_lm, e_lmR, e_app, e_ext, e_bmS, e_bmSS, e_split, e_part, e_sl2S, e_isi3T, e_gTup, e_gxT, e_get3D, e_set3D, gx1, tYes, frv, x4, x5, x6, x7, x8, Function.comp, if_true, x9, if_false]
    have WA := hW.mono sA
    refine mt_names WA mN fun pu HC sC nC gC => ?_
    refine .inl ⟨_, _, dv_strs gC, dv_strs (sC _ _ gnA), ⟨shN, shN⟩, ?_⟩
    rw [eqN]
    try simp only [tRet, tRetN, tCB, tCons, tNil, tSeq, tIfS, tAsg, gName, tV, x0, x1, x2, x3, tC, tOp, e_tst, e_isB, e_tru, e_truB, e_truI, e_truN, tSp, tDrop, tNext, tNot, tOr, tAnd, tIf, e_tup, e_lst, tCont, tBreak, tAug, tAugS, tAndV, tOrV, tNotV, tChain, e_dnew, gSub, ipI, tSl, tNoPart, tPart, tMk, ex_bl, ex_int, ex_int2, ex_some, e_eqI4, e_eqS4, e_neI3, e_neS3, e_i0, e_i2, e_addI, e_addS, e_addL4, e_mulI3, e_mulS, e_ix3S, e_ix3D, e_lenS, e_strI, e_intS, e_ival, e_for, e_comp, e_rg1, e_rg2, e_en, e_rg1I, e_rg2I, e_tMt, e_lm, e_lmR, e_app, e_ext, e_bmS, e_bmSS, e_split, e_part, e_sl2S, e_isi3T, e_gTup, e_gxT, e_get3D, e_set3D, gx1, tYes, frv, x4, x5, x6, x7, x8, Function.comp, if_true, x9, if_false]
    refine mt_lines (WA.mono sC) mL fun pk lw HD sD nD gD tD => ?_
    refine len_L gD ?_
    refine len_L ((sC.trans sD) _ _ gA) ?_
    try simp only [tRet, tRetN, tCB, tCons, tNil, tSeq, tIfS, tAsg, gName, tV, x0, x1, x2, x3, tC, tOp, e_tst, e_isB, e_tru, e_truB, e_truI, e_truN, tSp, tDrop, tNext, tNot, tOr, tAnd, tIf, e_tup, e_lst, tCont, tBreak, tAug, tAugS, tAndV, tOrV, tNotV, tChain, e_dnew, gSub, ipI, tSl, tNoPart, tPart, tMk, ex_bl, ex_int, ex_int2, ex_some, e_eqI4, e_eqS4, e_neI3, e_neS3, e_i0, e_i2, e_addI, e_addS, e_addL4, e_mulI3, e_mulS, e_ix3S, e_ix3D, e_lenS, e_strI, e_intS, e_ival, e_for, e_comp, e_rg1, e_rg2, e_en, e_rg1I, e_rg2I, e_tMt, e_lm, e_lmR, e_app, e_ext, e_bmS, e_bmSS, e_split, e_part, e_sl2S, e_isi3T, e_gTup, e_gxT, e_get3D, e_set3D, gx1, tYes, frv, x4, x5, x6, x7, x8, Function.comp, if_true, x9, if_false]
    have lwl : lw.length = lv.length := by rw [tD.1, List.length_map, lvl]
    rw [show decide ((lw.length : Int) = ((lv ++ [V.ref tt]).length : Int) - 1) = true from decide_eq_true (by rw [List.length_append]; simp; omega)]
    exact k HD (sA.trans (sC.trans sD))
end
end K2
end
section
set_option maxRecDepth 100000
set_option maxHeartbeats 4000000
set_option linter.all false
namespace K2
open PySem L2
open TX
seal L2.PE L2.PS L2.PSs L2.PT L2.PA L2.PG L2.PI L2.PW
def spLaw (K : PySem.W.Frag) : Sp := fun vs H Q _ => ∃ (a : Addr) (ns : List Int), vs = [.ref a] ∧ SqL K H a (ns.map V.int) ∧ ns.length ≤ 63 ∧ ∀ H', Q (.bl true) H'
theorem cut1 (l : List V) : cutV l (some 1) none = l.drop 1 := by
  unfold cutV
  rw [HT.sIx_none]
  have e : HT.sIx l.length 0 (some 1) = min 1 l.length := by
    show (if (1 : Int) < 0 then ((1 : Int) + (l.length : Int)).toNat else min (1 : Int).toNat l.length) = min 1 l.length
    rw [if_neg (by decide)]
    rfl
  rw [e]
  cases l with
  | nil => rfl
  | cons a r =>
    have : min 1 (a :: r).length = 1 := by simp
    rw [this]
    simp
section
variable {P : Program} {w : World} {K : PySem.W.Frag} {mg : Str → Option Value} {base : Heap} {c : Cs} {cW : Addr}
abbrev s_law : Stmt := top 55
theorem sc_law : FnSc ["_law_script", "_law_parts", "_law_text_here", "_law_works_here"] ["_law_script"] ["_law_right", "read", "shown", "isinstance", "str", "_law_spread", "_law_cell_at", "_law_text", "_law_works"] (defScope s_law) := ⟨⟨rfl, rfl, rfl, by decide +kernel, rfl, by decide +kernel, by decide +kernel⟩, by decide +kernel, by decide +kernel, by decide +kernel⟩
theorem ok_law {f : Addr} {fd : FuncData} (F : Fun K "law" "law" s_law f fd) (C_law_cell_at : Cal P w K mg base 1 "_law_cell_at" ["_law_script", "_law_k"] (spCellAt K)) (C_law_works : Cal P w K mg base 3 "_law_works" ["_law_script", "_law_most"] (spLWorks K)) (C_law_text : Cal P w K mg base 1 "_law_text" ["_law_parts"] spText) (C_law_spread : Cal P w K mg base 2 "_law_spread" ["_law_text_here", "_law_cell"] spSpread) (C_read : Cal P w K mg base 7 "read" ["text"] (spRead c cW)) (C_law_right : Cal P w K mg base 2 "_law_right" ["_law_works_here", "_law_parts"] (spRight c cW)) (C_shown : Cal P w K mg base 2 "shown" ["works"] (spShown c cW)) (n_isinstance : mg "isinstance" = none) (n_str : mg "str" = none) : FnOk P w K mg base CX0 8 f fd ["_law_script"] (spLaw K) := by
  refine F.ok sc_law.S (fun vs H Q E h => ?_) (fun cdv A outer s H vs Q E hr h => ?_)
  · obtain ⟨a, ns, rfl, _⟩ := h
    rfl
  · obtain ⟨a, ns, rfl, hS, hlen, k⟩ := h
    have S := sc_law.sx (CX := CX0) (P := P) (w := w) (K := K) (mg := mg) (base := base) (qual := "law") (f := f) (cd := cdv) (A := A) (outer := outer) (s := s) (H := H) (E := E)
    have Sg := fun i {x} h => sc_law.gx (CX := CX0) (P := P) (w := w) (K := K) (mg := mg) (base := base) (qual := "law") (f := f) (cd := cdv) (A := A) (outer := outer) (s := s) (H := H) (E := E) i (x := x) h
    have hU := hr.units
    refine ⟨_, (pss_cons (ps_st S 1 (c_call C_law_works (hr.mono (by decide)) (Sg 8 rfl) (pa_cons (nv S 0) (pa_cons pe_int pa_nil))))
      (pss_cons (ps_if (pt_of (o_eq4 (K := K) rfl hU) (pe_op o_mod (pe_op o_fdiv (c_call C_law_cell_at (hr.mono (by decide)) (Sg 6 rfl) (pa_cons (nv S 0) (pa_cons pe_int pa_nil))) pe_int) pe_int) pe_int) (pss_one (ps_st S 1 (c_call C_law_works (hr.mono (by decide)) (Sg 8 rfl) (pa_cons (pe_op o_add (pe_lst (pa_cons (pe_op o_add pe_int (pe_op o_mod (c_call C_law_cell_at (hr.mono (by decide)) (Sg 6 rfl) (pa_cons (nv S 0) (pa_cons pe_int pa_nil))) pe_int)) pa_nil)) (pe_slice (o_sl2 (K := K)) (nv S 0) (po_some pe_int) po_none)) (pa_cons pe_int pa_nil))))) pss_nil)
      (pss_cons (ps_st S 2 (c_call C_law_text (hr.mono (by decide)) (Sg 7 rfl) (pa_cons (nv S 1) pa_nil)))
      (pss_cons (ps_st S 3 (c_call C_read (hr.mono (by decide)) (Sg 1 rfl) (pa_cons (c_call C_law_spread (hr.mono (by decide)) (Sg 5 rfl) (pa_cons (nv S 2) (pa_cons (c_call C_law_cell_at (hr.mono (by decide)) (Sg 6 rfl) (pa_cons (nv S 0) (pa_cons pe_int pa_nil))) pa_nil))) pa_nil)))
      (pss_cons (ps_if (PW.pt (pw_or (pt_not (pt_tr (K := K) rfl (c_call C_law_right (hr.mono (by decide)) (Sg 0 rfl) (pa_cons (nv S 3) (pa_cons (nv S 1) pa_nil))))) (pw_or1 (pt_of (o_ne3 (K := K) rfl hU) (c_call C_shown (hr.mono (by decide)) (Sg 2 rfl) (pa_cons (nv S 3) pa_nil)) (nv S 2))))) (pss_one (ps_ret pe_bl)) pss_nil)
      (pss_one (ps_ret (pe_and (c_call C_law_right (hr.mono (by decide)) (Sg 0 rfl) (pa_cons (c_call C_read (hr.mono (by decide)) (Sg 1 rfl) (pa_cons (nv S 2) pa_nil)) (pa_cons (nv S 1) pa_nil))) (pe_and (pe_of (o_eq4 (K := K) rfl hU) (c_call C_shown (hr.mono (by decide)) (Sg 2 rfl) (pa_cons (c_call C_read (hr.mono (by decide)) (Sg 1 rfl) (pa_cons (c_call C_shown (hr.mono (by decide)) (Sg 2 rfl) (pa_cons (nv S 3) pa_nil)) pa_nil)) pa_nil)) (nv S 2)) (pe_one (k_isinstance3 (K := K) rfl (Sg 3 rfl) n_isinstance (pa_cons (c_call C_shown (hr.mono (by decide)) (Sg 2 rfl) (pa_cons (nv S 3) pa_nil)) (pa_cons (g_ty (Sg 4 rfl) n_str bb_str) pa_nil))))))))))))), ?_⟩
    show (_ : TS) _ [some (.ref a), none, none, none] H
    simp only [tRet, tRetN, tCB, tCons, tNil, tSeq, tIfS, tAsg, gName, tV, x0, x1, x2, x3, tC, tOp, e_tst, e_isB, e_tru, e_truB, e_truI, e_truN, tSp, tDrop, tNext, tNot, tOr, tAnd, tIf, e_tup, e_lst, tCont, tBreak, tAug, tAugS, tAndV, tOrV, tNotV, tChain, e_dnew, gSub, ipI, tSl, tNoPart, tPart, tMk, ex_bl, ex_int, ex_int2, ex_some, e_eqI4, e_eqS4, e_neI3, e_neS3, e_i0, e_i2, e_addI, e_addS, e_addL4, e_mulI3, e_mulS, e_ix3S, e_ix3D, e_lenS, e_strI, e_intS, e_ival, e_for, e_comp, e_rg1, e_rg2, e_en, e_rg1I, e_rg2I, e_tMt, e_lm, e_lmR, e_app, e_ext, e_bmS, e_bmSS, e_split, e_part, e_sl2S, e_isi3T, e_gTup, e_gxT, e_get3D, e_set3D, gx1, tYes, frv, x4, x5, x6, x7, x8, Function.comp, if_true, x9, if_false]
    refine ⟨a, ns, 10, rfl, hS, by decide, by decide, fun p0 parts0 H0 ok0 s0 n0 hP0 => ?_⟩
    refine ⟨a, ns, 0, rfl, s0.seq hS, by decide, fun c0 => ?_⟩
    simp only [tRet, tRetN, tCB, tCons, tNil, tSeq, tIfS, tAsg, gName, tV, x0, x1, x2, x3, tC, tOp, e_tst, e_isB, e_tru, e_truB, e_truI, e_truN, tSp, tDrop, tNext, tNot, tOr, tAnd, tIf, e_tup, e_lst, tCont, tBreak, tAug, tAugS, tAndV, tOrV, tNotV, tChain, e_dnew, gSub, ipI, tSl, tNoPart, tPart, tMk, ex_bl, ex_int, ex_int2, ex_some, e_eqI4, e_eqS4, e_neI3, e_neS3, e_i0, e_i2, e_addI, e_addS, e_addL4, e_mulI3, e_mulS, e_ix3S, e_ix3D, e_lenS, e_strI, e_intS, e_ival, e_for, e_comp, e_rg1, e_rg2, e_en, e_rg1I, e_rg2I, e_tMt, e_lm, e_lmR, e_app, e_ext, e_bmS, e_bmSS, e_split, e_part, e_sl2S, e_isi3T, e_gTup, e_gxT, e_get3D, e_set3D, gx1, tYes, frv, x4, x5, x6, x7, x8, Function.comp, if_true, x9, if_false]
    refine ⟨⟨by decide, by decide⟩, by decide, ite2 (fun h => ?_) (fun h => ?_)⟩
    · refine ⟨a, ns, 0, rfl, s0.seq hS, by decide, fun c1 => ?_⟩
      simp only [tRet, tRetN, tCB, tCons, tNil, tSeq, tIfS, tAsg, gName, tV, x0, x1, x2, x3, tC, tOp, e_tst, e_isB, e_tru, e_truB, e_truI, e_truN, tSp, tDrop, tNext, tNot, tOr, tAnd, tIf, e_tup, e_lst, tCont, tBreak, tAug, tAugS, tAndV, tOrV, tNotV, tChain, e_dnew, gSub, ipI, tSl, tNoPart, tPart, tMk, ex_bl, ex_int, ex_int2, ex_some, e_eqI4, e_eqS4, e_neI3, e_neS3, e_i0, e_i2, e_addI, e_addS, e_addL4, e_mulI3, e_mulS, e_ix3S, e_ix3D, e_lenS, e_strI, e_intS, e_ival, e_for, e_comp, e_rg1, e_rg2, e_en, e_rg1I, e_rg2I, e_tMt, e_lm, e_lmR, e_app, e_ext, e_bmS, e_bmSS, e_split, e_part, e_sl2S, e_isi3T, e_gTup, e_gxT, e_get3D, e_set3D, gx1, tYes, frv, x4, x5, x6, x7, x8, Function.comp, if_true, x9, if_false]
      refine ⟨by decide, by show 1 ≤ sizeLine; decide, alloc fun q1 G1 t1 m1 e1 => ?_⟩
      rw [e_sl2L]
      refine ⟨_, (s0.trans t1).seq hS, alloc fun q2 G2 t2 m2 e2 => ?_⟩
      rw [cut1, ← List.map_drop] at e2
      simp only [tRet, tRetN, tCB, tCons, tNil, tSeq, tIfS, tAsg, gName, tV, x0, x1, x2, x3, tC, tOp, e_tst, e_isB, e_tru, e_truB, e_truI, e_truN, tSp, tDrop, tNext, tNot, tOr, tAnd, tIf, e_tup, e_lst, tCont, tBreak, tAug, tAugS, tAndV, tOrV, tNotV, tChain, e_dnew, gSub, ipI, tSl, tNoPart, tPart, tMk, ex_bl, ex_int, ex_int2, ex_some, e_eqI4, e_eqS4, e_neI3, e_neS3, e_i0, e_i2, e_addI, e_addS, e_addL4, e_mulI3, e_mulS, e_ix3S, e_ix3D, e_lenS, e_strI, e_intS, e_ival, e_for, e_comp, e_rg1, e_rg2, e_en, e_rg1I, e_rg2I, e_tMt, e_lm, e_lmR, e_app, e_ext, e_bmS, e_bmSS, e_split, e_part, e_sl2S, e_isi3T, e_gTup, e_gxT, e_get3D, e_set3D, gx1, tYes, frv, x4, x5, x6, x7, x8, Function.comp, if_true, x9, if_false]
      refine ⟨_, _, t2 _ _ e1, e2, small_size (by simp; omega), alloc fun q3 G3 t3 m3 e3 => ?_⟩
      have hS3 : SqL K G3 q3 (((50 + c1 % 9) :: ns.drop 1).map V.int) := SqL.of e3
      refine ⟨q3, (50 + c1 % 9) :: ns.drop 1, 59, rfl, hS3, by decide, by decide, fun p parts H1 ok s1' n1 hP => ?_⟩
      have s1 : Same H H1 := (((s0.trans t1).trans t2).trans t3).trans s1'
      simp only [tRet, tRetN, tCB, tCons, tNil, tSeq, tIfS, tAsg, gName, tV, x0, x1, x2, x3, tC, tOp, e_tst, e_isB, e_tru, e_truB, e_truI, e_truN, tSp, tDrop, tNext, tNot, tOr, tAnd, tIf, e_tup, e_lst, tCont, tBreak, tAug, tAugS, tAndV, tOrV, tNotV, tChain, e_dnew, gSub, ipI, tSl, tNoPart, tPart, tMk, ex_bl, ex_int, ex_int2, ex_some, e_eqI4, e_eqS4, e_neI3, e_neS3, e_i0, e_i2, e_addI, e_addS, e_addL4, e_mulI3, e_mulS, e_ix3S, e_ix3D, e_lenS, e_strI, e_intS, e_ival, e_for, e_comp, e_rg1, e_rg2, e_en, e_rg1I, e_rg2I, e_tMt, e_lm, e_lmR, e_app, e_ext, e_bmS, e_bmSS, e_split, e_part, e_sl2S, e_isi3T, e_gTup, e_gxT, e_get3D, e_set3D, gx1, tYes, frv, x4, x5, x6, x7, x8, Function.comp, if_true, x9, if_false]
      have rk := rok ok
      refine ⟨p, parts, rfl, ok, hP, fun H2 s2 => ?_⟩
      refine ⟨a, ns, 1, rfl, (s1.trans s2).seq hS, by decide, fun cv => ?_⟩
      refine ⟨cv, toPts parts, rfl, rk, fun z' H3 hz hl s3 => ?_⟩
      refine ⟨z', toPts parts, rfl, rk, hz, hl, fun q H4 s4 n4 W4 => ?_⟩
      have hP4 := hP.mono ((s2.trans s3).trans s4)
      refine ⟨q, p, parts, rfl, ok, hP4, W4, fun H5 s5 => ?_⟩
      try simp only [tRet, tRetN, tCB, tCons, tNil, tSeq, tIfS, tAsg, gName, tV, x0, x1, x2, x3, tC, tOp, e_tst, e_isB, e_tru, e_truB, e_truI, e_truN, tSp, tDrop, tNext, tNot, tOr, tAnd, tIf, e_tup, e_lst, tCont, tBreak, tAug, tAugS, tAndV, tOrV, tNotV, tChain, e_dnew, gSub, ipI, tSl, tNoPart, tPart, tMk, ex_bl, ex_int, ex_int2, ex_some, e_eqI4, e_eqS4, e_neI3, e_neS3, e_i0, e_i2, e_addI, e_addS, e_addL4, e_mulI3, e_mulS, e_ix3S, e_ix3D, e_lenS, e_strI, e_intS, e_ival, e_for, e_comp, e_rg1, e_rg2, e_en, e_rg1I, e_rg2I, e_tMt, e_lm, e_lmR, e_app, e_ext, e_bmS, e_bmSS, e_split, e_part, e_sl2S, e_isi3T, e_gTup, e_gxT, e_get3D, e_set3D, gx1, tYes, frv, x4, x5, x6, x7, x8, Function.comp, if_true, x9, if_false]
      rw [if_neg (by decide)]
      refine ⟨q, _, _, rfl, W4.mono s5, rk.w, fun H6 s6 => ?_⟩
      rw [shown_text rk]
      try simp only [tRet, tRetN, tCB, tCons, tNil, tSeq, tIfS, tAsg, gName, tV, x0, x1, x2, x3, tC, tOp, e_tst, e_isB, e_tru, e_truB, e_truI, e_truN, tSp, tDrop, tNext, tNot, tOr, tAnd, tIf, e_tup, e_lst, tCont, tBreak, tAug, tAugS, tAndV, tOrV, tNotV, tChain, e_dnew, gSub, ipI, tSl, tNoPart, tPart, tMk, ex_bl, ex_int, ex_int2, ex_some, e_eqI4, e_eqS4, e_neI3, e_neS3, e_i0, e_i2, e_addI, e_addS, e_addL4, e_mulI3, e_mulS, e_ix3S, e_ix3D, e_lenS, e_strI, e_intS, e_ival, e_for, e_comp, e_rg1, e_rg2, e_en, e_rg1I, e_rg2I, e_tMt, e_lm, e_lmR, e_app, e_ext, e_bmS, e_bmSS, e_split, e_part, e_sl2S, e_isi3T, e_gTup, e_gxT, e_get3D, e_set3D, gx1, tYes, frv, x4, x5, x6, x7, x8, Function.comp, if_true, x9, if_false]
      rw [if_neg (by simp)]
      refine ⟨textOf (toPts parts), toPts parts, rfl, rk, rows_of_text rk, by have := (text_len rk).2; omega, fun q2 H7 s7 n7 W7 => ?_⟩
      have s47 : Same H4 H7 := (s5.trans s6).trans s7
      refine ⟨q2, p, parts, rfl, ok, hP4.mono s47, W7, fun H8 s8 => ?_⟩
      try simp only [tRet, tRetN, tCB, tCons, tNil, tSeq, tIfS, tAsg, gName, tV, x0, x1, x2, x3, tC, tOp, e_tst, e_isB, e_tru, e_truB, e_truI, e_truN, tSp, tDrop, tNext, tNot, tOr, tAnd, tIf, e_tup, e_lst, tCont, tBreak, tAug, tAugS, tAndV, tOrV, tNotV, tChain, e_dnew, gSub, ipI, tSl, tNoPart, tPart, tMk, ex_bl, ex_int, ex_int2, ex_some, e_eqI4, e_eqS4, e_neI3, e_neS3, e_i0, e_i2, e_addI, e_addS, e_addL4, e_mulI3, e_mulS, e_ix3S, e_ix3D, e_lenS, e_strI, e_intS, e_ival, e_for, e_comp, e_rg1, e_rg2, e_en, e_rg1I, e_rg2I, e_tMt, e_lm, e_lmR, e_app, e_ext, e_bmS, e_bmSS, e_split, e_part, e_sl2S, e_isi3T, e_gTup, e_gxT, e_get3D, e_set3D, gx1, tYes, frv, x4, x5, x6, x7, x8, Function.comp, if_true, x9, if_false]
      refine ⟨q, _, _, rfl, W4.mono (s47.trans s8), rk.w, fun H9 s9 => ?_⟩
      rw [shown_text rk]
      refine ⟨textOf (toPts parts), toPts parts, rfl, rk, rows_of_text rk, by have := (text_len rk).2; omega, fun q3 HA sA nA WA => ?_⟩
      refine ⟨q3, _, _, rfl, WA, rk.w, fun HB sB => ?_⟩
      rw [shown_text rk]
      try simp only [tRet, tRetN, tCB, tCons, tNil, tSeq, tIfS, tAsg, gName, tV, x0, x1, x2, x3, tC, tOp, e_tst, e_isB, e_tru, e_truB, e_truI, e_truN, tSp, tDrop, tNext, tNot, tOr, tAnd, tIf, e_tup, e_lst, tCont, tBreak, tAug, tAugS, tAndV, tOrV, tNotV, tChain, e_dnew, gSub, ipI, tSl, tNoPart, tPart, tMk, ex_bl, ex_int, ex_int2, ex_some, e_eqI4, e_eqS4, e_neI3, e_neS3, e_i0, e_i2, e_addI, e_addS, e_addL4, e_mulI3, e_mulS, e_ix3S, e_ix3D, e_lenS, e_strI, e_intS, e_ival, e_for, e_comp, e_rg1, e_rg2, e_en, e_rg1I, e_rg2I, e_tMt, e_lm, e_lmR, e_app, e_ext, e_bmS, e_bmSS, e_split, e_part, e_sl2S, e_isi3T, e_gTup, e_gxT, e_get3D, e_set3D, gx1, tYes, frv, x4, x5, x6, x7, x8, Function.comp, if_true, x9, if_false]
      have sAll : Same H4 HB := (s47.trans s8).trans ((s9.trans sA).trans sB)
      refine ⟨q, _, _, rfl, W4.mono sAll, rk.w, fun HC sC => ?_⟩
      exact ⟨_, _, .str _, kit_refl K "str", k HC⟩
    · have s1 := s0
      have hP := hP0
      have ok := ok0
      have rk := rok ok
      refine ⟨p0, parts0, rfl, ok, hP, fun H2 s2 => ?_⟩
      refine ⟨a, ns, 1, rfl, (s1.trans s2).seq hS, by decide, fun cv => ?_⟩
      refine ⟨cv, toPts parts0, rfl, rk, fun z' H3 hz hl s3 => ?_⟩
      refine ⟨z', toPts parts0, rfl, rk, hz, hl, fun q H4 s4 n4 W4 => ?_⟩
      have hP4 := hP.mono ((s2.trans s3).trans s4)
      refine ⟨q, p0, parts0, rfl, ok, hP4, W4, fun H5 s5 => ?_⟩
      try simp only [tRet, tRetN, tCB, tCons, tNil, tSeq, tIfS, tAsg, gName, tV, x0, x1, x2, x3, tC, tOp, e_tst, e_isB, e_tru, e_truB, e_truI, e_truN, tSp, tDrop, tNext, tNot, tOr, tAnd, tIf, e_tup, e_lst, tCont, tBreak, tAug, tAugS, tAndV, tOrV, tNotV, tChain, e_dnew, gSub, ipI, tSl, tNoPart, tPart, tMk, ex_bl, ex_int, ex_int2, ex_some, e_eqI4, e_eqS4, e_neI3, e_neS3, e_i0, e_i2, e_addI, e_addS, e_addL4, e_mulI3, e_mulS, e_ix3S, e_ix3D, e_lenS, e_strI, e_intS, e_ival, e_for, e_comp, e_rg1, e_rg2, e_en, e_rg1I, e_rg2I, e_tMt, e_lm, e_lmR, e_app, e_ext, e_bmS, e_bmSS, e_split, e_part, e_sl2S, e_isi3T, e_gTup, e_gxT, e_get3D, e_set3D, gx1, tYes, frv, x4, x5, x6, x7, x8, Function.comp, if_true, x9, if_false]
      rw [if_neg (by decide)]
      refine ⟨q, _, _, rfl, W4.mono s5, rk.w, fun H6 s6 => ?_⟩
      rw [shown_text rk]
      try simp only [tRet, tRetN, tCB, tCons, tNil, tSeq, tIfS, tAsg, gName, tV, x0, x1, x2, x3, tC, tOp, e_tst, e_isB, e_tru, e_truB, e_truI, e_truN, tSp, tDrop, tNext, tNot, tOr, tAnd, tIf, e_tup, e_lst, tCont, tBreak, tAug, tAugS, tAndV, tOrV, tNotV, tChain, e_dnew, gSub, ipI, tSl, tNoPart, tPart, tMk, ex_bl, ex_int, ex_int2, ex_some, e_eqI4, e_eqS4, e_neI3, e_neS3, e_i0, e_i2, e_addI, e_addS, e_addL4, e_mulI3, e_mulS, e_ix3S, e_ix3D, e_lenS, e_strI, e_intS, e_ival, e_for, e_comp, e_rg1, e_rg2, e_en, e_rg1I, e_rg2I, e_tMt, e_lm, e_lmR, e_app, e_ext, e_bmS, e_bmSS, e_split, e_part, e_sl2S, e_isi3T, e_gTup, e_gxT, e_get3D, e_set3D, gx1, tYes, frv, x4, x5, x6, x7, x8, Function.comp, if_true, x9, if_false]
      rw [if_neg (by simp)]
      refine ⟨textOf (toPts parts0), toPts parts0, rfl, rk, rows_of_text rk, by have := (text_len rk).2; omega, fun q2 H7 s7 n7 W7 => ?_⟩
      have s47 : Same H4 H7 := (s5.trans s6).trans s7
      refine ⟨q2, p0, parts0, rfl, ok, hP4.mono s47, W7, fun H8 s8 => ?_⟩
      try simp only [tRet, tRetN, tCB, tCons, tNil, tSeq, tIfS, tAsg, gName, tV, x0, x1, x2, x3, tC, tOp, e_tst, e_isB, e_tru, e_truB, e_truI, e_truN, tSp, tDrop, tNext, tNot, tOr, tAnd, tIf, e_tup, e_lst, tCont, tBreak, tAug, tAugS, tAndV, tOrV, tNotV, tChain, e_dnew, gSub, ipI, tSl, tNoPart, tPart, tMk, ex_bl, ex_int, ex_int2, ex_some, e_eqI4, e_eqS4, e_neI3, e_neS3, e_i0, e_i2, e_addI, e_addS, e_addL4, e_mulI3, e_mulS, e_ix3S, e_ix3D, e_lenS, e_strI, e_intS, e_ival, e_for, e_comp, e_rg1, e_rg2, e_en, e_rg1I, e_rg2I, e_tMt, e_lm, e_lmR, e_app, e_ext, e_bmS, e_bmSS, e_split, e_part, e_sl2S, e_isi3T, e_gTup, e_gxT, e_get3D, e_set3D, gx1, tYes, frv, x4, x5, x6, x7, x8, Function.comp, if_true, x9, if_false]
      refine ⟨q, _, _, rfl, W4.mono (s47.trans s8), rk.w, fun H9 s9 => ?_⟩
      rw [shown_text rk]
      refine ⟨textOf (toPts parts0), toPts parts0, rfl, rk, rows_of_text rk, by have := (text_len rk).2; omega, fun q3 HA sA nA WA => ?_⟩
      refine ⟨q3, _, _, rfl, WA, rk.w, fun HB sB => ?_⟩
      rw [shown_text rk]
      try simp only [tRet, tRetN, tCB, tCons, tNil, tSeq, tIfS, tAsg, gName, tV, x0, x1, x2, x3, tC, tOp, e_tst, e_isB, e_tru, e_truB, e_truI, e_truN, tSp, tDrop, tNext, tNot, tOr, tAnd, tIf, e_tup, e_lst, tCont, tBreak, tAug, tAugS, tAndV, tOrV, tNotV, tChain, e_dnew, gSub, ipI, tSl, tNoPart, tPart, tMk, ex_bl, ex_int, ex_int2, ex_some, e_eqI4, e_eqS4, e_neI3, e_neS3, e_i0, e_i2, e_addI, e_addS, e_addL4, e_mulI3, e_mulS, e_ix3S, e_ix3D, e_lenS, e_strI, e_intS, e_ival, e_for, e_comp, e_rg1, e_rg2, e_en, e_rg1I, e_rg2I, e_tMt, e_lm, e_lmR, e_app, e_ext, e_bmS, e_bmSS, e_split, e_part, e_sl2S, e_isi3T, e_gTup, e_gxT, e_get3D, e_set3D, gx1, tYes, frv, x4, x5, x6, x7, x8, Function.comp, if_true, x9, if_false]
      have sAll : Same H4 HB := (s47.trans s8).trans ((s9.trans sA).trans sB)
      refine ⟨q, _, _, rfl, W4.mono sAll, rk.w, fun HC sC => ?_⟩
      exact ⟨_, _, .str _, kit_refl K "str", k HC⟩
end
end K2
end
section
set_option maxRecDepth 100000
set_option maxHeartbeats 4000000
set_option linter.all false
namespace K2
open PySem L2
theorem kit_sameR (K : PySem.W.Frag) (C : Addr) : PySem.W.kitOne K (.ref C) (.ref C) = some true := by
  unfold PySem.W.kitOne
  rw [if_pos (by simp)]
theorem all_mk {l : PySem.W.OpenLaw} {w : World} {K : PySem.W.Frag} {h : Heap} {mg : Str → Option Value} {fa CKind CSource CSink CBoth CEither COdd CPlus CPick CUp CDown CWorks f_made_of f_is_name f_number_by f_plain_kind f_shifting_kind f_is_end f_kind_by f_settled f_words_of f_part_by f_line_by f_refuse_loose f_refuse_rings f_read f_line_word f_shown f_law_cell_at f_law_draw f_law_asks f_law_name f_law_word f_law_works f_law_text f_law_lines f_law_spread f_law_right f_law f_Kind_init f_Kind_lines f_Kind_word f_Source_init f_Sink_init f_Both_init f_Either_init f_Odd_init f_Plus_init f_Pick_init f_Up_init f_Down_init f_Works_init f_Works_names f_Works_kind f_Works_time f_Works_lines : Addr} {tFIGURES tNAME_SIGNS tLONGEST_NAME tMOST_PLACES tMOST_PARTS tMOST_TIME tMOST_STORES : Tok} (X : K.In h) (G : h.Ns mainGlobals mg) (hfa : mg "law" = some (.ref fa))
    {od0 an0 : Option Addr} {sl0 : Array (Option Value)} {oc0 kV0 dc0 pm0 cd0 ct0 : Value}
    {od1 an1 : Option Addr} {sl1 : Array (Option Value)} {oc1 kV1 dc1 pm1 cd1 ct1 : Value}
    {od2 an2 : Option Addr} {sl2 : Array (Option Value)} {oc2 kV2 dc2 pm2 cd2 ct2 : Value}
    {od3 an3 : Option Addr} {sl3 : Array (Option Value)} {oc3 kV3 dc3 pm3 cd3 ct3 : Value}
    {od4 an4 : Option Addr} {sl4 : Array (Option Value)} {oc4 kV4 dc4 pm4 cd4 ct4 : Value}
    {od5 an5 : Option Addr} {sl5 : Array (Option Value)} {oc5 kV5 dc5 pm5 cd5 ct5 : Value}
    {od6 an6 : Option Addr} {sl6 : Array (Option Value)} {oc6 kV6 dc6 pm6 cd6 ct6 : Value}
    {od7 an7 : Option Addr} {sl7 : Array (Option Value)} {oc7 kV7 dc7 pm7 cd7 ct7 : Value}
    {od8 an8 : Option Addr} {sl8 : Array (Option Value)} {oc8 kV8 dc8 pm8 cd8 ct8 : Value}
    {od9 an9 : Option Addr} {sl9 : Array (Option Value)} {oc9 kV9 dc9 pm9 cd9 ct9 : Value}
    {od10 an10 : Option Addr} {sl10 : Array (Option Value)} {oc10 kV10 dc10 pm10 cd10 ct10 : Value}
    {od11 an11 : Option Addr} {sl11 : Array (Option Value)} {oc11 kV11 dc11 pm11 cd11 ct11 : Value}
    {od12 an12 : Option Addr} {sl12 : Array (Option Value)} {oc12 kV12 dc12 pm12 cd12 ct12 : Value}
    {od13 an13 : Option Addr} {sl13 : Array (Option Value)} {oc13 kV13 dc13 pm13 cd13 ct13 : Value}
    {od14 an14 : Option Addr} {sl14 : Array (Option Value)} {oc14 kV14 dc14 pm14 cd14 ct14 : Value}
    {od15 an15 : Option Addr} {sl15 : Array (Option Value)} {oc15 kV15 dc15 pm15 cd15 ct15 : Value}
    {od16 an16 : Option Addr} {sl16 : Array (Option Value)} {oc16 kV16 dc16 pm16 cd16 ct16 : Value}
    {od17 an17 : Option Addr} {sl17 : Array (Option Value)} {oc17 kV17 dc17 pm17 cd17 ct17 : Value}
    {od18 an18 : Option Addr} {sl18 : Array (Option Value)} {oc18 kV18 dc18 pm18 cd18 ct18 : Value}
    {od19 an19 : Option Addr} {sl19 : Array (Option Value)} {oc19 kV19 dc19 pm19 cd19 ct19 : Value}
    {od20 an20 : Option Addr} {sl20 : Array (Option Value)} {oc20 kV20 dc20 pm20 cd20 ct20 : Value}
    {od21 an21 : Option Addr} {sl21 : Array (Option Value)} {oc21 kV21 dc21 pm21 cd21 ct21 : Value}
    {od22 an22 : Option Addr} {sl22 : Array (Option Value)} {oc22 kV22 dc22 pm22 cd22 ct22 : Value}
    {od23 an23 : Option Addr} {sl23 : Array (Option Value)} {oc23 kV23 dc23 pm23 cd23 ct23 : Value}
    {od24 an24 : Option Addr} {sl24 : Array (Option Value)} {oc24 kV24 dc24 pm24 cd24 ct24 : Value}
    {od25 an25 : Option Addr} {sl25 : Array (Option Value)} {oc25 kV25 dc25 pm25 cd25 ct25 : Value}
    {od26 an26 : Option Addr} {sl26 : Array (Option Value)} {oc26 kV26 dc26 pm26 cd26 ct26 : Value}
    {od27 an27 : Option Addr} {sl27 : Array (Option Value)} {oc27 kV27 dc27 pm27 cd27 ct27 : Value}
    {od28 an28 : Option Addr} {sl28 : Array (Option Value)} {oc28 kV28 dc28 pm28 cd28 ct28 : Value}
    {od29 an29 : Option Addr} {sl29 : Array (Option Value)} {oc29 kV29 dc29 pm29 cd29 ct29 : Value}
    {od30 an30 : Option Addr} {sl30 : Array (Option Value)} {oc30 kV30 dc30 pm30 cd30 ct30 : Value}
    {od31 an31 : Option Addr} {sl31 : Array (Option Value)} {oc31 kV31 dc31 pm31 cd31 ct31 : Value}
    {od32 an32 : Option Addr} {sl32 : Array (Option Value)} {oc32 kV32 dc32 pm32 cd32 ct32 : Value}
    {od33 an33 : Option Addr} {sl33 : Array (Option Value)} {oc33 kV33 dc33 pm33 cd33 ct33 : Value}
    {od34 an34 : Option Addr} {sl34 : Array (Option Value)} {oc34 kV34 dc34 pm34 cd34 ct34 : Value}
    {od35 an35 : Option Addr} {sl35 : Array (Option Value)} {oc35 kV35 dc35 pm35 cd35 ct35 : Value}
    {od36 an36 : Option Addr} {sl36 : Array (Option Value)} {oc36 kV36 dc36 pm36 cd36 ct36 : Value}
    {od37 an37 : Option Addr} {sl37 : Array (Option Value)} {oc37 kV37 dc37 pm37 cd37 ct37 : Value}
    {od38 an38 : Option Addr} {sl38 : Array (Option Value)} {oc38 kV38 dc38 pm38 cd38 ct38 : Value}
    {od39 an39 : Option Addr} {sl39 : Array (Option Value)} {oc39 kV39 dc39 pm39 cd39 ct39 : Value}
    {od40 an40 : Option Addr} {sl40 : Array (Option Value)} {oc40 kV40 dc40 pm40 cd40 ct40 : Value}
    {od41 an41 : Option Addr} {sl41 : Array (Option Value)} {oc41 kV41 dc41 pm41 cd41 ct41 : Value}
    {od42 an42 : Option Addr} {sl42 : Array (Option Value)} {oc42 kV42 dc42 pm42 cd42 ct42 : Value}
    {od43 an43 : Option Addr} {sl43 : Array (Option Value)} {oc43 kV43 dc43 pm43 cd43 ct43 : Value}
    (aKind : PySem.W.nsIn K mainGlobals "Kind" = some (some (.ref CKind)))
    (aSource : PySem.W.nsIn K mainGlobals "Source" = some (some (.ref CSource)))
    (aSink : PySem.W.nsIn K mainGlobals "Sink" = some (some (.ref CSink)))
    (aBoth : PySem.W.nsIn K mainGlobals "Both" = some (some (.ref CBoth)))
    (aEither : PySem.W.nsIn K mainGlobals "Either" = some (some (.ref CEither)))
    (aOdd : PySem.W.nsIn K mainGlobals "Odd" = some (some (.ref COdd)))
    (aPlus : PySem.W.nsIn K mainGlobals "Plus" = some (some (.ref CPlus)))
    (aPick : PySem.W.nsIn K mainGlobals "Pick" = some (some (.ref CPick)))
    (aUp : PySem.W.nsIn K mainGlobals "Up" = some (some (.ref CUp)))
    (aDown : PySem.W.nsIn K mainGlobals "Down" = some (some (.ref CDown)))
    (aWorks : PySem.W.nsIn K mainGlobals "Works" = some (some (.ref CWorks)))
    (a_made_of : PySem.W.nsIn K mainGlobals "made_of" = some (some (.ref f_made_of)))
    (l0 : K.lookup f_made_of = some ⟨oc0, od0, .func (PySem.W.fnOf "made_of" "made_of" (defArgs s_made_of) (defBody s_made_of) (defScope s_made_of) .none kV0 dc0 pm0 an0 cd0 ct0), sl0⟩)
    (c0 : PySem.W.codeIn K cd0 "made_of" = true)
    (k0 : PySem.W.keepIn K (.ref f_made_of) = true)
    (a_is_name : PySem.W.nsIn K mainGlobals "is_name" = some (some (.ref f_is_name)))
    (l1 : K.lookup f_is_name = some ⟨oc1, od1, .func (PySem.W.fnOf "is_name" "is_name" (defArgs s_is_name) (defBody s_is_name) (defScope s_is_name) .none kV1 dc1 pm1 an1 cd1 ct1), sl1⟩)
    (c1 : PySem.W.codeIn K cd1 "is_name" = true)
    (k1 : PySem.W.keepIn K (.ref f_is_name) = true)
    (a_number_by : PySem.W.nsIn K mainGlobals "number_by" = some (some (.ref f_number_by)))
    (l2 : K.lookup f_number_by = some ⟨oc2, od2, .func (PySem.W.fnOf "number_by" "number_by" (defArgs s_number_by) (defBody s_number_by) (defScope s_number_by) .none kV2 dc2 pm2 an2 cd2 ct2), sl2⟩)
    (c2 : PySem.W.codeIn K cd2 "number_by" = true)
    (k2 : PySem.W.keepIn K (.ref f_number_by) = true)
    (a_plain_kind : PySem.W.nsIn K mainGlobals "plain_kind" = some (some (.ref f_plain_kind)))
    (l3 : K.lookup f_plain_kind = some ⟨oc3, od3, .func (PySem.W.fnOf "plain_kind" "plain_kind" (defArgs s_plain_kind) (defBody s_plain_kind) (defScope s_plain_kind) .none kV3 dc3 pm3 an3 cd3 ct3), sl3⟩)
    (c3 : PySem.W.codeIn K cd3 "plain_kind" = true)
    (k3 : PySem.W.keepIn K (.ref f_plain_kind) = true)
    (a_shifting_kind : PySem.W.nsIn K mainGlobals "shifting_kind" = some (some (.ref f_shifting_kind)))
    (l4 : K.lookup f_shifting_kind = some ⟨oc4, od4, .func (PySem.W.fnOf "shifting_kind" "shifting_kind" (defArgs s_shifting_kind) (defBody s_shifting_kind) (defScope s_shifting_kind) .none kV4 dc4 pm4 an4 cd4 ct4), sl4⟩)
    (c4 : PySem.W.codeIn K cd4 "shifting_kind" = true)
    (k4 : PySem.W.keepIn K (.ref f_shifting_kind) = true)
    (a_is_end : PySem.W.nsIn K mainGlobals "is_end" = some (some (.ref f_is_end)))
    (l5 : K.lookup f_is_end = some ⟨oc5, od5, .func (PySem.W.fnOf "is_end" "is_end" (defArgs s_is_end) (defBody s_is_end) (defScope s_is_end) .none kV5 dc5 pm5 an5 cd5 ct5), sl5⟩)
    (c5 : PySem.W.codeIn K cd5 "is_end" = true)
    (k5 : PySem.W.keepIn K (.ref f_is_end) = true)
    (a_kind_by : PySem.W.nsIn K mainGlobals "kind_by" = some (some (.ref f_kind_by)))
    (l6 : K.lookup f_kind_by = some ⟨oc6, od6, .func (PySem.W.fnOf "kind_by" "kind_by" (defArgs s_kind_by) (defBody s_kind_by) (defScope s_kind_by) .none kV6 dc6 pm6 an6 cd6 ct6), sl6⟩)
    (c6 : PySem.W.codeIn K cd6 "kind_by" = true)
    (k6 : PySem.W.keepIn K (.ref f_kind_by) = true)
    (a_settled : PySem.W.nsIn K mainGlobals "settled" = some (some (.ref f_settled)))
    (l7 : K.lookup f_settled = some ⟨oc7, od7, .func (PySem.W.fnOf "settled" "settled" (defArgs s_settled) (defBody s_settled) (defScope s_settled) .none kV7 dc7 pm7 an7 cd7 ct7), sl7⟩)
    (c7 : PySem.W.codeIn K cd7 "settled" = true)
    (k7 : PySem.W.keepIn K (.ref f_settled) = true)
    (a_words_of : PySem.W.nsIn K mainGlobals "words_of" = some (some (.ref f_words_of)))
    (l8 : K.lookup f_words_of = some ⟨oc8, od8, .func (PySem.W.fnOf "words_of" "words_of" (defArgs s_words_of) (defBody s_words_of) (defScope s_words_of) .none kV8 dc8 pm8 an8 cd8 ct8), sl8⟩)
    (c8 : PySem.W.codeIn K cd8 "words_of" = true)
    (k8 : PySem.W.keepIn K (.ref f_words_of) = true)
    (a_part_by : PySem.W.nsIn K mainGlobals "part_by" = some (some (.ref f_part_by)))
    (l9 : K.lookup f_part_by = some ⟨oc9, od9, .func (PySem.W.fnOf "part_by" "part_by" (defArgs s_part_by) (defBody s_part_by) (defScope s_part_by) .none kV9 dc9 pm9 an9 cd9 ct9), sl9⟩)
    (c9 : PySem.W.codeIn K cd9 "part_by" = true)
    (k9 : PySem.W.keepIn K (.ref f_part_by) = true)
    (a_line_by : PySem.W.nsIn K mainGlobals "line_by" = some (some (.ref f_line_by)))
    (l10 : K.lookup f_line_by = some ⟨oc10, od10, .func (PySem.W.fnOf "line_by" "line_by" (defArgs s_line_by) (defBody s_line_by) (defScope s_line_by) .none kV10 dc10 pm10 an10 cd10 ct10), sl10⟩)
    (c10 : PySem.W.codeIn K cd10 "line_by" = true)
    (k10 : PySem.W.keepIn K (.ref f_line_by) = true)
    (a_refuse_loose : PySem.W.nsIn K mainGlobals "refuse_loose" = some (some (.ref f_refuse_loose)))
    (l11 : K.lookup f_refuse_loose = some ⟨oc11, od11, .func (PySem.W.fnOf "refuse_loose" "refuse_loose" (defArgs s_refuse_loose) (defBody s_refuse_loose) (defScope s_refuse_loose) .none kV11 dc11 pm11 an11 cd11 ct11), sl11⟩)
    (c11 : PySem.W.codeIn K cd11 "refuse_loose" = true)
    (k11 : PySem.W.keepIn K (.ref f_refuse_loose) = true)
    (a_refuse_rings : PySem.W.nsIn K mainGlobals "refuse_rings" = some (some (.ref f_refuse_rings)))
    (l12 : K.lookup f_refuse_rings = some ⟨oc12, od12, .func (PySem.W.fnOf "refuse_rings" "refuse_rings" (defArgs s_refuse_rings) (defBody s_refuse_rings) (defScope s_refuse_rings) .none kV12 dc12 pm12 an12 cd12 ct12), sl12⟩)
    (c12 : PySem.W.codeIn K cd12 "refuse_rings" = true)
    (k12 : PySem.W.keepIn K (.ref f_refuse_rings) = true)
    (a_read : PySem.W.nsIn K mainGlobals "read" = some (some (.ref f_read)))
    (l13 : K.lookup f_read = some ⟨oc13, od13, .func (PySem.W.fnOf "read" "read" (defArgs s_read) (defBody s_read) (defScope s_read) .none kV13 dc13 pm13 an13 cd13 ct13), sl13⟩)
    (c13 : PySem.W.codeIn K cd13 "read" = true)
    (k13 : PySem.W.keepIn K (.ref f_read) = true)
    (a_line_word : PySem.W.nsIn K mainGlobals "line_word" = some (some (.ref f_line_word)))
    (l14 : K.lookup f_line_word = some ⟨oc14, od14, .func (PySem.W.fnOf "line_word" "line_word" (defArgs s_line_word) (defBody s_line_word) (defScope s_line_word) .none kV14 dc14 pm14 an14 cd14 ct14), sl14⟩)
    (c14 : PySem.W.codeIn K cd14 "line_word" = true)
    (k14 : PySem.W.keepIn K (.ref f_line_word) = true)
    (a_shown : PySem.W.nsIn K mainGlobals "shown" = some (some (.ref f_shown)))
    (l15 : K.lookup f_shown = some ⟨oc15, od15, .func (PySem.W.fnOf "shown" "shown" (defArgs s_shown) (defBody s_shown) (defScope s_shown) .none kV15 dc15 pm15 an15 cd15 ct15), sl15⟩)
    (c15 : PySem.W.codeIn K cd15 "shown" = true)
    (k15 : PySem.W.keepIn K (.ref f_shown) = true)
    (a_law_cell_at : PySem.W.nsIn K mainGlobals "_law_cell_at" = some (some (.ref f_law_cell_at)))
    (l16 : K.lookup f_law_cell_at = some ⟨oc16, od16, .func (PySem.W.fnOf "_law_cell_at" "_law_cell_at" (defArgs s_law_cell_at) (defBody s_law_cell_at) (defScope s_law_cell_at) .none kV16 dc16 pm16 an16 cd16 ct16), sl16⟩)
    (c16 : PySem.W.codeIn K cd16 "_law_cell_at" = true)
    (k16 : PySem.W.keepIn K (.ref f_law_cell_at) = true)
    (a_law_draw : PySem.W.nsIn K mainGlobals "_law_draw" = some (some (.ref f_law_draw)))
    (l17 : K.lookup f_law_draw = some ⟨oc17, od17, .func (PySem.W.fnOf "_law_draw" "_law_draw" (defArgs s_law_draw) (defBody s_law_draw) (defScope s_law_draw) .none kV17 dc17 pm17 an17 cd17 ct17), sl17⟩)
    (c17 : PySem.W.codeIn K cd17 "_law_draw" = true)
    (k17 : PySem.W.keepIn K (.ref f_law_draw) = true)
    (a_law_asks : PySem.W.nsIn K mainGlobals "_law_asks" = some (some (.ref f_law_asks)))
    (l18 : K.lookup f_law_asks = some ⟨oc18, od18, .func (PySem.W.fnOf "_law_asks" "_law_asks" (defArgs s_law_asks) (defBody s_law_asks) (defScope s_law_asks) .none kV18 dc18 pm18 an18 cd18 ct18), sl18⟩)
    (c18 : PySem.W.codeIn K cd18 "_law_asks" = true)
    (k18 : PySem.W.keepIn K (.ref f_law_asks) = true)
    (a_law_name : PySem.W.nsIn K mainGlobals "_law_name" = some (some (.ref f_law_name)))
    (l19 : K.lookup f_law_name = some ⟨oc19, od19, .func (PySem.W.fnOf "_law_name" "_law_name" (defArgs s_law_name) (defBody s_law_name) (defScope s_law_name) .none kV19 dc19 pm19 an19 cd19 ct19), sl19⟩)
    (c19 : PySem.W.codeIn K cd19 "_law_name" = true)
    (k19 : PySem.W.keepIn K (.ref f_law_name) = true)
    (a_law_word : PySem.W.nsIn K mainGlobals "_law_word" = some (some (.ref f_law_word)))
    (l20 : K.lookup f_law_word = some ⟨oc20, od20, .func (PySem.W.fnOf "_law_word" "_law_word" (defArgs s_law_word) (defBody s_law_word) (defScope s_law_word) .none kV20 dc20 pm20 an20 cd20 ct20), sl20⟩)
    (c20 : PySem.W.codeIn K cd20 "_law_word" = true)
    (k20 : PySem.W.keepIn K (.ref f_law_word) = true)
    (a_law_works : PySem.W.nsIn K mainGlobals "_law_works" = some (some (.ref f_law_works)))
    (l21 : K.lookup f_law_works = some ⟨oc21, od21, .func (PySem.W.fnOf "_law_works" "_law_works" (defArgs s_law_works) (defBody s_law_works) (defScope s_law_works) .none kV21 dc21 pm21 an21 cd21 ct21), sl21⟩)
    (c21 : PySem.W.codeIn K cd21 "_law_works" = true)
    (k21 : PySem.W.keepIn K (.ref f_law_works) = true)
    (a_law_text : PySem.W.nsIn K mainGlobals "_law_text" = some (some (.ref f_law_text)))
    (l22 : K.lookup f_law_text = some ⟨oc22, od22, .func (PySem.W.fnOf "_law_text" "_law_text" (defArgs s_law_text) (defBody s_law_text) (defScope s_law_text) .none kV22 dc22 pm22 an22 cd22 ct22), sl22⟩)
    (c22 : PySem.W.codeIn K cd22 "_law_text" = true)
    (k22 : PySem.W.keepIn K (.ref f_law_text) = true)
    (a_law_lines : PySem.W.nsIn K mainGlobals "_law_lines" = some (some (.ref f_law_lines)))
    (l23 : K.lookup f_law_lines = some ⟨oc23, od23, .func (PySem.W.fnOf "_law_lines" "_law_lines" (defArgs s_law_lines) (defBody s_law_lines) (defScope s_law_lines) .none kV23 dc23 pm23 an23 cd23 ct23), sl23⟩)
    (c23 : PySem.W.codeIn K cd23 "_law_lines" = true)
    (k23 : PySem.W.keepIn K (.ref f_law_lines) = true)
    (a_law_spread : PySem.W.nsIn K mainGlobals "_law_spread" = some (some (.ref f_law_spread)))
    (l24 : K.lookup f_law_spread = some ⟨oc24, od24, .func (PySem.W.fnOf "_law_spread" "_law_spread" (defArgs s_law_spread) (defBody s_law_spread) (defScope s_law_spread) .none kV24 dc24 pm24 an24 cd24 ct24), sl24⟩)
    (c24 : PySem.W.codeIn K cd24 "_law_spread" = true)
    (k24 : PySem.W.keepIn K (.ref f_law_spread) = true)
    (a_law_right : PySem.W.nsIn K mainGlobals "_law_right" = some (some (.ref f_law_right)))
    (l25 : K.lookup f_law_right = some ⟨oc25, od25, .func (PySem.W.fnOf "_law_right" "_law_right" (defArgs s_law_right) (defBody s_law_right) (defScope s_law_right) .none kV25 dc25 pm25 an25 cd25 ct25), sl25⟩)
    (c25 : PySem.W.codeIn K cd25 "_law_right" = true)
    (k25 : PySem.W.keepIn K (.ref f_law_right) = true)
    (a_law : PySem.W.nsIn K mainGlobals "law" = some (some (.ref f_law)))
    (l26 : K.lookup f_law = some ⟨oc26, od26, .func (PySem.W.fnOf "law" "law" (defArgs s_law) (defBody s_law) (defScope s_law) .none kV26 dc26 pm26 an26 cd26 ct26), sl26⟩)
    (c26 : PySem.W.codeIn K cd26 "law" = true)
    (k26 : PySem.W.keepIn K (.ref f_law) = true)
    (a_Kind_init : PySem.W.findIn K (.ref CKind) "__init__" = some (some (.ref f_Kind_init)))
    (i_Kind_init : PySem.W.isFn K (.ref f_Kind_init) = true)
    (l27 : K.lookup f_Kind_init = some ⟨oc27, od27, .func (PySem.W.fnOf "__init__" "Kind.__init__" (defArgs s_Kind_init) (defBody s_Kind_init) (defScope s_Kind_init) .none kV27 dc27 pm27 an27 cd27 ct27), sl27⟩)
    (c27 : PySem.W.codeIn K cd27 "Kind.__init__" = true)
    (k27 : PySem.W.keepIn K (.ref f_Kind_init) = true)
    (a_Kind_lines : PySem.W.findIn K (.ref CKind) "lines" = some (some (.ref f_Kind_lines)))
    (i_Kind_lines : PySem.W.isFn K (.ref f_Kind_lines) = true)
    (l28 : K.lookup f_Kind_lines = some ⟨oc28, od28, .func (PySem.W.fnOf "lines" "Kind.lines" (defArgs s_Kind_lines) (defBody s_Kind_lines) (defScope s_Kind_lines) .none kV28 dc28 pm28 an28 cd28 ct28), sl28⟩)
    (c28 : PySem.W.codeIn K cd28 "Kind.lines" = true)
    (k28 : PySem.W.keepIn K (.ref f_Kind_lines) = true)
    (a_Kind_word : PySem.W.findIn K (.ref CKind) "word" = some (some (.ref f_Kind_word)))
    (i_Kind_word : PySem.W.isFn K (.ref f_Kind_word) = true)
    (l29 : K.lookup f_Kind_word = some ⟨oc29, od29, .func (PySem.W.fnOf "word" "Kind.word" (defArgs s_Kind_word) (defBody s_Kind_word) (defScope s_Kind_word) .none kV29 dc29 pm29 an29 cd29 ct29), sl29⟩)
    (c29 : PySem.W.codeIn K cd29 "Kind.word" = true)
    (k29 : PySem.W.keepIn K (.ref f_Kind_word) = true)
    (a_Source_init : PySem.W.findIn K (.ref CSource) "__init__" = some (some (.ref f_Source_init)))
    (i_Source_init : PySem.W.isFn K (.ref f_Source_init) = true)
    (l30 : K.lookup f_Source_init = some ⟨oc30, od30, .func (PySem.W.fnOf "__init__" "Source.__init__" (defArgs s_Source_init) (defBody s_Source_init) (defScope s_Source_init) .none kV30 dc30 pm30 an30 cd30 ct30), sl30⟩)
    (c30 : PySem.W.codeIn K cd30 "Source.__init__" = true)
    (k30 : PySem.W.keepIn K (.ref f_Source_init) = true)
    (a_Sink_init : PySem.W.findIn K (.ref CSink) "__init__" = some (some (.ref f_Sink_init)))
    (i_Sink_init : PySem.W.isFn K (.ref f_Sink_init) = true)
    (l31 : K.lookup f_Sink_init = some ⟨oc31, od31, .func (PySem.W.fnOf "__init__" "Sink.__init__" (defArgs s_Sink_init) (defBody s_Sink_init) (defScope s_Sink_init) .none kV31 dc31 pm31 an31 cd31 ct31), sl31⟩)
    (c31 : PySem.W.codeIn K cd31 "Sink.__init__" = true)
    (k31 : PySem.W.keepIn K (.ref f_Sink_init) = true)
    (a_Both_init : PySem.W.findIn K (.ref CBoth) "__init__" = some (some (.ref f_Both_init)))
    (i_Both_init : PySem.W.isFn K (.ref f_Both_init) = true)
    (l32 : K.lookup f_Both_init = some ⟨oc32, od32, .func (PySem.W.fnOf "__init__" "Both.__init__" (defArgs s_Both_init) (defBody s_Both_init) (defScope s_Both_init) .none kV32 dc32 pm32 an32 cd32 ct32), sl32⟩)
    (c32 : PySem.W.codeIn K cd32 "Both.__init__" = true)
    (k32 : PySem.W.keepIn K (.ref f_Both_init) = true)
    (a_Either_init : PySem.W.findIn K (.ref CEither) "__init__" = some (some (.ref f_Either_init)))
    (i_Either_init : PySem.W.isFn K (.ref f_Either_init) = true)
    (l33 : K.lookup f_Either_init = some ⟨oc33, od33, .func (PySem.W.fnOf "__init__" "Either.__init__" (defArgs s_Either_init) (defBody s_Either_init) (defScope s_Either_init) .none kV33 dc33 pm33 an33 cd33 ct33), sl33⟩)
    (c33 : PySem.W.codeIn K cd33 "Either.__init__" = true)
    (k33 : PySem.W.keepIn K (.ref f_Either_init) = true)
    (a_Odd_init : PySem.W.findIn K (.ref COdd) "__init__" = some (some (.ref f_Odd_init)))
    (i_Odd_init : PySem.W.isFn K (.ref f_Odd_init) = true)
    (l34 : K.lookup f_Odd_init = some ⟨oc34, od34, .func (PySem.W.fnOf "__init__" "Odd.__init__" (defArgs s_Odd_init) (defBody s_Odd_init) (defScope s_Odd_init) .none kV34 dc34 pm34 an34 cd34 ct34), sl34⟩)
    (c34 : PySem.W.codeIn K cd34 "Odd.__init__" = true)
    (k34 : PySem.W.keepIn K (.ref f_Odd_init) = true)
    (a_Plus_init : PySem.W.findIn K (.ref CPlus) "__init__" = some (some (.ref f_Plus_init)))
    (i_Plus_init : PySem.W.isFn K (.ref f_Plus_init) = true)
    (l35 : K.lookup f_Plus_init = some ⟨oc35, od35, .func (PySem.W.fnOf "__init__" "Plus.__init__" (defArgs s_Plus_init) (defBody s_Plus_init) (defScope s_Plus_init) .none kV35 dc35 pm35 an35 cd35 ct35), sl35⟩)
    (c35 : PySem.W.codeIn K cd35 "Plus.__init__" = true)
    (k35 : PySem.W.keepIn K (.ref f_Plus_init) = true)
    (a_Pick_init : PySem.W.findIn K (.ref CPick) "__init__" = some (some (.ref f_Pick_init)))
    (i_Pick_init : PySem.W.isFn K (.ref f_Pick_init) = true)
    (l36 : K.lookup f_Pick_init = some ⟨oc36, od36, .func (PySem.W.fnOf "__init__" "Pick.__init__" (defArgs s_Pick_init) (defBody s_Pick_init) (defScope s_Pick_init) .none kV36 dc36 pm36 an36 cd36 ct36), sl36⟩)
    (c36 : PySem.W.codeIn K cd36 "Pick.__init__" = true)
    (k36 : PySem.W.keepIn K (.ref f_Pick_init) = true)
    (a_Up_init : PySem.W.findIn K (.ref CUp) "__init__" = some (some (.ref f_Up_init)))
    (i_Up_init : PySem.W.isFn K (.ref f_Up_init) = true)
    (l37 : K.lookup f_Up_init = some ⟨oc37, od37, .func (PySem.W.fnOf "__init__" "Up.__init__" (defArgs s_Up_init) (defBody s_Up_init) (defScope s_Up_init) .none kV37 dc37 pm37 an37 cd37 ct37), sl37⟩)
    (c37 : PySem.W.codeIn K cd37 "Up.__init__" = true)
    (k37 : PySem.W.keepIn K (.ref f_Up_init) = true)
    (a_Down_init : PySem.W.findIn K (.ref CDown) "__init__" = some (some (.ref f_Down_init)))
    (i_Down_init : PySem.W.isFn K (.ref f_Down_init) = true)
    (l38 : K.lookup f_Down_init = some ⟨oc38, od38, .func (PySem.W.fnOf "__init__" "Down.__init__" (defArgs s_Down_init) (defBody s_Down_init) (defScope s_Down_init) .none kV38 dc38 pm38 an38 cd38 ct38), sl38⟩)
    (c38 : PySem.W.codeIn K cd38 "Down.__init__" = true)
    (k38 : PySem.W.keepIn K (.ref f_Down_init) = true)
    (a_Works_init : PySem.W.findIn K (.ref CWorks) "__init__" = some (some (.ref f_Works_init)))
    (i_Works_init : PySem.W.isFn K (.ref f_Works_init) = true)
    (l39 : K.lookup f_Works_init = some ⟨oc39, od39, .func (PySem.W.fnOf "__init__" "Works.__init__" (defArgs s_Works_init) (defBody s_Works_init) (defScope s_Works_init) .none kV39 dc39 pm39 an39 cd39 ct39), sl39⟩)
    (c39 : PySem.W.codeIn K cd39 "Works.__init__" = true)
    (k39 : PySem.W.keepIn K (.ref f_Works_init) = true)
    (a_Works_names : PySem.W.findIn K (.ref CWorks) "names" = some (some (.ref f_Works_names)))
    (i_Works_names : PySem.W.isFn K (.ref f_Works_names) = true)
    (l40 : K.lookup f_Works_names = some ⟨oc40, od40, .func (PySem.W.fnOf "names" "Works.names" (defArgs s_Works_names) (defBody s_Works_names) (defScope s_Works_names) .none kV40 dc40 pm40 an40 cd40 ct40), sl40⟩)
    (c40 : PySem.W.codeIn K cd40 "Works.names" = true)
    (k40 : PySem.W.keepIn K (.ref f_Works_names) = true)
    (a_Works_kind : PySem.W.findIn K (.ref CWorks) "kind" = some (some (.ref f_Works_kind)))
    (i_Works_kind : PySem.W.isFn K (.ref f_Works_kind) = true)
    (l41 : K.lookup f_Works_kind = some ⟨oc41, od41, .func (PySem.W.fnOf "kind" "Works.kind" (defArgs s_Works_kind) (defBody s_Works_kind) (defScope s_Works_kind) .none kV41 dc41 pm41 an41 cd41 ct41), sl41⟩)
    (c41 : PySem.W.codeIn K cd41 "Works.kind" = true)
    (k41 : PySem.W.keepIn K (.ref f_Works_kind) = true)
    (a_Works_time : PySem.W.findIn K (.ref CWorks) "time" = some (some (.ref f_Works_time)))
    (i_Works_time : PySem.W.isFn K (.ref f_Works_time) = true)
    (l42 : K.lookup f_Works_time = some ⟨oc42, od42, .func (PySem.W.fnOf "time" "Works.time" (defArgs s_Works_time) (defBody s_Works_time) (defScope s_Works_time) .none kV42 dc42 pm42 an42 cd42 ct42), sl42⟩)
    (c42 : PySem.W.codeIn K cd42 "Works.time" = true)
    (k42 : PySem.W.keepIn K (.ref f_Works_time) = true)
    (a_Works_lines : PySem.W.findIn K (.ref CWorks) "lines" = some (some (.ref f_Works_lines)))
    (i_Works_lines : PySem.W.isFn K (.ref f_Works_lines) = true)
    (l43 : K.lookup f_Works_lines = some ⟨oc43, od43, .func (PySem.W.fnOf "lines" "Works.lines" (defArgs s_Works_lines) (defBody s_Works_lines) (defScope s_Works_lines) .none kV43 dc43 pm43 an43 cd43 ct43), sl43⟩)
    (c43 : PySem.W.codeIn K cd43 "Works.lines" = true)
    (k43 : PySem.W.keepIn K (.ref f_Works_lines) = true)
    (w_Source : PySem.W.findIn K (.ref CSource) "word" = some (some (.ref f_Kind_word)))
    (n_Source : PySem.W.findIn K (.ref CSource) "lines" = some (some (.ref f_Kind_lines)))
    (pgSource : PySem.W.plainGet K CSource Str.empty = true)
    (hdSource : PySem.W.hasDictIn K CSource = true)
    (poSource : PySem.W.plainOver K CSource = true)
    (saSource : PySem.W.findIn K (.ref CSource) "__setattr__" = some (some (.builtin "object.__setattr__")))
    (mkSource : PySem.W.makesIn K CSource = true)
    (kcSource : PySem.W.keepIn K (.ref CSource) = true)
    (nTSource : PySem.W.findIn K (.ref CSource) "told" = some none)
    (nASource : PySem.W.findIn K (.ref CSource) "asked" = some none)
    (nCSource : PySem.W.findIn K (.ref CSource) "count" = some none)
    (tySource : PySem.W.findIn K (.ref CSource) "__class__" = some (some (.builtin "object.__class__")))
    (mrSource : PySem.W.mroIn K CSource (.type "object") = some true)
    (kkSource : PySem.W.kitOne K (.ref CSource) (.ref CSink) = some false)
    (w_Sink : PySem.W.findIn K (.ref CSink) "word" = some (some (.ref f_Kind_word)))
    (n_Sink : PySem.W.findIn K (.ref CSink) "lines" = some (some (.ref f_Kind_lines)))
    (pgSink : PySem.W.plainGet K CSink Str.empty = true)
    (hdSink : PySem.W.hasDictIn K CSink = true)
    (poSink : PySem.W.plainOver K CSink = true)
    (saSink : PySem.W.findIn K (.ref CSink) "__setattr__" = some (some (.builtin "object.__setattr__")))
    (mkSink : PySem.W.makesIn K CSink = true)
    (kcSink : PySem.W.keepIn K (.ref CSink) = true)
    (nTSink : PySem.W.findIn K (.ref CSink) "told" = some none)
    (nASink : PySem.W.findIn K (.ref CSink) "asked" = some none)
    (nCSink : PySem.W.findIn K (.ref CSink) "count" = some none)
    (tySink : PySem.W.findIn K (.ref CSink) "__class__" = some (some (.builtin "object.__class__")))
    (mrSink : PySem.W.mroIn K CSink (.type "object") = some true)
    (ksSink : PySem.W.kitOne K (.ref CSink) (.ref CSource) = some false)
    (w_Both : PySem.W.findIn K (.ref CBoth) "word" = some (some (.ref f_Kind_word)))
    (n_Both : PySem.W.findIn K (.ref CBoth) "lines" = some (some (.ref f_Kind_lines)))
    (pgBoth : PySem.W.plainGet K CBoth Str.empty = true)
    (hdBoth : PySem.W.hasDictIn K CBoth = true)
    (poBoth : PySem.W.plainOver K CBoth = true)
    (saBoth : PySem.W.findIn K (.ref CBoth) "__setattr__" = some (some (.builtin "object.__setattr__")))
    (mkBoth : PySem.W.makesIn K CBoth = true)
    (kcBoth : PySem.W.keepIn K (.ref CBoth) = true)
    (nTBoth : PySem.W.findIn K (.ref CBoth) "told" = some none)
    (nABoth : PySem.W.findIn K (.ref CBoth) "asked" = some none)
    (nCBoth : PySem.W.findIn K (.ref CBoth) "count" = some none)
    (tyBoth : PySem.W.findIn K (.ref CBoth) "__class__" = some (some (.builtin "object.__class__")))
    (mrBoth : PySem.W.mroIn K CBoth (.type "object") = some true)
    (ksBoth : PySem.W.kitOne K (.ref CBoth) (.ref CSource) = some false)
    (kkBoth : PySem.W.kitOne K (.ref CBoth) (.ref CSink) = some false)
    (w_Either : PySem.W.findIn K (.ref CEither) "word" = some (some (.ref f_Kind_word)))
    (n_Either : PySem.W.findIn K (.ref CEither) "lines" = some (some (.ref f_Kind_lines)))
    (pgEither : PySem.W.plainGet K CEither Str.empty = true)
    (hdEither : PySem.W.hasDictIn K CEither = true)
    (poEither : PySem.W.plainOver K CEither = true)
    (saEither : PySem.W.findIn K (.ref CEither) "__setattr__" = some (some (.builtin "object.__setattr__")))
    (mkEither : PySem.W.makesIn K CEither = true)
    (kcEither : PySem.W.keepIn K (.ref CEither) = true)
    (nTEither : PySem.W.findIn K (.ref CEither) "told" = some none)
    (nAEither : PySem.W.findIn K (.ref CEither) "asked" = some none)
    (nCEither : PySem.W.findIn K (.ref CEither) "count" = some none)
    (tyEither : PySem.W.findIn K (.ref CEither) "__class__" = some (some (.builtin "object.__class__")))
    (mrEither : PySem.W.mroIn K CEither (.type "object") = some true)
    (ksEither : PySem.W.kitOne K (.ref CEither) (.ref CSource) = some false)
    (kkEither : PySem.W.kitOne K (.ref CEither) (.ref CSink) = some false)
    (w_Odd : PySem.W.findIn K (.ref COdd) "word" = some (some (.ref f_Kind_word)))
    (n_Odd : PySem.W.findIn K (.ref COdd) "lines" = some (some (.ref f_Kind_lines)))
    (pgOdd : PySem.W.plainGet K COdd Str.empty = true)
    (hdOdd : PySem.W.hasDictIn K COdd = true)
    (poOdd : PySem.W.plainOver K COdd = true)
    (saOdd : PySem.W.findIn K (.ref COdd) "__setattr__" = some (some (.builtin "object.__setattr__")))
    (mkOdd : PySem.W.makesIn K COdd = true)
    (kcOdd : PySem.W.keepIn K (.ref COdd) = true)
    (nTOdd : PySem.W.findIn K (.ref COdd) "told" = some none)
    (nAOdd : PySem.W.findIn K (.ref COdd) "asked" = some none)
    (nCOdd : PySem.W.findIn K (.ref COdd) "count" = some none)
    (tyOdd : PySem.W.findIn K (.ref COdd) "__class__" = some (some (.builtin "object.__class__")))
    (mrOdd : PySem.W.mroIn K COdd (.type "object") = some true)
    (ksOdd : PySem.W.kitOne K (.ref COdd) (.ref CSource) = some false)
    (kkOdd : PySem.W.kitOne K (.ref COdd) (.ref CSink) = some false)
    (w_Plus : PySem.W.findIn K (.ref CPlus) "word" = some (some (.ref f_Kind_word)))
    (n_Plus : PySem.W.findIn K (.ref CPlus) "lines" = some (some (.ref f_Kind_lines)))
    (pgPlus : PySem.W.plainGet K CPlus Str.empty = true)
    (hdPlus : PySem.W.hasDictIn K CPlus = true)
    (poPlus : PySem.W.plainOver K CPlus = true)
    (saPlus : PySem.W.findIn K (.ref CPlus) "__setattr__" = some (some (.builtin "object.__setattr__")))
    (mkPlus : PySem.W.makesIn K CPlus = true)
    (kcPlus : PySem.W.keepIn K (.ref CPlus) = true)
    (nTPlus : PySem.W.findIn K (.ref CPlus) "told" = some none)
    (nAPlus : PySem.W.findIn K (.ref CPlus) "asked" = some none)
    (nCPlus : PySem.W.findIn K (.ref CPlus) "count" = some none)
    (tyPlus : PySem.W.findIn K (.ref CPlus) "__class__" = some (some (.builtin "object.__class__")))
    (mrPlus : PySem.W.mroIn K CPlus (.type "object") = some true)
    (ksPlus : PySem.W.kitOne K (.ref CPlus) (.ref CSource) = some false)
    (kkPlus : PySem.W.kitOne K (.ref CPlus) (.ref CSink) = some false)
    (w_Pick : PySem.W.findIn K (.ref CPick) "word" = some (some (.ref f_Kind_word)))
    (n_Pick : PySem.W.findIn K (.ref CPick) "lines" = some (some (.ref f_Kind_lines)))
    (pgPick : PySem.W.plainGet K CPick Str.empty = true)
    (hdPick : PySem.W.hasDictIn K CPick = true)
    (poPick : PySem.W.plainOver K CPick = true)
    (saPick : PySem.W.findIn K (.ref CPick) "__setattr__" = some (some (.builtin "object.__setattr__")))
    (mkPick : PySem.W.makesIn K CPick = true)
    (kcPick : PySem.W.keepIn K (.ref CPick) = true)
    (nTPick : PySem.W.findIn K (.ref CPick) "told" = some none)
    (nAPick : PySem.W.findIn K (.ref CPick) "asked" = some none)
    (nCPick : PySem.W.findIn K (.ref CPick) "count" = some none)
    (tyPick : PySem.W.findIn K (.ref CPick) "__class__" = some (some (.builtin "object.__class__")))
    (mrPick : PySem.W.mroIn K CPick (.type "object") = some true)
    (ksPick : PySem.W.kitOne K (.ref CPick) (.ref CSource) = some false)
    (kkPick : PySem.W.kitOne K (.ref CPick) (.ref CSink) = some false)
    (w_Up : PySem.W.findIn K (.ref CUp) "word" = some (some (.ref f_Kind_word)))
    (n_Up : PySem.W.findIn K (.ref CUp) "lines" = some (some (.ref f_Kind_lines)))
    (pgUp : PySem.W.plainGet K CUp Str.empty = true)
    (hdUp : PySem.W.hasDictIn K CUp = true)
    (poUp : PySem.W.plainOver K CUp = true)
    (saUp : PySem.W.findIn K (.ref CUp) "__setattr__" = some (some (.builtin "object.__setattr__")))
    (mkUp : PySem.W.makesIn K CUp = true)
    (kcUp : PySem.W.keepIn K (.ref CUp) = true)
    (nTUp : PySem.W.findIn K (.ref CUp) "told" = some none)
    (nAUp : PySem.W.findIn K (.ref CUp) "asked" = some none)
    (nCUp : PySem.W.findIn K (.ref CUp) "count" = some none)
    (tyUp : PySem.W.findIn K (.ref CUp) "__class__" = some (some (.builtin "object.__class__")))
    (mrUp : PySem.W.mroIn K CUp (.type "object") = some true)
    (ksUp : PySem.W.kitOne K (.ref CUp) (.ref CSource) = some false)
    (kkUp : PySem.W.kitOne K (.ref CUp) (.ref CSink) = some false)
    (w_Down : PySem.W.findIn K (.ref CDown) "word" = some (some (.ref f_Kind_word)))
    (n_Down : PySem.W.findIn K (.ref CDown) "lines" = some (some (.ref f_Kind_lines)))
    (pgDown : PySem.W.plainGet K CDown Str.empty = true)
    (hdDown : PySem.W.hasDictIn K CDown = true)
    (poDown : PySem.W.plainOver K CDown = true)
    (saDown : PySem.W.findIn K (.ref CDown) "__setattr__" = some (some (.builtin "object.__setattr__")))
    (mkDown : PySem.W.makesIn K CDown = true)
    (kcDown : PySem.W.keepIn K (.ref CDown) = true)
    (nTDown : PySem.W.findIn K (.ref CDown) "told" = some none)
    (nADown : PySem.W.findIn K (.ref CDown) "asked" = some none)
    (nCDown : PySem.W.findIn K (.ref CDown) "count" = some none)
    (tyDown : PySem.W.findIn K (.ref CDown) "__class__" = some (some (.builtin "object.__class__")))
    (mrDown : PySem.W.mroIn K CDown (.type "object") = some true)
    (ksDown : PySem.W.kitOne K (.ref CDown) (.ref CSource) = some false)
    (kkDown : PySem.W.kitOne K (.ref CDown) (.ref CSink) = some false)
    (pgWorks : PySem.W.plainGet K CWorks Str.empty = true)
    (hdWorks : PySem.W.hasDictIn K CWorks = true)
    (poWorks : PySem.W.plainOver K CWorks = true)
    (saWorks : PySem.W.findIn K (.ref CWorks) "__setattr__" = some (some (.builtin "object.__setattr__")))
    (mkWorks : PySem.W.makesIn K CWorks = true)
    (kcWorks : PySem.W.keepIn K (.ref CWorks) = true)
    (nPWorks : PySem.W.findIn K (.ref CWorks) "parts" = some none)
    (nJWorks : PySem.W.findIn K (.ref CWorks) "joints" = some none)
    (g1 : PySem.W.specialIn K (.builtin "object.__class__") "__get__" = some (some (.builtin "getset_descriptor.__get__")))
    (g2 : PySem.W.takesIn K (.builtin "object.__class__") = some true)
    (b1 : PySem.W.specialIn K (.ref CKind) "__getattribute__" = some (some (.builtin "type.__getattribute__")))
    (b2 : PySem.W.readsIn K CKind (.type "type") = true)
    (b3 : PySem.W.findCls K (.ref CKind) (.type "type") "__init__" = some (.val (.ref f_Kind_init)))
    (vFIGURES : PySem.W.nsIn K mainGlobals "FIGURES" = some (some (.str figs tFIGURES)))
    (vNAME_SIGNS : PySem.W.nsIn K mainGlobals "NAME_SIGNS" = some (some (.str nameSigns tNAME_SIGNS)))
    (vLONGEST_NAME : PySem.W.nsIn K mainGlobals "LONGEST_NAME" = some (some (.int 8 tLONGEST_NAME)))
    (vMOST_PLACES : PySem.W.nsIn K mainGlobals "MOST_PLACES" = some (some (.int 63 tMOST_PLACES)))
    (vMOST_PARTS : PySem.W.nsIn K mainGlobals "MOST_PARTS" = some (some (.int 60 tMOST_PARTS)))
    (vMOST_TIME : PySem.W.nsIn K mainGlobals "MOST_TIME" = some (some (.int 1000 tMOST_TIME)))
    (vMOST_STORES : PySem.W.nsIn K mainGlobals "MOST_STORES" = some (some (.int 100 tMOST_STORES)))
    (z_all : PySem.W.nsIn K mainGlobals "all" = some none)
    (z_len : PySem.W.nsIn K mainGlobals "len" = some none)
    (z_str : PySem.W.nsIn K mainGlobals "str" = some none)
    (z_int : PySem.W.nsIn K mainGlobals "int" = some none)
    (z_range : PySem.W.nsIn K mainGlobals "range" = some none)
    (z_isinstance : PySem.W.nsIn K mainGlobals "isinstance" = some none)
    (z_list : PySem.W.nsIn K mainGlobals "list" = some none)
    (z_enumerate : PySem.W.nsIn K mainGlobals "enumerate" = some none) :
    ∃ fd : FuncData, (∀ (s : Shared) (v : Value), BindsTo s fd ⟨[v], []⟩ [("_law_script", v)]) ∧ ∀ base : Heap, K.In base → base.Ns mainGlobals mg → FnOk l.prog w K mg base CX0 8 fa fd ["_law_script"] (spLaw K) := by
  have e := hfa.symm.trans (PySem.W.mg_of X G a_law)
  cases e
  let c : Cs := ⟨CSource, CSink, CBoth, CEither, COdd, CPlus, CPick, CUp, CDown⟩
  have F0 := fun_mk (st := s_made_of) l0 c0 k0
  have b0' := F0.binds (ps := ["word", "signs"]) fun _ _ _ _ _ _ us hl => match us, hl with | [_, _], _ => rfl
  have F1 := fun_mk (st := s_is_name) l1 c1 k1
  have b1' := F1.binds (ps := ["word"]) fun _ _ _ _ _ _ us hl => match us, hl with | [_], _ => rfl
  have F2 := fun_mk (st := s_number_by) l2 c2 k2
  have b2' := F2.binds (ps := ["word", "most"]) fun _ _ _ _ _ _ us hl => match us, hl with | [_, _], _ => rfl
  have F3 := fun_mk (st := s_plain_kind) l3 c3 k3
  have b3' := F3.binds (ps := ["word"]) fun _ _ _ _ _ _ us hl => match us, hl with | [_], _ => rfl
  have F4 := fun_mk (st := s_shifting_kind) l4 c4 k4
  have b4' := F4.binds (ps := ["word", "count"]) fun _ _ _ _ _ _ us hl => match us, hl with | [_, _], _ => rfl
  have F5 := fun_mk (st := s_is_end) l5 c5 k5
  have b5' := F5.binds (ps := ["kind"]) fun _ _ _ _ _ _ us hl => match us, hl with | [_], _ => rfl
  have F6 := fun_mk (st := s_kind_by) l6 c6 k6
  have b6' := F6.binds (ps := ["word"]) fun _ _ _ _ _ _ us hl => match us, hl with | [_], _ => rfl
  have F7 := fun_mk (st := s_settled) l7 c7 k7
  have b7' := F7.binds (ps := ["works"]) fun _ _ _ _ _ _ us hl => match us, hl with | [_], _ => rfl
  have F8 := fun_mk (st := s_words_of) l8 c8 k8
  have b8' := F8.binds (ps := ["row"]) fun _ _ _ _ _ _ us hl => match us, hl with | [_], _ => rfl
  have F9 := fun_mk (st := s_part_by) l9 c9 k9
  have b9' := F9.binds (ps := ["words", "place"]) fun _ _ _ _ _ _ us hl => match us, hl with | [_, _], _ => rfl
  have F10 := fun_mk (st := s_line_by) l10 c10 k10
  have b10' := F10.binds (ps := ["word", "end", "place"]) fun _ _ _ _ _ _ us hl => match us, hl with | [_, _, _], _ => rfl
  have F11 := fun_mk (st := s_refuse_loose) l11 c11 k11
  have b11' := F11.binds (ps := ["works", "places"]) fun _ _ _ _ _ _ us hl => match us, hl with | [_, _], _ => rfl
  have F12 := fun_mk (st := s_refuse_rings) l12 c12 k12
  have b12' := F12.binds (ps := ["works"]) fun _ _ _ _ _ _ us hl => match us, hl with | [_], _ => rfl
  have F13 := fun_mk (st := s_read) l13 c13 k13
  have b13' := F13.binds (ps := ["text"]) fun _ _ _ _ _ _ us hl => match us, hl with | [_], _ => rfl
  have F14 := fun_mk (st := s_line_word) l14 c14 k14
  have b14' := F14.binds (ps := ["start", "stores"]) fun _ _ _ _ _ _ us hl => match us, hl with | [_, _], _ => rfl
  have F15 := fun_mk (st := s_shown) l15 c15 k15
  have b15' := F15.binds (ps := ["works"]) fun _ _ _ _ _ _ us hl => match us, hl with | [_], _ => rfl
  have F16 := fun_mk (st := s_law_cell_at) l16 c16 k16
  have b16' := F16.binds (ps := ["_law_script", "_law_k"]) fun _ _ _ _ _ _ us hl => match us, hl with | [_, _], _ => rfl
  have F17 := fun_mk (st := s_law_draw) l17 c17 k17
  have b17' := F17.binds (ps := ["_law_cell", "_law_k", "_law_many"]) fun _ _ _ _ _ _ us hl => match us, hl with | [_, _, _], _ => rfl
  have F18 := fun_mk (st := s_law_asks) l18 c18 k18
  have b18' := F18.binds (ps := ["_law_word_here"]) fun _ _ _ _ _ _ us hl => match us, hl with | [_], _ => rfl
  have F19 := fun_mk (st := s_law_name) l19 c19 k19
  have b19' := F19.binds (ps := ["_law_k", "_law_mark"]) fun _ _ _ _ _ _ us hl => match us, hl with | [_, _], _ => rfl
  have F20 := fun_mk (st := s_law_word) l20 c20 k20
  have b20' := F20.binds (ps := ["_law_cell", "_law_k"]) fun _ _ _ _ _ _ us hl => match us, hl with | [_, _], _ => rfl
  have F21 := fun_mk (st := s_law_works) l21 c21 k21
  have b21' := F21.binds (ps := ["_law_script", "_law_most"]) fun _ _ _ _ _ _ us hl => match us, hl with | [_, _], _ => rfl
  have F22 := fun_mk (st := s_law_text) l22 c22 k22
  have b22' := F22.binds (ps := ["_law_parts"]) fun _ _ _ _ _ _ us hl => match us, hl with | [_], _ => rfl
  have F23 := fun_mk (st := s_law_lines) l23 c23 k23
  have b23' := F23.binds (ps := ["_law_parts"]) fun _ _ _ _ _ _ us hl => match us, hl with | [_], _ => rfl
  have F24 := fun_mk (st := s_law_spread) l24 c24 k24
  have b24' := F24.binds (ps := ["_law_text_here", "_law_cell"]) fun _ _ _ _ _ _ us hl => match us, hl with | [_, _], _ => rfl
  have F25 := fun_mk (st := s_law_right) l25 c25 k25
  have b25' := F25.binds (ps := ["_law_works_here", "_law_parts"]) fun _ _ _ _ _ _ us hl => match us, hl with | [_, _], _ => rfl
  have F26 := fun_mk (st := s_law) l26 c26 k26
  have b26' := F26.binds (ps := ["_law_script"]) fun _ _ _ _ _ _ us hl => match us, hl with | [_], _ => rfl
  have F27 := fun_mk (st := s_Kind_init) l27 c27 k27
  have b27' := F27.binds (ps := ["self", "told", "asked"]) fun _ _ _ _ _ _ us hl => match us, hl with | [_, _, _], _ => rfl
  have F28 := fun_mk (st := s_Kind_lines) l28 c28 k28
  have b28' := F28.binds (ps := ["self"]) fun _ _ _ _ _ _ us hl => match us, hl with | [_], _ => rfl
  have F29 := fun_mk (st := s_Kind_word) l29 c29 k29
  have b29' := F29.binds (ps := ["self"]) fun _ _ _ _ _ _ us hl => match us, hl with | [_], _ => rfl
  have F30 := fun_mk (st := s_Source_init) l30 c30 k30
  have b30' := F30.binds (ps := ["self"]) fun _ _ _ _ _ _ us hl => match us, hl with | [_], _ => rfl
  have F31 := fun_mk (st := s_Sink_init) l31 c31 k31
  have b31' := F31.binds (ps := ["self"]) fun _ _ _ _ _ _ us hl => match us, hl with | [_], _ => rfl
  have F32 := fun_mk (st := s_Both_init) l32 c32 k32
  have b32' := F32.binds (ps := ["self"]) fun _ _ _ _ _ _ us hl => match us, hl with | [_], _ => rfl
  have F33 := fun_mk (st := s_Either_init) l33 c33 k33
  have b33' := F33.binds (ps := ["self"]) fun _ _ _ _ _ _ us hl => match us, hl with | [_], _ => rfl
  have F34 := fun_mk (st := s_Odd_init) l34 c34 k34
  have b34' := F34.binds (ps := ["self"]) fun _ _ _ _ _ _ us hl => match us, hl with | [_], _ => rfl
  have F35 := fun_mk (st := s_Plus_init) l35 c35 k35
  have b35' := F35.binds (ps := ["self"]) fun _ _ _ _ _ _ us hl => match us, hl with | [_], _ => rfl
  have F36 := fun_mk (st := s_Pick_init) l36 c36 k36
  have b36' := F36.binds (ps := ["self"]) fun _ _ _ _ _ _ us hl => match us, hl with | [_], _ => rfl
  have F37 := fun_mk (st := s_Up_init) l37 c37 k37
  have b37' := F37.binds (ps := ["self", "count"]) fun _ _ _ _ _ _ us hl => match us, hl with | [_, _], _ => rfl
  have F38 := fun_mk (st := s_Down_init) l38 c38 k38
  have b38' := F38.binds (ps := ["self", "count"]) fun _ _ _ _ _ _ us hl => match us, hl with | [_, _], _ => rfl
  have F39 := fun_mk (st := s_Works_init) l39 c39 k39
  have b39' := F39.binds (ps := ["self", "parts", "lines"]) fun _ _ _ _ _ _ us hl => match us, hl with | [_, _, _], _ => rfl
  have F40 := fun_mk (st := s_Works_names) l40 c40 k40
  have b40' := F40.binds (ps := ["self"]) fun _ _ _ _ _ _ us hl => match us, hl with | [_], _ => rfl
  have F41 := fun_mk (st := s_Works_kind) l41 c41 k41
  have b41' := F41.binds (ps := ["self", "name"]) fun _ _ _ _ _ _ us hl => match us, hl with | [_, _], _ => rfl
  have F42 := fun_mk (st := s_Works_time) l42 c42 k42
  have b42' := F42.binds (ps := ["self", "name"]) fun _ _ _ _ _ _ us hl => match us, hl with | [_, _], _ => rfl
  have F43 := fun_mk (st := s_Works_lines) l43 c43 k43
  have b43' := F43.binds (ps := ["self"]) fun _ _ _ _ _ _ us hl => match us, hl with | [_], _ => rfl
  have ckSource : ClsOk K CSource := ⟨⟨pgSource, hdSource, poSource, saSource⟩, nTSource, nASource, nCSource⟩
  have ckSink : ClsOk K CSink := ⟨⟨pgSink, hdSink, poSink, saSink⟩, nTSink, nASink, nCSink⟩
  have ckBoth : ClsOk K CBoth := ⟨⟨pgBoth, hdBoth, poBoth, saBoth⟩, nTBoth, nABoth, nCBoth⟩
  have ckEither : ClsOk K CEither := ⟨⟨pgEither, hdEither, poEither, saEither⟩, nTEither, nAEither, nCEither⟩
  have ckOdd : ClsOk K COdd := ⟨⟨pgOdd, hdOdd, poOdd, saOdd⟩, nTOdd, nAOdd, nCOdd⟩
  have ckPlus : ClsOk K CPlus := ⟨⟨pgPlus, hdPlus, poPlus, saPlus⟩, nTPlus, nAPlus, nCPlus⟩
  have ckPick : ClsOk K CPick := ⟨⟨pgPick, hdPick, poPick, saPick⟩, nTPick, nAPick, nCPick⟩
  have ckUp : ClsOk K CUp := ⟨⟨pgUp, hdUp, poUp, saUp⟩, nTUp, nAUp, nCUp⟩
  have ckDown : ClsOk K CDown := ⟨⟨pgDown, hdDown, poDown, saDown⟩, nTDown, nADown, nCDown⟩
  have ckW : WCls K CWorks := ⟨⟨pgWorks, hdWorks, poWorks, saWorks⟩, nPWorks, nJWorks⟩
  have ok : ∀ kd, ClsOk K (c.of kd) := fun kd => by cases kd <;> assumption
  have nall := PySem.W.mg_none_of X G z_all
  have nlen := PySem.W.mg_none_of X G z_len
  have nstr := PySem.W.mg_none_of X G z_str
  have nint := PySem.W.mg_none_of X G z_int
  have nrange := PySem.W.mg_none_of X G z_range
  have nisinstance := PySem.W.mg_none_of X G z_isinstance
  have nlist := PySem.W.mg_none_of X G z_list
  have nenumerate := PySem.W.mg_none_of X G z_enumerate
  have uFIGURES : mg "FIGURES" = some (.str figs tFIGURES) ∧ RelV (.str figs) (.str figs tFIGURES) := ⟨PySem.W.mg_of X G vFIGURES, _, rfl⟩
  have uNAME_SIGNS : mg "NAME_SIGNS" = some (.str nameSigns tNAME_SIGNS) ∧ RelV (.str nameSigns) (.str nameSigns tNAME_SIGNS) := ⟨PySem.W.mg_of X G vNAME_SIGNS, _, rfl⟩
  have uLONGEST_NAME : mg "LONGEST_NAME" = some (.int 8 tLONGEST_NAME) ∧ RelV (.int 8) (.int 8 tLONGEST_NAME) := ⟨PySem.W.mg_of X G vLONGEST_NAME, _, rfl⟩
  have uMOST_PLACES : mg "MOST_PLACES" = some (.int 63 tMOST_PLACES) ∧ RelV (.int 63) (.int 63 tMOST_PLACES) := ⟨PySem.W.mg_of X G vMOST_PLACES, _, rfl⟩
  have uMOST_PARTS : mg "MOST_PARTS" = some (.int 60 tMOST_PARTS) ∧ RelV (.int 60) (.int 60 tMOST_PARTS) := ⟨PySem.W.mg_of X G vMOST_PARTS, _, rfl⟩
  have uMOST_TIME : mg "MOST_TIME" = some (.int 1000 tMOST_TIME) ∧ RelV (.int 1000) (.int 1000 tMOST_TIME) := ⟨PySem.W.mg_of X G vMOST_TIME, _, rfl⟩
  have uMOST_STORES : mg "MOST_STORES" = some (.int 100 tMOST_STORES) ∧ RelV (.int 100) (.int 100 tMOST_STORES) := ⟨PySem.W.mg_of X G vMOST_STORES, _, rfl⟩
  have uSource : mg "Source" = some (.ref CSource) ∧ RelV (.ref CSource) (.ref CSource) := ⟨PySem.W.mg_of X G aSource, rfl⟩
  have uSink : mg "Sink" = some (.ref CSink) ∧ RelV (.ref CSink) (.ref CSink) := ⟨PySem.W.mg_of X G aSink, rfl⟩
  refine ⟨PySem.W.fnOf "law" "law" (defArgs s_law) (defBody s_law) (defScope s_law) .none kV26 dc26 pm26 an26 cd26 ct26, fun s v => .of_eq rfl, fun base _ _ => ?_⟩
  have C_made_of : Cal l.prog w K mg base 1 "made_of" ["word", "signs"] spMadeOf := ⟨⟨_, _, ok_made_of F0 nall, PySem.W.mg_of X G a_made_of, k0, b0'⟩⟩
  have C_is_name : Cal l.prog w K mg base 2 "is_name" ["word"] spIsName := ⟨⟨_, _, ok_is_name F1 C_made_of uNAME_SIGNS uLONGEST_NAME nlen, PySem.W.mg_of X G a_is_name, k1, b1'⟩⟩
  have C_number_by : Cal l.prog w K mg base 2 "number_by" ["word", "most"] spNumberBy := ⟨⟨_, _, ok_number_by F2 C_made_of uFIGURES nlen nstr nint, PySem.W.mg_of X G a_number_by, k2, b2'⟩⟩
  have BK : ClsFn l.prog w K mg base 1 "Kind" "__init__" ["self", "told", "asked"] (spKindInit K) := ⟨CKind, _, _, PySem.W.mg_of X G aKind, b1, b2, b3, rfl, k27, ok_Kind_init F27, b27'⟩
  have MSource : Mkr l.prog w K mg base 2 "Source" c.src ["self"] (spSub K .src) := ⟨⟨_, _, ⟨mkSource, a_Source_init, i_Source_init, kcSource⟩, ok_Source_init F30 BK, b30'⟩, PySem.W.mg_of X G aSource⟩
  have MSink : Mkr l.prog w K mg base 2 "Sink" c.snk ["self"] (spSub K .snk) := ⟨⟨_, _, ⟨mkSink, a_Sink_init, i_Sink_init, kcSink⟩, ok_Sink_init F31 BK, b31'⟩, PySem.W.mg_of X G aSink⟩
  have MBoth : Mkr l.prog w K mg base 2 "Both" c.both ["self"] (spSub K .both) := ⟨⟨_, _, ⟨mkBoth, a_Both_init, i_Both_init, kcBoth⟩, ok_Both_init F32 BK, b32'⟩, PySem.W.mg_of X G aBoth⟩
  have MEither : Mkr l.prog w K mg base 2 "Either" c.either ["self"] (spSub K .either) := ⟨⟨_, _, ⟨mkEither, a_Either_init, i_Either_init, kcEither⟩, ok_Either_init F33 BK, b33'⟩, PySem.W.mg_of X G aEither⟩
  have MOdd : Mkr l.prog w K mg base 2 "Odd" c.odd ["self"] (spSub K .odd) := ⟨⟨_, _, ⟨mkOdd, a_Odd_init, i_Odd_init, kcOdd⟩, ok_Odd_init F34 BK, b34'⟩, PySem.W.mg_of X G aOdd⟩
  have MPlus : Mkr l.prog w K mg base 2 "Plus" c.plus ["self"] (spSub K .plus) := ⟨⟨_, _, ⟨mkPlus, a_Plus_init, i_Plus_init, kcPlus⟩, ok_Plus_init F35 BK, b35'⟩, PySem.W.mg_of X G aPlus⟩
  have MPick : Mkr l.prog w K mg base 2 "Pick" c.pick ["self"] (spSub K .pick) := ⟨⟨_, _, ⟨mkPick, a_Pick_init, i_Pick_init, kcPick⟩, ok_Pick_init F36 BK, b36'⟩, PySem.W.mg_of X G aPick⟩
  have MUp : Mkr l.prog w K mg base 2 "Up" c.up ["self", "count"] (spUp K) := ⟨⟨_, _, ⟨mkUp, a_Up_init, i_Up_init, kcUp⟩, ok_Up_init F37 BK nstr, b37'⟩, PySem.W.mg_of X G aUp⟩
  have MDown : Mkr l.prog w K mg base 2 "Down" c.down ["self", "count"] (spDown K) := ⟨⟨_, _, ⟨mkDown, a_Down_init, i_Down_init, kcDown⟩, ok_Down_init F38 BK nstr, b38'⟩, PySem.W.mg_of X G aDown⟩
  have MWorks : Mkr l.prog w K mg base 1 "Works" CWorks ["self", "parts", "lines"] (spWInit K c) := ⟨⟨_, _, ⟨mkWorks, a_Works_init, i_Works_init, kcWorks⟩, ok_Works_init F39 nlist, b39'⟩, PySem.W.mg_of X G aWorks⟩
  have C_plain_kind : Cal l.prog w K mg base 4 "plain_kind" ["word"] (spPlain c) := ⟨⟨_, _, ok_plain_kind F3 ok MSource MSink MBoth MEither MOdd MPlus MPick, PySem.W.mg_of X G a_plain_kind, k3, b3'⟩⟩
  have C_shifting_kind : Cal l.prog w K mg base 4 "shifting_kind" ["word", "count"] (spShift c) := ⟨⟨_, _, ok_shifting_kind F4 ok MUp MDown, PySem.W.mg_of X G a_shifting_kind, k4, b4'⟩⟩
  have C_kind_by : Cal l.prog w K mg base 5 "kind_by" ["word"] (spKindBy c) := ⟨⟨_, _, ok_kind_by F6 C_plain_kind C_shifting_kind C_number_by uMOST_PLACES, PySem.W.mg_of X G a_kind_by, k6, b6'⟩⟩
  have WSource : M_word l.prog w K mg base CSource (spGet K "told") := ⟨⟨_, _, _, ⟨w_Source, i_Kind_word, k29⟩, ok_Kind_word F29, b29'⟩, ckSource.cl⟩
  have LSource : M_lines l.prog w K mg base CSource (spGet K "asked") := ⟨⟨_, _, _, ⟨n_Source, i_Kind_lines, k28⟩, ok_Kind_lines F28, b28'⟩, ckSource.cl⟩
  have WSink : M_word l.prog w K mg base CSink (spGet K "told") := ⟨⟨_, _, _, ⟨w_Sink, i_Kind_word, k29⟩, ok_Kind_word F29, b29'⟩, ckSink.cl⟩
  have LSink : M_lines l.prog w K mg base CSink (spGet K "asked") := ⟨⟨_, _, _, ⟨n_Sink, i_Kind_lines, k28⟩, ok_Kind_lines F28, b28'⟩, ckSink.cl⟩
  have WBoth : M_word l.prog w K mg base CBoth (spGet K "told") := ⟨⟨_, _, _, ⟨w_Both, i_Kind_word, k29⟩, ok_Kind_word F29, b29'⟩, ckBoth.cl⟩
  have LBoth : M_lines l.prog w K mg base CBoth (spGet K "asked") := ⟨⟨_, _, _, ⟨n_Both, i_Kind_lines, k28⟩, ok_Kind_lines F28, b28'⟩, ckBoth.cl⟩
  have WEither : M_word l.prog w K mg base CEither (spGet K "told") := ⟨⟨_, _, _, ⟨w_Either, i_Kind_word, k29⟩, ok_Kind_word F29, b29'⟩, ckEither.cl⟩
  have LEither : M_lines l.prog w K mg base CEither (spGet K "asked") := ⟨⟨_, _, _, ⟨n_Either, i_Kind_lines, k28⟩, ok_Kind_lines F28, b28'⟩, ckEither.cl⟩
  have WOdd : M_word l.prog w K mg base COdd (spGet K "told") := ⟨⟨_, _, _, ⟨w_Odd, i_Kind_word, k29⟩, ok_Kind_word F29, b29'⟩, ckOdd.cl⟩
  have LOdd : M_lines l.prog w K mg base COdd (spGet K "asked") := ⟨⟨_, _, _, ⟨n_Odd, i_Kind_lines, k28⟩, ok_Kind_lines F28, b28'⟩, ckOdd.cl⟩
  have WPlus : M_word l.prog w K mg base CPlus (spGet K "told") := ⟨⟨_, _, _, ⟨w_Plus, i_Kind_word, k29⟩, ok_Kind_word F29, b29'⟩, ckPlus.cl⟩
  have LPlus : M_lines l.prog w K mg base CPlus (spGet K "asked") := ⟨⟨_, _, _, ⟨n_Plus, i_Kind_lines, k28⟩, ok_Kind_lines F28, b28'⟩, ckPlus.cl⟩
  have WPick : M_word l.prog w K mg base CPick (spGet K "told") := ⟨⟨_, _, _, ⟨w_Pick, i_Kind_word, k29⟩, ok_Kind_word F29, b29'⟩, ckPick.cl⟩
  have LPick : M_lines l.prog w K mg base CPick (spGet K "asked") := ⟨⟨_, _, _, ⟨n_Pick, i_Kind_lines, k28⟩, ok_Kind_lines F28, b28'⟩, ckPick.cl⟩
  have WUp : M_word l.prog w K mg base CUp (spGet K "told") := ⟨⟨_, _, _, ⟨w_Up, i_Kind_word, k29⟩, ok_Kind_word F29, b29'⟩, ckUp.cl⟩
  have LUp : M_lines l.prog w K mg base CUp (spGet K "asked") := ⟨⟨_, _, _, ⟨n_Up, i_Kind_lines, k28⟩, ok_Kind_lines F28, b28'⟩, ckUp.cl⟩
  have WDown : M_word l.prog w K mg base CDown (spGet K "told") := ⟨⟨_, _, _, ⟨w_Down, i_Kind_word, k29⟩, ok_Kind_word F29, b29'⟩, ckDown.cl⟩
  have LDown : M_lines l.prog w K mg base CDown (spGet K "asked") := ⟨⟨_, _, _, ⟨n_Down, i_Kind_lines, k28⟩, ok_Kind_lines F28, b28'⟩, ckDown.cl⟩
  have mN : M_names l.prog w K mg base CWorks (spWNames c CWorks) := ⟨⟨_, _, _, ⟨a_Works_names, i_Works_names, k40⟩, ok_Works_names F40 ckW nlist, b40'⟩, ckW.cl⟩
  have mL : M_lines l.prog w K mg base CWorks (spWLines c CWorks) := ⟨⟨_, _, _, ⟨a_Works_lines, i_Works_lines, k43⟩, ok_Works_lines F43 ckW nlist, b43'⟩, ckW.cl⟩
  have mK : M_kind l.prog w K mg base CWorks (spWKind c CWorks) := ⟨⟨_, _, _, ⟨a_Works_kind, i_Works_kind, k41⟩, ok_Works_kind F41 ckW, b41'⟩, ckW.cl⟩
  have mT : M_time l.prog w K mg base CWorks (spWTime c CWorks) := ⟨⟨_, _, _, ⟨a_Works_time, i_Works_time, k42⟩, ok_Works_time F42 ckW, b42'⟩, ckW.cl⟩
  have kc : KC l.prog w K mg base c := {
    ok := ok
    Mw := fun kd => by cases kd <;> assumption
    Ml := fun kd => by cases kd <;> assumption
    isT := fun kd H p dx fs hp => .ins hp (ok kd).cl (by cases kd <;> assumption) g1 g2 (by cases kd <;> assumption)
    kS := fun kd => by cases kd <;> first | assumption | exact kit_sameR K _
    kE := fun kd => by
      cases kd <;> simp only [PySem.W.kitAny.eq_2, PySem.W.kitAny.eq_1, Cs.of, c, kit_sameR, ksSink, ksBoth, ksEither, ksOdd, ksPlus, ksPick, ksUp, ksDown, kkSource, kkBoth, kkEither, kkOdd, kkPlus, kkPick, kkUp, kkDown] <;> rfl }
  have C_is_end : Cal l.prog w K mg base 1 "is_end" ["kind"] (spIsEnd c) := ⟨⟨_, _, ok_is_end F5 kc uSource uSink nisinstance, PySem.W.mg_of X G a_is_end, k5, b5'⟩⟩
  have C_settled : Cal l.prog w K mg base 2 "settled" ["works"] (spSettled c CWorks) := ⟨⟨_, _, ok_settled F7 mN mL nlen, PySem.W.mg_of X G a_settled, k7, b7'⟩⟩
  have C_words_of : Cal l.prog w K mg base 1 "words_of" ["row"] spWordsOf := ⟨⟨_, _, ok_words_of F8 , PySem.W.mg_of X G a_words_of, k8, b8'⟩⟩
  have C_part_by : Cal l.prog w K mg base 6 "part_by" ["words", "place"] (spPartBy c) := ⟨⟨_, _, ok_part_by F9 kc C_is_name C_kind_by C_number_by C_is_end uMOST_TIME nlen, PySem.W.mg_of X G a_part_by, k9, b9'⟩⟩
  have C_line_by : Cal l.prog w K mg base 3 "line_by" ["word", "end", "place"] spLineBy := ⟨⟨_, _, ok_line_by F10 C_is_name C_number_by uMOST_STORES, PySem.W.mg_of X G a_line_by, k10, b10'⟩⟩
  have C_refuse_loose : Cal l.prog w K mg base 2 "refuse_loose" ["works", "places"] (spLoose c CWorks) := ⟨⟨_, _, ok_refuse_loose F11 kc mN mL mK uSink nisinstance, PySem.W.mg_of X G a_refuse_loose, k11, b11'⟩⟩
  have C_refuse_rings : Cal l.prog w K mg base 3 "refuse_rings" ["works"] (spRings c CWorks) := ⟨⟨_, _, ok_refuse_rings F12 C_settled mN nlen, PySem.W.mg_of X G a_refuse_rings, k12, b12'⟩⟩
  have C_read : Cal l.prog w K mg base 7 "read" ["text"] (spRead c CWorks) := ⟨⟨_, _, ok_read F13 C_words_of C_part_by C_line_by MWorks ckW C_refuse_loose C_refuse_rings uMOST_PARTS nenumerate nlen, PySem.W.mg_of X G a_read, k13, b13'⟩⟩
  have C_line_word : Cal l.prog w K mg base 1 "line_word" ["start", "stores"] spLineWord := ⟨⟨_, _, ok_line_word F14 nstr, PySem.W.mg_of X G a_line_word, k14, b14'⟩⟩
  have C_shown : Cal l.prog w K mg base 2 "shown" ["works"] (spShown c CWorks) := ⟨⟨_, _, ok_shown F15 kc mN mL mK mT C_line_word nstr, PySem.W.mg_of X G a_shown, k15, b15'⟩⟩
  have C_law_cell_at : Cal l.prog w K mg base 1 "_law_cell_at" ["_law_script", "_law_k"] (spCellAt K) := ⟨⟨_, _, ok_law_cell_at F16 nlen, PySem.W.mg_of X G a_law_cell_at, k16, b16'⟩⟩
  have C_law_draw : Cal l.prog w K mg base 1 "_law_draw" ["_law_cell", "_law_k", "_law_many"] spDraw := ⟨⟨_, _, ok_law_draw F17 , PySem.W.mg_of X G a_law_draw, k17, b17'⟩⟩
  have C_law_asks : Cal l.prog w K mg base 1 "_law_asks" ["_law_word_here"] spAsks := ⟨⟨_, _, ok_law_asks F18 , PySem.W.mg_of X G a_law_asks, k18, b18'⟩⟩
  have C_law_name : Cal l.prog w K mg base 1 "_law_name" ["_law_k", "_law_mark"] spName := ⟨⟨_, _, ok_law_name F19 , PySem.W.mg_of X G a_law_name, k19, b19'⟩⟩
  have C_law_word : Cal l.prog w K mg base 2 "_law_word" ["_law_cell", "_law_k"] spWord := ⟨⟨_, _, ok_law_word F20 C_law_draw nstr, PySem.W.mg_of X G a_law_word, k20, b20'⟩⟩
  have C_law_works : Cal l.prog w K mg base 3 "_law_works" ["_law_script", "_law_most"] (spLWorks K) := ⟨⟨_, _, ok_law_works F21 C_law_cell_at C_law_draw C_law_asks C_law_name C_law_word nrange nlen, PySem.W.mg_of X G a_law_works, k21, b21'⟩⟩
  have C_law_text : Cal l.prog w K mg base 1 "_law_text" ["_law_parts"] spText := ⟨⟨_, _, ok_law_text F22 nstr, PySem.W.mg_of X G a_law_text, k22, b22'⟩⟩
  have C_law_lines : Cal l.prog w K mg base 1 "_law_lines" ["_law_parts"] spLines := ⟨⟨_, _, ok_law_lines F23 nlen nrange, PySem.W.mg_of X G a_law_lines, k23, b23'⟩⟩
  have C_law_spread : Cal l.prog w K mg base 2 "_law_spread" ["_law_text_here", "_law_cell"] spSpread := ⟨⟨_, _, ok_law_spread F24 C_law_draw nenumerate, PySem.W.mg_of X G a_law_spread, k24, b24'⟩⟩
  have C_law_right : Cal l.prog w K mg base 2 "_law_right" ["_law_works_here", "_law_parts"] (spRight c CWorks) := ⟨⟨_, _, ok_law_right F25 kc mN mL mK mT C_law_lines nisinstance nlist nint nlen, PySem.W.mg_of X G a_law_right, k25, b25'⟩⟩
  exact ok_law F26 C_law_cell_at C_law_works C_law_text C_law_spread C_read C_law_right C_shown nisinstance nstr
theorem walk {l : PySem.W.OpenLaw} {q : Program} {loose : List Str} {XP : (Str → Option Value) → Heap → Prop} {YP : World → Heap → Prop} {d : DefRec} {K : Params → PySem.W.Frag} (hn : l.most = some 63) (hdf : d.params.defaults = [])
    (hY : ∀ (w : World) (h : Heap), YP w h → (K w.params).In h)
    (F : ∀ (w : World) (mg : Str → Option Value) (fa : Addr) (h : Heap), (K w.params).In h → h.Ns mainGlobals mg → mg d.name = some (.ref fa) →
      ∃ fd : FuncData, (∀ (s : Shared) (u : Value), BindsTo s fd ⟨[u], []⟩ [("_law_script", u)]) ∧ ∀ base : Heap, (K w.params).In base → base.Ns mainGlobals mg → FnOk l.prog w (K w.params) mg base CX0 8 fa fd ["_law_script"] (spLaw (K w.params))) :
    PySem.W.WalkO q loose XP YP l.row.toRowW d [] (fun f vs => PySem.call f vs) :=
  L2.walk_of (n := 63) (k := 8) (x := "_law_script") (CX := fun _ => CX0) (sp := fun w => spLaw (K w.params)) hn (by decide) hdf ⟨rfl, by decide, by decide⟩ hY F (fun _ _ a ns hl _ hS => ⟨a, ns, rfl, hS, hl, fun _ => rfl⟩) fun _ _ _ _ _ z => z
end K2
end
open PySem PySem.W PyProof.Rows
set_option maxRecDepth 100000 in
set_option maxHeartbeats 0 in
theorem PySem.Challenge.cw_storeway_k02_read_and_shown_holds : PySem.Challenge.rw_storeway_k02_read_and_shown.Holds := by
  w_on; o_law; k_head; (case hw => w_witness2)
  k_fill
  refine K2.walk (l := PySem.Challenge.rw_storeway_k02_read_and_shown) rfl rfl (fun w h Y => PySem.W.kIn_of Y) ?F
  case F =>
    intro w mg fa h KX G hmg
    refine' K2.all_mk KX G hmg ?aKind ?aSource ?aSink ?aBoth ?aEither ?aOdd ?aPlus ?aPick ?aUp ?aDown ?aWorks ?a_made_of ?l0 ?c0 ?k0 ?a_is_name ?l1 ?c1 ?k1 ?a_number_by ?l2 ?c2 ?k2 ?a_plain_kind ?l3 ?c3 ?k3 ?a_shifting_kind ?l4 ?c4 ?k4 ?a_is_end ?l5 ?c5 ?k5 ?a_kind_by ?l6 ?c6 ?k6 ?a_settled ?l7 ?c7 ?k7 ?a_words_of ?l8 ?c8 ?k8 ?a_part_by ?l9 ?c9 ?k9 ?a_line_by ?l10 ?c10 ?k10 ?a_refuse_loose ?l11 ?c11 ?k11 ?a_refuse_rings ?l12 ?c12 ?k12 ?a_read ?l13 ?c13 ?k13 ?a_line_word ?l14 ?c14 ?k14 ?a_shown ?l15 ?c15 ?k15 ?a_law_cell_at ?l16 ?c16 ?k16 ?a_law_draw ?l17 ?c17 ?k17 ?a_law_asks ?l18 ?c18 ?k18 ?a_law_name ?l19 ?c19 ?k19 ?a_law_word ?l20 ?c20 ?k20 ?a_law_works ?l21 ?c21 ?k21 ?a_law_text ?l22 ?c22 ?k22 ?a_law_lines ?l23 ?c23 ?k23 ?a_law_spread ?l24 ?c24 ?k24 ?a_law_right ?l25 ?c25 ?k25 ?a_law ?l26 ?c26 ?k26 ?a_Kind_init ?i_Kind_init ?l27 ?c27 ?k27 ?a_Kind_lines ?i_Kind_lines ?l28 ?c28 ?k28 ?a_Kind_word ?i_Kind_word ?l29 ?c29 ?k29 ?a_Source_init ?i_Source_init ?l30 ?c30 ?k30 ?a_Sink_init ?i_Sink_init ?l31 ?c31 ?k31 ?a_Both_init ?i_Both_init ?l32 ?c32 ?k32 ?a_Either_init ?i_Either_init ?l33 ?c33 ?k33 ?a_Odd_init ?i_Odd_init ?l34 ?c34 ?k34 ?a_Plus_init ?i_Plus_init ?l35 ?c35 ?k35 ?a_Pick_init ?i_Pick_init ?l36 ?c36 ?k36 ?a_Up_init ?i_Up_init ?l37 ?c37 ?k37 ?a_Down_init ?i_Down_init ?l38 ?c38 ?k38 ?a_Works_init ?i_Works_init ?l39 ?c39 ?k39 ?a_Works_names ?i_Works_names ?l40 ?c40 ?k40 ?a_Works_kind ?i_Works_kind ?l41 ?c41 ?k41 ?a_Works_time ?i_Works_time ?l42 ?c42 ?k42 ?a_Works_lines ?i_Works_lines ?l43 ?c43 ?k43 ?w_Source ?n_Source ?pgSource ?hdSource ?poSource ?saSource ?mkSource ?kcSource ?nTSource ?nASource ?nCSource ?tySource ?mrSource ?kkSource ?w_Sink ?n_Sink ?pgSink ?hdSink ?poSink ?saSink ?mkSink ?kcSink ?nTSink ?nASink ?nCSink ?tySink ?mrSink ?ksSink ?w_Both ?n_Both ?pgBoth ?hdBoth ?poBoth ?saBoth ?mkBoth ?kcBoth ?nTBoth ?nABoth ?nCBoth ?tyBoth ?mrBoth ?ksBoth ?kkBoth ?w_Either ?n_Either ?pgEither ?hdEither ?poEither ?saEither ?mkEither ?kcEither ?nTEither ?nAEither ?nCEither ?tyEither ?mrEither ?ksEither ?kkEither ?w_Odd ?n_Odd ?pgOdd ?hdOdd ?poOdd ?saOdd ?mkOdd ?kcOdd ?nTOdd ?nAOdd ?nCOdd ?tyOdd ?mrOdd ?ksOdd ?kkOdd ?w_Plus ?n_Plus ?pgPlus ?hdPlus ?poPlus ?saPlus ?mkPlus ?kcPlus ?nTPlus ?nAPlus ?nCPlus ?tyPlus ?mrPlus ?ksPlus ?kkPlus ?w_Pick ?n_Pick ?pgPick ?hdPick ?poPick ?saPick ?mkPick ?kcPick ?nTPick ?nAPick ?nCPick ?tyPick ?mrPick ?ksPick ?kkPick ?w_Up ?n_Up ?pgUp ?hdUp ?poUp ?saUp ?mkUp ?kcUp ?nTUp ?nAUp ?nCUp ?tyUp ?mrUp ?ksUp ?kkUp ?w_Down ?n_Down ?pgDown ?hdDown ?poDown ?saDown ?mkDown ?kcDown ?nTDown ?nADown ?nCDown ?tyDown ?mrDown ?ksDown ?kkDown ?pgWorks ?hdWorks ?poWorks ?saWorks ?mkWorks ?kcWorks ?nPWorks ?nJWorks ?g1 ?g2 ?b1 ?b2 ?b3 ?vFIGURES ?vNAME_SIGNS ?vLONGEST_NAME ?vMOST_PLACES ?vMOST_PARTS ?vMOST_TIME ?vMOST_STORES ?z_all ?z_len ?z_str ?z_int ?z_range ?z_isinstance ?z_list ?z_enumerate
    (case aKind => k_is)
    (case aSource => k_is)
    (case aSink => k_is)
    (case aBoth => k_is)
    (case aEither => k_is)
    (case aOdd => k_is)
    (case aPlus => k_is)
    (case aPick => k_is)
    (case aUp => k_is)
    (case aDown => k_is)
    (case aWorks => k_is)
    (case a_made_of => k_is)
    (case l0 => k_is)
    (case c0 => k_is)
    (case k0 => k_is)
    (case a_is_name => k_is)
    (case l1 => k_is)
    (case c1 => k_is)
    (case k1 => k_is)
    (case a_number_by => k_is)
    (case l2 => k_is)
    (case c2 => k_is)
    (case k2 => k_is)
    (case a_plain_kind => k_is)
    (case l3 => k_is)
    (case c3 => k_is)
    (case k3 => k_is)
    (case a_shifting_kind => k_is)
    (case l4 => k_is)
    (case c4 => k_is)
    (case k4 => k_is)
    (case a_is_end => k_is)
    (case l5 => k_is)
    (case c5 => k_is)
    (case k5 => k_is)
    (case a_kind_by => k_is)
    (case l6 => k_is)
    (case c6 => k_is)
    (case k6 => k_is)
    (case a_settled => k_is)
    (case l7 => k_is)
    (case c7 => k_is)
    (case k7 => k_is)
    (case a_words_of => k_is)
    (case l8 => k_is)
    (case c8 => k_is)
    (case k8 => k_is)
    (case a_part_by => k_is)
    (case l9 => k_is)
    (case c9 => k_is)
    (case k9 => k_is)
    (case a_line_by => k_is)
    (case l10 => k_is)
    (case c10 => k_is)
    (case k10 => k_is)
    (case a_refuse_loose => k_is)
    (case l11 => k_is)
    (case c11 => k_is)
    (case k11 => k_is)
    (case a_refuse_rings => k_is)
    (case l12 => k_is)
    (case c12 => k_is)
    (case k12 => k_is)
    (case a_read => k_is)
    (case l13 => k_is)
    (case c13 => k_is)
    (case k13 => k_is)
    (case a_line_word => k_is)
    (case l14 => k_is)
    (case c14 => k_is)
    (case k14 => k_is)
    (case a_shown => k_is)
    (case l15 => k_is)
    (case c15 => k_is)
    (case k15 => k_is)
    (case a_law_cell_at => k_is)
    (case l16 => k_is)
    (case c16 => k_is)
    (case k16 => k_is)
    (case a_law_draw => k_is)
    (case l17 => k_is)
    (case c17 => k_is)
    (case k17 => k_is)
    (case a_law_asks => k_is)
    (case l18 => k_is)
    (case c18 => k_is)
    (case k18 => k_is)
    (case a_law_name => k_is)
    (case l19 => k_is)
    (case c19 => k_is)
    (case k19 => k_is)
    (case a_law_word => k_is)
    (case l20 => k_is)
    (case c20 => k_is)
    (case k20 => k_is)
    (case a_law_works => k_is)
    (case l21 => k_is)
    (case c21 => k_is)
    (case k21 => k_is)
    (case a_law_text => k_is)
    (case l22 => k_is)
    (case c22 => k_is)
    (case k22 => k_is)
    (case a_law_lines => k_is)
    (case l23 => k_is)
    (case c23 => k_is)
    (case k23 => k_is)
    (case a_law_spread => k_is)
    (case l24 => k_is)
    (case c24 => k_is)
    (case k24 => k_is)
    (case a_law_right => k_is)
    (case l25 => k_is)
    (case c25 => k_is)
    (case k25 => k_is)
    (case a_law => k_is)
    (case l26 => k_is)
    (case c26 => k_is)
    (case k26 => k_is)
    (case a_Kind_init => k_is)
    (case i_Kind_init => k_is)
    (case l27 => k_is)
    (case c27 => k_is)
    (case k27 => k_is)
    (case a_Kind_lines => k_is)
    (case i_Kind_lines => k_is)
    (case l28 => k_is)
    (case c28 => k_is)
    (case k28 => k_is)
    (case a_Kind_word => k_is)
    (case i_Kind_word => k_is)
    (case l29 => k_is)
    (case c29 => k_is)
    (case k29 => k_is)
    (case a_Source_init => k_is)
    (case i_Source_init => k_is)
    (case l30 => k_is)
    (case c30 => k_is)
    (case k30 => k_is)
    (case a_Sink_init => k_is)
    (case i_Sink_init => k_is)
    (case l31 => k_is)
    (case c31 => k_is)
    (case k31 => k_is)
    (case a_Both_init => k_is)
    (case i_Both_init => k_is)
    (case l32 => k_is)
    (case c32 => k_is)
    (case k32 => k_is)
    (case a_Either_init => k_is)
    (case i_Either_init => k_is)
    (case l33 => k_is)
    (case c33 => k_is)
    (case k33 => k_is)
    (case a_Odd_init => k_is)
    (case i_Odd_init => k_is)
    (case l34 => k_is)
    (case c34 => k_is)
    (case k34 => k_is)
    (case a_Plus_init => k_is)
    (case i_Plus_init => k_is)
    (case l35 => k_is)
    (case c35 => k_is)
    (case k35 => k_is)
    (case a_Pick_init => k_is)
    (case i_Pick_init => k_is)
    (case l36 => k_is)
    (case c36 => k_is)
    (case k36 => k_is)
    (case a_Up_init => k_is)
    (case i_Up_init => k_is)
    (case l37 => k_is)
    (case c37 => k_is)
    (case k37 => k_is)
    (case a_Down_init => k_is)
    (case i_Down_init => k_is)
    (case l38 => k_is)
    (case c38 => k_is)
    (case k38 => k_is)
    (case a_Works_init => k_is)
    (case i_Works_init => k_is)
    (case l39 => k_is)
    (case c39 => k_is)
    (case k39 => k_is)
    (case a_Works_names => k_is)
    (case i_Works_names => k_is)
    (case l40 => k_is)
    (case c40 => k_is)
    (case k40 => k_is)
    (case a_Works_kind => k_is)
    (case i_Works_kind => k_is)
    (case l41 => k_is)
    (case c41 => k_is)
    (case k41 => k_is)
    (case a_Works_time => k_is)
    (case i_Works_time => k_is)
    (case l42 => k_is)
    (case c42 => k_is)
    (case k42 => k_is)
    (case a_Works_lines => k_is)
    (case i_Works_lines => k_is)
    (case l43 => k_is)
    (case c43 => k_is)
    (case k43 => k_is)
    (case w_Source => k_is)
    (case n_Source => k_is)
    (case pgSource => k_is)
    (case hdSource => k_is)
    (case poSource => k_is)
    (case saSource => k_is)
    (case mkSource => k_is)
    (case kcSource => k_is)
    (case nTSource => k_is)
    (case nASource => k_is)
    (case nCSource => k_is)
    (case tySource => k_is)
    (case mrSource => k_is)
    (case kkSource => kit_is)
    (case w_Sink => k_is)
    (case n_Sink => k_is)
    (case pgSink => k_is)
    (case hdSink => k_is)
    (case poSink => k_is)
    (case saSink => k_is)
    (case mkSink => k_is)
    (case kcSink => k_is)
    (case nTSink => k_is)
    (case nASink => k_is)
    (case nCSink => k_is)
    (case tySink => k_is)
    (case mrSink => k_is)
    (case ksSink => kit_is)
    (case w_Both => k_is)
    (case n_Both => k_is)
    (case pgBoth => k_is)
    (case hdBoth => k_is)
    (case poBoth => k_is)
    (case saBoth => k_is)
    (case mkBoth => k_is)
    (case kcBoth => k_is)
    (case nTBoth => k_is)
    (case nABoth => k_is)
    (case nCBoth => k_is)
    (case tyBoth => k_is)
    (case mrBoth => k_is)
    (case ksBoth => kit_is)
    (case kkBoth => kit_is)
    (case w_Either => k_is)
    (case n_Either => k_is)
    (case pgEither => k_is)
    (case hdEither => k_is)
    (case poEither => k_is)
    (case saEither => k_is)
    (case mkEither => k_is)
    (case kcEither => k_is)
    (case nTEither => k_is)
    (case nAEither => k_is)
    (case nCEither => k_is)
    (case tyEither => k_is)
    (case mrEither => k_is)
    (case ksEither => kit_is)
    (case kkEither => kit_is)
    (case w_Odd => k_is)
    (case n_Odd => k_is)
    (case pgOdd => k_is)
    (case hdOdd => k_is)
    (case poOdd => k_is)
    (case saOdd => k_is)
    (case mkOdd => k_is)
    (case kcOdd => k_is)
    (case nTOdd => k_is)
    (case nAOdd => k_is)
    (case nCOdd => k_is)
    (case tyOdd => k_is)
    (case mrOdd => k_is)
    (case ksOdd => kit_is)
    (case kkOdd => kit_is)
    (case w_Plus => k_is)
    (case n_Plus => k_is)
    (case pgPlus => k_is)
    (case hdPlus => k_is)
    (case poPlus => k_is)
    (case saPlus => k_is)
    (case mkPlus => k_is)
    (case kcPlus => k_is)
    (case nTPlus => k_is)
    (case nAPlus => k_is)
    (case nCPlus => k_is)
    (case tyPlus => k_is)
    (case mrPlus => k_is)
    (case ksPlus => kit_is)
    (case kkPlus => kit_is)
    (case w_Pick => k_is)
    (case n_Pick => k_is)
    (case pgPick => k_is)
    (case hdPick => k_is)
    (case poPick => k_is)
    (case saPick => k_is)
    (case mkPick => k_is)
    (case kcPick => k_is)
    (case nTPick => k_is)
    (case nAPick => k_is)
    (case nCPick => k_is)
    (case tyPick => k_is)
    (case mrPick => k_is)
    (case ksPick => kit_is)
    (case kkPick => kit_is)
    (case w_Up => k_is)
    (case n_Up => k_is)
    (case pgUp => k_is)
    (case hdUp => k_is)
    (case poUp => k_is)
    (case saUp => k_is)
    (case mkUp => k_is)
    (case kcUp => k_is)
    (case nTUp => k_is)
    (case nAUp => k_is)
    (case nCUp => k_is)
    (case tyUp => k_is)
    (case mrUp => k_is)
    (case ksUp => kit_is)
    (case kkUp => kit_is)
    (case w_Down => k_is)
    (case n_Down => k_is)
    (case pgDown => k_is)
    (case hdDown => k_is)
    (case poDown => k_is)
    (case saDown => k_is)
    (case mkDown => k_is)
    (case kcDown => k_is)
    (case nTDown => k_is)
    (case nADown => k_is)
    (case nCDown => k_is)
    (case tyDown => k_is)
    (case mrDown => k_is)
    (case ksDown => kit_is)
    (case kkDown => kit_is)
    (case pgWorks => k_is)
    (case hdWorks => k_is)
    (case poWorks => k_is)
    (case saWorks => k_is)
    (case mkWorks => k_is)
    (case kcWorks => k_is)
    (case nPWorks => k_is)
    (case nJWorks => k_is)
    (case g1 => k_is)
    (case g2 => k_is)
    (case b1 => k_is)
    (case b2 => k_is)
    (case b3 => k_is)
    (case vFIGURES => k_is)
    (case vNAME_SIGNS => k_is)
    (case vLONGEST_NAME => k_is)
    (case vMOST_PLACES => k_is)
    (case vMOST_PARTS => k_is)
    (case vMOST_TIME => k_is)
    (case vMOST_STORES => k_is)
    (case z_all => k_is)
    (case z_len => k_is)
    (case z_str => k_is)
    (case z_int => k_is)
    (case z_range => k_is)
    (case z_isinstance => k_is)
    (case z_list => k_is)
    (case z_enumerate => k_is)
