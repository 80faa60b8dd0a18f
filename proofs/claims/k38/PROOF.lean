import PyProof.Rows.All
import Wide.All
import OpenK.AllK
import Wide.FinOn
import Lean
import PyProof.EqAt
import PyProof.EqKinds
import PyProof.TupleCall
import KE.KTryMore
import PyProof.ZipIter
import PySem.Challenge.RW_creditworks_k38_empty_rows

set_option Elab.async false
set_option linter.all false
set_option maxRecDepth 100000
namespace L2
open PySem PySem.Spec PyProof.Rows
abbrev Key := Sum Int Str
def keyIs : Key → Value → Bool
  | .inl k, v => Value.isInt k v
  | .inr x, v => Value.isStrOf x v
def keyH (w : World) : Key → Int
  | .inl k => hashInt k
  | .inr x => hashStr w x
theorem keyIs_shape : ∀ {k : Key} {v : Value}, keyIs k v = true → (∃ i t, k = Sum.inl i ∧ v = Value.int i t) ∨ (∃ x t, k = Sum.inr x ∧ v = Value.str x t)
  | .inl i, v, h => by
    obtain ⟨t, e⟩ := Value.isInt_shape (k := i) (v := v) h
    exact .inl ⟨i, t, rfl, e⟩
  | .inr x, v, h => by
    obtain ⟨t, e⟩ := Value.isStrOf_shape (x := x) (v := v) h
    exact .inr ⟨x, t, rfl, e⟩
theorem key_ll (a b : Int) : decide ((Sum.inl a : Key) = Sum.inl b) = (a == b) := by
  by_cases e : a = b
  · subst e; simp
  · have h : ¬ (Sum.inl a : Key) = Sum.inl b := fun q => e (Sum.inl.inj q)
    rw [decide_eq_false h]
    exact (beq_eq_false_iff_ne.mpr e).symm
theorem key_rr (a b : Str) : decide ((Sum.inr a : Key) = Sum.inr b) = decide (a = b) := by
  by_cases e : a = b
  · subst e; simp
  · have h : ¬ (Sum.inr a : Key) = Sum.inr b := fun q => e (Sum.inr.inj q)
    rw [decide_eq_false h, decide_eq_false e]
theorem key_lr (a : Int) (b : Str) : decide ((Sum.inl a : Key) = Sum.inr b) = false := decide_eq_false (fun q => nomatch q)
theorem key_rl (a : Str) (b : Int) : decide ((Sum.inr a : Key) = Sum.inl b) = false := decide_eq_false (fun q => nomatch q)
def mixKind (prog : Program) (w : World) : PySem.KeyKind prog w Key where
  is := keyIs
  hash := keyH w
  inj := fun v a b ha hb => by
    rcases keyIs_shape ha with ⟨i, t, rfl, rfl⟩ | ⟨x, t, rfl, rfl⟩
    · rcases keyIs_shape hb with ⟨j, u, rfl, e⟩ | ⟨y, u, rfl, e⟩
      · injection e with e1 _; rw [e1]
      · exact nomatch e
    · rcases keyIs_shape hb with ⟨j, u, rfl, e⟩ | ⟨y, u, rfl, e⟩
      · exact nomatch e
      · injection e with e1 _; rw [e1]
  byValue := fun k v h => by
    rcases keyIs_shape h with ⟨i, t, rfl, rfl⟩ | ⟨x, t, rfl, rfl⟩ <;> rfl
  pyHash := fun hv h => by
    rcases keyIs_shape hv with ⟨i, t, rfl, rfl⟩ | ⟨x, t, rfl, rfl⟩
    · exact wpAny_pyHash_int h
    · exact wpAny_pyHash_str h
  eqBool := fun hu hv h => by
    rcases keyIs_shape hu with ⟨i, t, rfl, rfl⟩ | ⟨x, t, rfl, rfl⟩
    · rcases keyIs_shape hv with ⟨j, u, rfl, rfl⟩ | ⟨y, u, rfl, rfl⟩
      · rw [key_ll] at h; exact wpAny_eqBool_int h
      · rw [key_lr] at h; exact SeqAt.EqAt.int_str i t y u _ _ _ _ h
    · rcases keyIs_shape hv with ⟨j, u, rfl, rfl⟩ | ⟨y, u, rfl, rfl⟩
      · rw [key_rl] at h; exact SeqAt.EqAt.str_int x t j u _ _ _ _ h
      · rw [key_rr] at h; exact wpAny_eqBool_str h
  «strs» := fun k x t v h => by
    rcases keyIs_shape h with ⟨i, u, rfl, e⟩ | ⟨y, u, rfl, e⟩
    · exact nomatch e
    · injection e with e1 _
      subst e1
      cases v <;> rfl
end L2
namespace L2
open PySem PySem.Spec PyProof.Rows
inductive V where
  | non | bl (b : Bool) | int (i : Int) | str (x : Str) | byt (b : Array UInt8) | flt (b : UInt64) | ref (a : Addr) | ty (n : String)
  deriving DecidableEq
def RelV : V → Value → Prop
  | .non, u => u = Value.none
  | .bl b, u => u = Value.bool b
  | .int i, u => ∃ t, u = Value.int i t
  | .str x, u => ∃ t, u = Value.str x t
  | .byt b, u => ∃ t, u = Value.bytes b t
  | .flt b, u => ∃ t, u = Value.float b t
  | .ref a, u => u = Value.ref a
  | .ty n, u => u = Value.type n
abbrev Vals : List V → List Value → Prop := Paired RelV
theorem Vals.length {xs : List V} {us : List Value} (r : Vals xs us) : xs.length = us.length := Paired.length r
theorem Vals.get : ∀ {xs : List V} {us : List Value} {i : Nat} {x : V}, Vals xs us → xs[i]? = some x → ∃ u, us[i]? = some u ∧ RelV x u
  | _, _, _, _, .nil, e => by simp at e
  | _, _, 0, _, .cons r _, e => by simp at e; subst e; exact ⟨_, rfl, r⟩
  | _, _, i + 1, x, .cons _ t, e => by
    obtain ⟨u, h1, h2⟩ := Vals.get (i := i) (x := x) t (by simpa using e)
    exact ⟨u, by simpa using h1, h2⟩
theorem Vals.set {x : V} {u : Value} (r : RelV x u) : ∀ {xs : List V} {us : List Value} (i : Nat), Vals xs us → Vals (xs.set i x) (us.set i u)
  | _, _, _, .nil => .nil
  | _, _, 0, .cons _ t => .cons r t
  | _, _, i + 1, .cons q t => .cons q (Vals.set r i t)
theorem Vals.append : ∀ {xs ys : List V} {us ws : List Value}, Vals xs us → Vals ys ws → Vals (xs ++ ys) (us ++ ws)
  | _, _, _, _, .nil, s => s
  | _, _, _, _, .cons r t, s => .cons r (Vals.append t s)
theorem Vals.take : ∀ {xs : List V} {us : List Value} (n : Nat), Vals xs us → Vals (xs.take n) (us.take n)
  | _, _, 0, _ => .nil
  | _, _, _ + 1, .nil => .nil
  | _, _, n + 1, .cons r t => .cons r (Vals.take n t)
theorem Vals.drop : ∀ {xs : List V} {us : List Value} (n : Nat), Vals xs us → Vals (xs.drop n) (us.drop n)
  | _, _, 0, r => r
  | _, _, _ + 1, .nil => .nil
  | _, _, n + 1, .cons _ t => Vals.drop n t
theorem Vals.none_of : ∀ {xs : List V} {us : List Value} {i : Nat}, Vals xs us → xs[i]? = none → us[i]? = none := fun {xs us i} r e => by
  have h1 := r.length
  have h2 : xs.length ≤ i := List.getElem?_eq_none_iff.mp e
  exact List.getElem?_eq_none_iff.mpr (by omega)
def RelO : Option V → Option Value → Prop
  | some v, some u => RelV v u
  | none, none => True
  | _, _ => False
def KV {κ : Type} : List (κ × V) → List (κ × Value) → Prop := Paired fun (p : κ × V) (q : κ × Value) => p.1 = q.1 ∧ RelV p.2 q.2
def kV : Key → V
  | .inl i => .int i
  | .inr x => .str x
inductive HO where
  | lst (xs : List V)
  | tup (xs : List V)
  | dK (kvs : List (Key × V)) | dT (kvs : List (List Key × V))
  | set (S : Int → Bool) (n : Nat)
  | ins (C dx : Addr) (fs : List (Str × V))
  | own (x : Addr)
  | xd (fs : List (Str × V))
  | met (f x : Addr)
  | rng (lo hi : Int)
  | frz (o : Obj) (u : HO)
  | tbl (ps : Array Value)
  | ext (φ : Heap → Prop)
abbrev Hp := Addr → Option HO
def upd (H : Hp) (a : Addr) (o : HO) : Hp := fun b => if b = a then some o else H b
theorem upd_same {H : Hp} {a : Addr} {o : HO} : upd H a o a = some o := by unfold upd; rw [if_pos rfl]
theorem upd_ne {H : Hp} {a b : Addr} {o : HO} (h : b ≠ a) : upd H a o b = H b := by unfold upd; rw [if_neg h]
theorem ne_of_none {H : Hp} {a b : Addr} {o : HO} (h : H a = some o) (h' : H b = none) : a ≠ b := by
  intro e; subst e; rw [h] at h'; cases h'
section
variable (P : Program) (w : World)
def ObjOk (H : Hp) (h : Heap) (a : Addr) : HO → Prop
  | .lst xs => xs.length ≤ sizeLine ∧ ∃ (its : List Value) (n : Nat), Vals xs its ∧ h.get? a = some { cls := .type "list", data := .seq its.toArray n }
  | .tup xs => xs.length ≤ sizeLine ∧ ∃ its : List Value, Vals xs its ∧ IsTup h a its.toArray
  | .dK kvs => kvs.length ≤ sizeLine ∧ (a == sysModules) = false ∧ ∃ vs, KV kvs vs ∧ h.DictOf (mixKind P w) a vs
  | .dT kvs => kvs.length ≤ sizeLine ∧ (a == sysModules) = false ∧ ∃ xs : List (List Key × Addr × Value),
      Paired (fun (p : List Key × V) (q : List Key × Addr × Value) => p.1 = q.1 ∧ H q.2.1 = some (.tup (p.1.map kV)) ∧ RelV p.2 q.2.2) kvs xs ∧
      ∃ o es ep, h.get? a = some o ∧ o.ExactDict ∧ o.data = .dict es ep ∧ es.toList = xs.map (entryOfKey (tupleKind (mixKind P w))) ∧ (xs.map (·.1)).Nodup
  | .set S n => h.SetOf (intKind P w) a S n
  | .ins C dx fs => H dx = some (.own a) ∧ fs.length ≤ 1000 ∧ dx ≠ a ∧ h.get? a = some (PySem.W.instObj C dx) ∧
      ∃ mA, h.Ns1 dx mA ∧ (∀ f, RelO (fs.lookup f) (mA f)) ∧ PySem.Within mA (fs.map (·.1))
  | .own _ => ∃ o, h.get? a = some o
  | .xd fs => ∃ mA, h.Ns1 a mA ∧ ∀ f, RelO (fs.lookup f) (mA f)
  | .rng lo hi => ∃ t u v, h.get? a = some { cls := .type "range", data := .fields #[.int lo t, .int hi u, .int 1 v] }
  | .frz o u => h.get? a = some o ∧ ObjOk H h a u
  | .tbl ps => h.get? a = some { cls := .none, data := .fields ps }
  | .met f x => h.get? a = some (PySem.W.methodObj (.ref f) (.ref x))
  | .ext φ => φ h ∧ (∃ o, h.get? a = some o) ∧ ∀ h1 h2 : Heap, φ h1 → (∀ o, h1.get? a = some o → h2.get? a = some o) → φ h2
def HOk (H : Hp) (h : Heap) : Prop := ∀ a o, H a = some o → ObjOk P w H h a o
end
section
variable {P : Program} {w : World} {H H' : Hp} {h h' : Heap} {a : Addr} {o : HO}
theorem ObjOk.lt (x : ObjOk P w H h a o) : a < h.objs.size := by
  cases o with
  | lst xs => obtain ⟨_, _, _, _, e⟩ := x; exact Heap.lt_size e
  | tup xs => obtain ⟨_, _, _, p⟩ := x; exact p.lt
  | dK kvs => obtain ⟨_, _, _, _, o, _, _, e, _⟩ := x; exact Heap.lt_size e
  | dT kvs => obtain ⟨_, _, _, _, o, _, _, e, _⟩ := x; exact Heap.lt_size e
  | set S n => obtain ⟨o, _, _, _, e, _⟩ := x; exact Heap.lt_size e
  | ins C dx fs => obtain ⟨_, _, _, e, _⟩ := x; exact Heap.lt_size e
  | own y => obtain ⟨_, e⟩ := x; exact Heap.lt_size e
  | xd fs => obtain ⟨_, ⟨_, _, _, e, _⟩, _⟩ := x; exact Heap.lt_size e
  | rng lo hi => obtain ⟨_, _, _, e⟩ := x; exact Heap.lt_size e
  | frz ob u => obtain ⟨e, _⟩ := x; exact Heap.lt_size e
  | tbl ps => exact Heap.lt_size (show h.get? a = some _ from x)
  | met f y => exact Heap.lt_size (show h.get? a = some _ from x)
  | ext φ => obtain ⟨_, ⟨_, e⟩, _⟩ := x; exact Heap.lt_size e
theorem Paired.mapP {α β : Type} {F G : α → β → Prop} : ∀ {l₁ : List α} {l₂ : List β}, Paired F l₁ l₂ → (∀ a b, F a b → G a b) → Paired G l₁ l₂
  | _, _, .nil, _ => .nil
  | _, _, .cons r t, f => .cons (f _ _ r) (Paired.mapP t f)
theorem ObjOk.stay (x : ObjOk P w H h a o) (k : ∀ b u, (b = a ∨ H b = some (.own a)) → h.get? b = some u → h'.get? b = some u)
    (ho : ∀ b, H b = some (.own a) → H' b = some (.own a)) (ht : ∀ b xs, H b = some (.tup xs) → H' b = some (.tup xs)) : ObjOk P w H' h' a o := by
  induction o with
  | lst xs => obtain ⟨z, its, n, r, e⟩ := x; exact ⟨z, its, n, r, k _ _ (.inl rfl) e⟩
  | tup xs => obtain ⟨z, its, r, ob, e, c⟩ := x; exact ⟨z, its, r, ob, k _ _ (.inl rfl) e, c⟩
  | dK kvs => obtain ⟨z, y, vs, r, ob, es, ep, e, c⟩ := x; exact ⟨z, y, vs, r, ob, es, ep, k _ _ (.inl rfl) e, c⟩
  | dT kvs =>
    obtain ⟨z, y, xs, r, ob, es, ep, e, c⟩ := x
    exact ⟨z, y, xs, Paired.mapP r fun p q z => ⟨z.1, ht _ _ z.2.1, z.2.2⟩, ob, es, ep, k _ _ (.inl rfl) e, c⟩
  | set S n => obtain ⟨ob, es, ep, t, e, c⟩ := x; exact ⟨ob, es, ep, t, k _ _ (.inl rfl) e, c⟩
  | ins C dx fs =>
    obtain ⟨d, z, ne, e, mA, ⟨od, es, ep, e2, c⟩, r⟩ := x
    exact ⟨ho _ d, z, ne, k _ _ (.inl rfl) e, mA, ⟨od, es, ep, k _ _ (.inr d) e2, c⟩, r⟩
  | own y => obtain ⟨ob, e⟩ := x; exact ⟨ob, k _ _ (.inl rfl) e⟩
  | xd fs => obtain ⟨mA, ⟨od, es, ep, e, c⟩, r⟩ := x; exact ⟨mA, ⟨od, es, ep, k _ _ (.inl rfl) e, c⟩, r⟩
  | rng lo hi => obtain ⟨t, u, v, e⟩ := x; exact ⟨t, u, v, k _ _ (.inl rfl) e⟩
  | frz ob u ih => obtain ⟨e, q⟩ := x; exact ⟨k _ _ (.inl rfl) e, ih q⟩
  | tbl ps =>
    have e : h.get? a = some { cls := .none, data := .fields ps } := x
    show h'.get? a = some { cls := .none, data := .fields ps }
    exact k a _ (.inl rfl) e
  | met f y =>
    have e : h.get? a = some (PySem.W.methodObj (.ref f) (.ref y)) := x
    show h'.get? a = some (PySem.W.methodObj (.ref f) (.ref y))
    exact k a _ (.inl rfl) e
  | ext φ => obtain ⟨p, ⟨o, e⟩, st⟩ := x; exact ⟨st _ _ p fun o q => k _ _ (.inl rfl) q, ⟨o, k _ _ (.inl rfl) e⟩, st⟩
theorem HOk.lt (x : HOk P w H h) (e : H a = some o) : a < h.objs.size := (x a o e).lt
theorem HOk.fresh (x : HOk P w H h) (e : h.objs.size ≤ a) : H a = none := by
  cases q : H a with
  | none => rfl
  | some u => exact absurd (Nat.lt_of_lt_of_le (x.lt q) e) (Nat.lt_irrefl _)
theorem HOk.kept (x : HOk P w H h) (k : ∀ b u, h.get? b = some u → h'.get? b = some u) : HOk P w H h' := fun a o e =>
  (x a o e).stay (fun b u _ q => k b u q) (fun _ q => q) fun _ _ q => q
theorem HOk.laid (x : HOk P w H h) (k : ∀ b u, h.get? b = some u → h'.get? b = some u) (hp : h.objs.size ≤ a) (new : ObjOk P w (upd H a o) h' a o) : HOk P w (upd H a o) h' := fun b u e => by
  have hn := x.fresh hp
  by_cases hb : b = a
  · subst hb; rw [upd_same] at e; cases e; exact new
  · rw [upd_ne hb] at e
    exact (x b u e).stay (fun c v _ q => k c v q) (fun c q => by rw [upd_ne (ne_of_none q hn)]; exact q) fun c xs q => by rw [upd_ne (ne_of_none q hn)]; exact q
end
def Rd (H : Hp) (a : Addr) (u : HO) : Prop := H a = some u ∨ ∃ o, H a = some (.frz o u)
theorem Rd.of {H : Hp} {a : Addr} {u : HO} (h : H a = some u) : Rd H a u := .inl h
theorem Rd.ok {P : Program} {w : World} {H : Hp} {h : Heap} {a : Addr} {u : HO} (r : Rd H a u) (x : HOk P w H h) : ObjOk P w H h a u := by
  rcases r with r | ⟨o, r⟩
  · exact x a u r
  · obtain ⟨_, q⟩ := x a _ r
    exact q
def Mut : Option HO → Prop
  | some (.lst _) => True
  | some (.dK _) => True
  | some (.dT _) => True
  | some (.set _ _) => True
  | some (.ins _ _ _) => True
  | some (.ext _) => True
  | _ => False
section
variable {P : Program} {w : World} {H : Hp} {h h' : Heap} {x e : Addr} {o' : HO}
theorem HOk.write (ok : HOk P w H h) (mu : Mut (H x)) (he : e = x ∨ H e = some (.own x)) (k : ∀ b u, b ≠ e → h.get? b = some u → h'.get? b = some u) (heo : ∃ u, h'.get? e = some u)
    (new : ObjOk P w (upd H x o') h' x o') : HOk P w (upd H x o') h' := fun b u q => by
  have nown : ∀ c y, H c = some (.own y) → c ≠ x := fun c y r z => by subst z; rw [r] at mu; exact mu
  have ntup : ∀ c xs, H c = some (.tup xs) → c ≠ x := fun c xs r z => by subst z; rw [r] at mu; exact mu
  by_cases hb : b = x
  · subst hb; rw [upd_same] at q; cases q; exact new
  · rw [upd_ne hb] at q
    by_cases hbe : b = e
    · have q' : H b = some (.own x) := by
        rcases he with z | z
        · exact absurd (hbe.trans z) hb
        · rw [hbe]; exact z
      rw [q] at q'; cases q'
      obtain ⟨v, hv⟩ := heo
      exact ⟨v, by rw [hbe]; exact hv⟩
    · refine (ok b u q).stay (fun c v hc r => k c v ?_ r) (fun c r => by rw [upd_ne (nown c b r)]; exact r) fun c xs r => by rw [upd_ne (ntup c xs r)]; exact r
      rcases hc with rfl | hc
      · exact hbe
      · rintro rfl
        rcases he with z | z
        · exact nown c b hc z
        · rw [hc] at z; cases z; exact hb rfl
end
structure Un (fs ex : List Addr) (H H' : Hp) (h h' : Heap) : Prop where
  keep : ∀ b o, h.get? b = some o → H b = none → b ∉ fs → b ∉ ex → h'.get? b = some o
  slot : ∀ b o, h.get? b = some o → H b = none → b ∈ fs → b ∉ ex → ∃ sl, h'.get? b = some { o with slots := sl }
  free : ∀ b o, h.get? b = some o → H b = none → b ∉ ex → H' b = none
  there : ∀ b o, h.get? b = some o → b ∉ ex → ∃ o', h'.get? b = some o'
  tups : ∀ b xs, H b = some (.tup xs) → H' b = some (.tup xs)
  frzs : ∀ b o u, H b = some (.frz o u) → H' b = some (.frz o u)
  tbls : ∀ b ps, H b = some (.tbl ps) → ∃ more, H' b = some (.tbl (ps ++ more))
section
variable {fs fs' ex ex' : List Addr} {H H1 H2 : Hp} {h h1 h2 h' : Heap} {a x e : Addr} {o : HO}
theorem Un.any (u : Un fs ex H H1 h h1) {b : Addr} {ob : Obj} (q : h.get? b = some ob) (n : H b = none) (hx : b ∉ ex) : ∃ sl, h1.get? b = some { ob with slots := sl } := by
  by_cases hb : b ∈ fs
  · exact u.slot b ob q n hb hx
  · exact ⟨ob.slots, u.keep b ob q n hb hx⟩
theorem Un.trans (a : Un fs ex H H1 h h1) (b : Un fs ex H1 H2 h1 h2) : Un fs ex H H2 h h2 where
  keep := fun c ob q n hc hx => b.keep c ob (a.keep c ob q n hc hx) (a.free c ob q n hx) hc hx
  slot := fun c ob q n hc hx => by
    obtain ⟨sl, e1⟩ := a.slot c ob q n hc hx
    obtain ⟨sl', e2⟩ := b.slot c _ e1 (a.free c ob q n hx) hc hx
    exact ⟨sl', e2⟩
  free := fun c ob q n hx => by
    obtain ⟨o', e1⟩ := a.there c ob q hx
    exact b.free c o' e1 (a.free c ob q n hx) hx
  there := fun c ob q hx => by
    obtain ⟨o', e1⟩ := a.there c ob q hx
    exact b.there c o' e1 hx
  tups := fun c xs q => b.tups c xs (a.tups c xs q)
  frzs := fun c ob xs q => b.frzs c ob xs (a.frzs c ob xs q)
  tbls := fun c ps q => by
    obtain ⟨m1, e1⟩ := a.tbls c ps q
    obtain ⟨m2, e2⟩ := b.tbls c _ e1
    exact ⟨m1 ++ m2, by rw [e2, Array.append_assoc]⟩
theorem Un.kept (k : ∀ b u, h.get? b = some u → h'.get? b = some u) : Un fs ex H H h h' :=
  ⟨fun b ob q _ _ _ => k b ob q, fun b ob q _ _ _ => ⟨ob.slots, k b ob q⟩, fun _ _ _ n _ => n, fun b ob q _ => ⟨ob, k b ob q⟩, fun _ _ q => q, fun _ _ _ q => q, fun _ ps q => ⟨#[], by rw [q]; simp⟩⟩
theorem Un.refl : Un fs ex H H h h := Un.kept fun _ _ q => q
theorem Un.laid (k : ∀ b u, h.get? b = some u → h'.get? b = some u) (hp : h.objs.size ≤ a) (hn : H a = none) : Un fs ex H (upd H a o) h h' where
  keep := fun b u q _ _ _ => k b u q
  slot := fun b u q _ _ _ => ⟨u.slots, k b u q⟩
  free := fun b u q n _ => by rw [upd_ne (Nat.ne_of_lt (Nat.lt_of_lt_of_le (Heap.lt_size q) hp))]; exact n
  there := fun b u q _ => ⟨u, k b u q⟩
  tups := fun b xs q => by rw [upd_ne (ne_of_none q hn)]; exact q
  frzs := fun b u xs q => by rw [upd_ne (ne_of_none q hn)]; exact q
  tbls := fun b ps q => ⟨#[], by rw [upd_ne (ne_of_none q hn), q]; simp⟩
theorem Un.write (mu : Mut (H x)) (he : e = x ∨ H e = some (.own x)) (k : ∀ b u, b ≠ e → h.get? b = some u → h'.get? b = some u) (heo : ∃ u, h'.get? e = some u) : Un fs ex H (upd H x o) h h' := by
  have hx : ∀ b, H b = none → b ≠ x := fun b n z => by subst z; rw [n] at mu; exact mu
  have hb : ∀ b, H b = none → b ≠ e := fun b n z => by
    subst z
    rcases he with r | r
    · exact hx b n r
    · rw [n] at r; cases r
  have hm : ∀ b u, H b = some u → ¬ Mut (some u) → b ≠ x := fun b u q nm z => by subst z; rw [q] at mu; exact nm mu
  refine ⟨fun b u q n _ _ => k b u (hb b n) q, fun b u q n _ _ => ⟨u.slots, k b u (hb b n) q⟩, fun b u q n _ => by rw [upd_ne (hx b n)]; exact n, fun b u q _ => ?_,
    fun b xs q => by rw [upd_ne (hm b _ q fun z => z)]; exact q, fun b u xs q => by rw [upd_ne (hm b _ q fun z => z)]; exact q, fun b ps q => ⟨#[], by rw [upd_ne (hm b _ q fun z => z), q]; simp⟩⟩
  by_cases hbe : b = e
  · subst hbe; exact heo
  · exact ⟨u, k b u hbe q⟩
theorem Un.mono (u : Un fs ex H H1 h h1) (hs : ∀ b ∈ fs, b ∈ fs') (hx : ∀ b ∈ ex, b ∈ ex') : Un fs' ex' H H1 h h1 :=
  ⟨fun b ob q n hb he => u.keep b ob q n (fun z => hb (hs b z)) fun z => he (hx b z), fun _ _ q n _ he => u.any q n fun z => he (hx _ z), fun b ob q n he => u.free b ob q n fun z => he (hx b z), fun b ob q he => u.there b ob q fun z => he (hx b z), u.tups, u.frzs, u.tbls⟩
end
def trk (h : Heap) (H : Hp) : List Addr := (List.range h.objs.size).filter fun a => (H a).isSome
def hidT (h : Heap) (H : Hp) : Heap := PySem.W.hideAll h (trk h H)
theorem hidT_size (h : Heap) (H : Hp) : (hidT h H).objs.size = h.objs.size := PySem.W.hideAll_size _ _
theorem hidT_get {h : Heap} {H : Hp} {b : Addr} {o : Obj} (e : h.get? b = some o) (n : H b = none) : (hidT h H).get? b = some o :=
  PySem.W.hideAll_get _ e fun hm => by
    have q : (H b).isSome = true := (List.mem_filter.mp hm).2
    rw [n] at q; simp at q
theorem of_hidT {h : Heap} {H : Hp} {b : Addr} {o : Obj} (e : (hidT h H).get? b = some o) : h.get? b = some o ∧ H b = none := by
  have e' : h.get? b = some o := PySem.W.of_hideAll (trk h H) e
  refine ⟨e', ?_⟩
  cases q : H b with
  | none => rfl
  | some x =>
    have hm : b ∈ trk h H := List.mem_filter.mpr ⟨List.mem_range.mpr (Heap.lt_size e'), by simp [q]⟩
    have z : (hidT h H).get? b = none := PySem.W.hideAll_none (trk h H) hm
    rw [z] at e; cases e
def allNews (g h : Heap) (L : Addr) : List (Addr × Obj) := (List.range h.objs.size).filterMap fun a => if a = L ∨ (g.get? a).isSome = true then none else (h.get? a).map fun o => (a, o)
def rest (g h : Heap) (L d : Addr) : List (Addr × Obj) := (allNews g h L).filter fun p => decide (p.1 ≠ d)
end L2
namespace L2
open PySem PySem.Spec PyProof.Rows
structure Mod (K : PySem.W.Frag) (mg : Str → Option Value) (base : Heap) : Prop where
  kin : K.In base
  glob : base.Ns mainGlobals mg
  blt : ∃ mb, base.Ns builtinsNs mb ∧ ∀ x : Str, x ≠ "__name__" → mb x = bootBuiltins x
  nolimit : base.NoLimit
structure Cx where
  prog : Program
  w : World
  K : PySem.W.Frag
  mg : Str → Option Value
  base : Heap
  A : Around
  N : List Str
  s₀ : Shared
  H₀ : Hp
  env : Env
  outer : List Env
  stack : List Env
  ex : List Addr
  fn : Str → Bool
  calm : Bool
  pn : List (Addr × Obj)
  xe : Value → Shared → Prop
def frs (l : List Env) : List Addr := l.filterMap (·.frame)
abbrev Cx.fs (X : Cx) : List Addr := frs X.outer
def Vis (sc : Scope) (x : Str) : Prop := sc.names.lookup x = some .local ∨ sc.names.lookup x = some .cell ∨ sc.names.lookup x = some .free
def Loc (sc : Scope) (x : Str) : Prop := sc.names.lookup x = some .local ∨ sc.names.lookup x = some .cell
def Look (env : Env) (h : Heap) (m : Str → Option Value) (x : Str) (u : Value) : Prop :=
  (env.kindOf x = some .local ∧ m x = some u) ∨ ((env.kindOf x = some .cell ∨ env.kindOf x = some .free) ∧ ∃ c, env.cells.lookup x = some c ∧ h.IsCell c (some u))
structure Cx.Ok (X : Cx) : Prop where
  mod : Mod X.K X.mg X.base
  kind : X.env.scope.kind = .function
  glob : X.env.globals = mainGlobals
  blt : X.env.builtins = builtinsNs
  above : X.s₀.heap.objs.size ≤ X.env.locals
  inj : ∀ x y c, X.env.cells.lookup x = some c → X.env.cells.lookup y = some c → x = y
  has : ∀ x, (X.env.kindOf x = some .cell ∨ X.env.kindOf x = some .free) → ∃ c, X.env.cells.lookup x = some c
  cab : ∀ x c, X.fn x = true → X.env.cells.lookup x = some c → X.s₀.heap.objs.size ≤ c
  hd : X.calm = true → X.A.handled = none
  frames : X.A.frames = some X.stack
  stk : X.stack = X.outer ∨ (X.stack = X.env :: X.outer ∧ X.env.frame = some X.env.locals)
  exf : ∀ b ∈ X.ex, b ≠ X.env.locals ∧ ∀ x c, X.env.cells.lookup x = some c → c ≠ b
  bs : ∀ b o, X.base.get? b = some o → X.s₀.heap.get? b = some o ∧ X.H₀ b = none
  bsz : X.base.objs.size ≤ X.s₀.heap.objs.size
  noex : ∀ b o, X.base.get? b = some o → b ∉ X.ex
  exfs : ∀ b ∈ X.ex, b ∉ X.fs
  funs : X.s₀.heap.FunFrames X.base X.outer
  frf : ∀ b ∈ X.fs, X.H₀ b = none
structure Inv (X : Cx) (pins : List (Addr × Obj)) (σ : List (Option V)) (H : Hp) (s : Shared) : Prop where
  ok : X.Ok
  os : s.os = X.s₀.os
  bare : AllBare s.gens
  base : Un X.fs X.ex X.H₀ H X.s₀.heap s.heap
  loc : ∃ m, s.heap.Ns X.env.locals m ∧ ∀ (i : Nat) (x : Str) (v : V), X.N[i]? = some x → σ[i]? = some (some v) → Vis X.env.scope x → ∃ u, RelV v u ∧ Look X.env s.heap m x u
  cell : ∀ x c, X.env.cells.lookup x = some c → ∃ v, s.heap.IsCell c v
  free : H X.env.locals = none
  freeC : ∀ x c, X.env.cells.lookup x = some c → H c = none
  pin : ∀ p ∈ X.pn ++ pins, s.heap.get? p.1 = some p.2 ∧ H p.1 = none ∧ p.1 ≠ X.env.locals ∧ p.1 ∉ X.fs ∧ ∀ v, p.2.data ≠ .cell v
  hok : HOk X.prog X.w H s.heap
  len : σ.length = X.N.length
section
variable {X : Cx} {pins : List (Addr × Obj)} {σ : List (Option V)} {H H' : Hp} {s : Shared} {h' : Heap}
theorem Cx.Ok.nofr (ok : X.Ok) {b : Addr} {o : Obj} (e : X.base.get? b = some o) : b ∉ X.fs := fun hb => by
  have := (ok.funs.mem hb).1
  rw [e] at this; cases this
theorem Inv.bs (I : Inv X pins σ H s) : ∀ b o, X.base.get? b = some o → s.heap.get? b = some o ∧ H b = none := fun b o e =>
  ⟨I.base.keep b o (I.ok.bs b o e).1 (I.ok.bs b o e).2 (I.ok.nofr e) (I.ok.noex b o e), I.base.free b o (I.ok.bs b o e).1 (I.ok.bs b o e).2 (I.ok.noex b o e)⟩
theorem Inv.bk (I : Inv X pins σ H s) : ∀ b o, X.base.get? b = some o → s.heap.get? b = some o := fun b o e => (I.bs b o e).1
theorem Inv.mod (I : Inv X pins σ H s) : Mod X.K X.mg X.base := I.ok.mod
theorem Inv.kIn (I : Inv X pins σ H s) : X.K.In s.heap := I.ok.mod.kin.keeps I.bk
theorem Inv.nolimit (I : Inv X pins σ H s) : s.heap.NoLimit := I.ok.mod.nolimit.keeps I.bk
theorem Inv.fr (I : Inv X pins σ H s) : ∃ m, Fr X.base X.env.locals s.heap m :=
  let ⟨m, hn, _⟩ := I.loc
  ⟨m, hn, I.bk, Nat.le_trans I.ok.bsz I.ok.above⟩
theorem Inv.lt (I : Inv X pins σ H s) : X.env.locals < s.heap.objs.size := let ⟨_, hn, _⟩ := I.loc; hn.lt
theorem Inv.sz (I : Inv X pins σ H s) : X.s₀.heap.objs.size ≤ s.heap.objs.size := Nat.le_trans I.ok.above (Nat.le_of_lt I.lt)
theorem Inv.nofs (I : Inv X pins σ H s) {a : Addr} (h : s.heap.objs.size ≤ a) : a ∉ X.fs := fun hb => by
  obtain ⟨_, o, ho, _⟩ := I.ok.funs.mem hb
  exact absurd (Nat.lt_of_lt_of_le (Heap.lt_size ho) (Nat.le_trans I.sz h)) (Nat.lt_irrefl _)
theorem Inv.cne (I : Inv X pins σ H s) : ∀ x c, X.env.cells.lookup x = some c → c ≠ X.env.locals := fun x c e z => by
  obtain ⟨v, o, ho, hd⟩ := I.cell x c e
  obtain ⟨m, ⟨o', es, ep, ho', hd', _⟩, _⟩ := I.loc
  rw [z, ho'] at ho; cases ho; rw [hd'] at hd; cases hd
theorem Inv.funs (I : Inv X pins σ H s) : s.heap.FunFrames X.base X.outer := by
  have all : ∀ (l : List Env), (∀ b ∈ frs l, b ∈ X.fs) → X.s₀.heap.FunFrames X.base l → s.heap.FunFrames X.base l := by
    intro l
    induction l with
    | nil => intro _ _; trivial
    | cons env r ih =>
      intro hs hl
      obtain ⟨hk, ⟨L, o, hf, hn, ho, hd⟩, hr⟩ := hl
      have hL : L ∈ X.fs := hs L (by unfold frs; rw [List.filterMap_cons, hf]; exact List.mem_cons_self)
      obtain ⟨sl, e⟩ := I.base.slot L o ho (I.ok.frf L hL) hL fun z => I.ok.exfs L z hL
      exact ⟨hk, ⟨L, _, hf, hn, e, hd⟩, ih (fun b hb => hs b (by unfold frs; rw [List.filterMap_cons, hf]; exact List.mem_cons_of_mem _ hb)) hr⟩
  exact all X.outer (fun _ hb => hb) I.ok.funs
theorem Inv.stack (I : Inv X pins σ H s) : s.heap.FunFrames X.base X.stack := by
  rcases I.ok.stk with e | ⟨e, hf⟩
  · rw [e]; exact I.funs
  · rw [e]
    obtain ⟨m, hn, _⟩ := I.loc
    refine .cons (by rw [I.ok.kind]; decide) hf hn ?_ I.funs
    exact Heap.get?_none_of_le (Nat.le_trans I.ok.bsz I.ok.above)
theorem Inv.stkSub (I : Inv X pins σ H s) : ∀ b ∈ frs X.stack, b ∈ X.env.locals :: X.fs := fun b hb => by
  rcases I.ok.stk with e | ⟨e, hf⟩
  · rw [e] at hb; exact List.mem_cons_of_mem _ hb
  · rw [e] at hb
    unfold frs at hb
    rw [List.filterMap_cons, hf] at hb
    exact hb
theorem Inv.stkFree (I : Inv X pins σ H s) : ∀ b ∈ frs X.stack, H b = none := fun b hb => by
  rcases List.mem_cons.mp (I.stkSub b hb) with e | hb
  · rw [e]; exact I.free
  · obtain ⟨_, o, ho, _⟩ := I.ok.funs.mem hb
    exact I.base.free b o ho (I.ok.frf b hb) fun z => I.ok.exfs b z hb
theorem Inv.step {g' : Array GenState} {t' : Nat} {d' : Drawn} {ch : List Addr} (I : Inv X pins σ H s)
    (hch : ∀ b ∈ ch, (b ∈ X.ex ∨ X.s₀.heap.objs.size ≤ b) ∧ b ≠ X.env.locals ∧ (∀ x c, X.env.cells.lookup x = some c → c ≠ b) ∧ ∀ p ∈ X.pn ++ pins, p.1 ≠ b)
    (keep : ∀ b o, b ≠ X.env.locals → b ∉ X.fs → b ∉ ch → s.heap.get? b = some o → H b = none → h'.get? b = some o)
    (slot : ∀ b o, b ≠ X.env.locals → b ∈ X.fs → b ∉ ch → s.heap.get? b = some o → H b = none → ∃ sl, h'.get? b = some { o with slots := sl }) (free : ∀ b o, b ∉ ch → s.heap.get? b = some o → H b = none → H' b = none)
    (there : ∀ b o, b ∉ ch → s.heap.get? b = some o → ∃ o', h'.get? b = some o')
    (tups : ∀ b xs, H b = some (.tup xs) → H' b = some (.tup xs)) (frzs : ∀ b o u, H b = some (.frz o u) → H' b = some (.frz o u)) (tbls : ∀ b ps, H b = some (.tbl ps) → ∃ more, H' b = some (.tbl (ps ++ more)))
    (ns : ∀ m, s.heap.Ns X.env.locals m → h'.Ns X.env.locals m) (hok : HOk X.prog X.w H' h') (hg : AllBare g') :
    Inv X pins σ H' { s with heap := h', gens := g', drawn := d', toks := t' } := by
  have neL : ∀ b o, X.s₀.heap.get? b = some o → b ≠ X.env.locals := fun b o e => Nat.ne_of_lt (Nat.lt_of_lt_of_le (Heap.lt_size e) I.ok.above)
  have neC : ∀ b o, X.s₀.heap.get? b = some o → b ∉ X.ex → b ∉ ch := fun b o e hx hb => by
    rcases (hch b hb).1 with z | z
    · exact hx z
    · exact absurd (Nat.lt_of_lt_of_le (Heap.lt_size e) z) (Nat.lt_irrefl _)
  have cellK : ∀ x c, X.env.cells.lookup x = some c → ∀ v, s.heap.IsCell c v → h'.IsCell c v := fun x c e v ⟨o, ho, hd⟩ => by
    have nch : c ∉ ch := fun z => (hch c z).2.2.1 x c e rfl
    by_cases hc : c ∈ X.fs
    · obtain ⟨sl, q⟩ := slot c o (I.cne x c e) hc nch ho (I.freeC x c e)
      exact ⟨_, q, hd⟩
    · exact ⟨o, keep c o (I.cne x c e) hc nch ho (I.freeC x c e), hd⟩
  refine ⟨I.ok, I.os, hg, ⟨fun b o e n hb hx => ?_, fun b o e n hb hx => ?_, fun b o e n hx => ?_, fun b o e hx => ?_, fun b xs e => tups b xs (I.base.tups b xs e), fun b o xs e => frzs b o xs (I.base.frzs b o xs e), fun b ps e => ?_⟩, ?_, fun x c e => ?_, ?_, fun x c e => ?_, fun p hp => ?_, hok, I.len⟩
  · exact keep b o (neL b o e) hb (neC b o e hx) (I.base.keep b o e n hb hx) (I.base.free b o e n hx)
  · obtain ⟨sl, e1⟩ := I.base.slot b o e n hb hx
    obtain ⟨sl', e2⟩ := slot b _ (neL b o e) hb (neC b o e hx) e1 (I.base.free b o e n hx)
    exact ⟨sl', e2⟩
  · obtain ⟨o', e1⟩ := I.base.there b o e hx
    exact free b o' (neC b o e hx) e1 (I.base.free b o e n hx)
  · obtain ⟨o', e1⟩ := I.base.there b o e hx
    exact there b o' (neC b o e hx) e1
  · obtain ⟨m1, e1⟩ := I.base.tbls b ps e
    obtain ⟨m2, e2⟩ := tbls b _ e1
    exact ⟨m1 ++ m2, by rw [e2, Array.append_assoc]⟩
  · obtain ⟨m, hn, hl⟩ := I.loc
    refine ⟨m, ns m hn, fun i x v e1 e2 e3 => ?_⟩
    obtain ⟨u, r, l⟩ := hl i x v e1 e2 e3
    refine ⟨u, r, ?_⟩
    rcases l with l | ⟨k, c, e, z⟩
    · exact .inl l
    · exact .inr ⟨k, c, e, cellK x c e _ z⟩
  · obtain ⟨v, z⟩ := I.cell x c e
    exact ⟨v, cellK x c e v z⟩
  · obtain ⟨m, ⟨o, _, _, ho, _⟩, _⟩ := I.loc
    exact free _ o (fun z => (hch _ z).2.1 rfl) ho I.free
  · obtain ⟨v, o, ho, hd⟩ := I.cell x c e
    exact free c o (fun z => (hch c z).2.2.1 x c e rfl) ho (I.freeC x c e)
  · obtain ⟨e, n, ne, nf, d⟩ := I.pin p hp
    have nch : p.1 ∉ ch := fun z => (hch p.1 z).2.2.2 p hp rfl
    exact ⟨keep p.1 p.2 ne nf nch e n, free p.1 p.2 nch e n, ne, nf, d⟩
theorem Inv.un {t' : Nat} (I : Inv X pins σ H s) (u : Un X.fs [] H H' s.heap h') (hok : HOk X.prog X.w H' h') : Inv X pins σ H' { s with heap := h', toks := t' } := by
  obtain ⟨m, ⟨o, es, ep, ho, r⟩, _⟩ := id I.loc
  obtain ⟨sl, hL⟩ := u.any ho I.free (by simp)
  exact I.step (g' := s.gens) (d' := s.drawn) (ch := []) (fun _ z => nomatch z) (fun b o _ hb _ e n => u.keep b o e n hb (by simp)) (fun b o _ hb _ e n => u.slot b o e n hb (by simp)) (fun b o _ e n => u.free b o e n (by simp)) (fun b o _ e => u.there b o e (by simp)) u.tups u.frzs u.tbls (fun m' hm => by
    obtain ⟨o', es', ep', ho', r'⟩ := hm
    rw [ho] at ho'; cases ho'
    exact ⟨_, es', ep', hL, r'⟩) hok I.bare
theorem Inv.call {g' : Array GenState} {t' : Nat} {d' : Drawn} {ch : List Addr} (I : Inv X pins σ H s) (u : Un (frs X.stack) ch H H' s.heap h') (hok : HOk X.prog X.w H' h') (hg : AllBare g')
    (hch : ∀ b ∈ ch, (b ∈ X.ex ∨ X.s₀.heap.objs.size ≤ b) ∧ b ≠ X.env.locals ∧ (∀ x c, X.env.cells.lookup x = some c → c ≠ b) ∧ ∀ p ∈ X.pn ++ pins, p.1 ≠ b) :
    Inv X pins σ H' { s with heap := h', gens := g', drawn := d', toks := t' } := by
  obtain ⟨m, ⟨o, es, ep, ho, r⟩, _⟩ := id I.loc
  obtain ⟨sl, hL⟩ := u.any ho I.free fun z => (hch _ z).2.1 rfl
  exact I.step (ch := ch) hch (fun b o hL hb hc e n => u.keep b o e n (fun z => (List.mem_cons.mp (I.stkSub b z)).elim hL hb) hc) (fun b o _ _ hc e n => u.any e n hc) (fun b o hc e n => u.free b o e n hc) (fun b o hc e => u.there b o e hc) u.tups u.frzs u.tbls (fun m' hm => by
    obtain ⟨o', es', ep', ho', r'⟩ := hm
    rw [ho] at ho'; cases ho'
    exact ⟨_, es', ep', hL, r'⟩) hok hg
theorem Inv.turned {t' : Nat} {it : Addr} (I : Inv X pins σ H s) (k : ∀ b o, b ≠ it → s.heap.get? b = some o → h'.get? b = some o) (hn : H it = none) (hL : it ≠ X.env.locals)
    (h1 : it ∈ X.ex ∨ X.s₀.heap.objs.size ≤ it) (h2 : ∀ x c, X.env.cells.lookup x = some c → c ≠ it) (h3 : ∀ p ∈ X.pn ++ pins, p.1 ≠ it) : Inv X pins σ H { s with heap := h', toks := t' } := by
  have nit : ∀ b u, H b = some u → b ≠ it := fun b u e z => by rw [z, hn] at e; cases e
  refine I.step (g' := s.gens) (d' := s.drawn) (ch := [it]) (fun b hb => ?_) (fun b o _ _ hc e _ => k b o (fun z => hc (by simp [z])) e) (fun b o _ _ hc e _ => ⟨o.slots, k b o (fun z => hc (by simp [z])) e⟩) (fun _ _ _ _ n => n)
    (fun b o hc e => ⟨o, k b o (fun z => hc (by simp [z])) e⟩) (fun _ _ e => e) (fun _ _ _ e => e) (fun b ps e => ⟨#[], by rw [e]; simp⟩) (fun m hm => ?_) (fun b u e => ?_) I.bare
  · have e : b = it := by simpa using hb
    subst e
    exact ⟨h1, hL, h2, h3⟩
  · obtain ⟨o, es, ep, ho, r⟩ := hm
    exact ⟨o, es, ep, k _ o (Ne.symm hL) ho, r⟩
  · refine (I.hok b u e).stay (fun c v hc q => k c v ?_ q) (fun _ q => q) fun _ _ q => q
    rcases hc with z | z
    · rw [z]; exact nit b u e
    · exact nit c _ z
theorem Inv.tok (I : Inv X pins σ H s) (t : Nat) : Inv X pins σ H { s with toks := t } := I.un (h' := s.heap) (t' := t) Un.refl I.hok
theorem Inv.kept {t' : Nat} (I : Inv X pins σ H s) (k : ∀ b u, s.heap.get? b = some u → h'.get? b = some u) : Inv X pins σ H { s with heap := h', toks := t' } := I.un (Un.kept k) (I.hok.kept k)
theorem Inv.laid {a : Addr} {o : HO} {t' : Nat} (I : Inv X pins σ H s) (k : ∀ b u, s.heap.get? b = some u → h'.get? b = some u) (hp : s.heap.objs.size ≤ a) (new : ObjOk X.prog X.w (upd H a o) h' a o) :
    Inv X pins σ (upd H a o) { s with heap := h', toks := t' } := I.un (Un.laid k hp (I.hok.fresh hp)) (I.hok.laid k hp new)
theorem Inv.write {x e : Addr} {o : HO} {t' : Nat} (I : Inv X pins σ H s) (mu : Mut (H x)) (he : e = x ∨ H e = some (.own x)) (k : ∀ b u, b ≠ e → s.heap.get? b = some u → h'.get? b = some u) (heo : ∃ u, h'.get? e = some u)
    (new : ObjOk X.prog X.w (upd H x o) h' x o) : Inv X pins σ (upd H x o) { s with heap := h', toks := t' } := I.un (Un.write mu he k heo) (I.hok.write mu he k heo new)
theorem Inv.weak {σ' : List (Option V)} (I : Inv X pins σ H s) (hl : σ'.length = σ.length) (w : ∀ (i : Nat) v, σ'[i]? = some (some v) → σ[i]? = some (some v)) : Inv X pins σ' H s :=
  ⟨I.ok, I.os, I.bare, I.base, let ⟨m, hn, hl'⟩ := I.loc; ⟨m, hn, fun i x v e1 e2 e3 => hl' i x v e1 (w i v e2) e3⟩, I.cell, I.free, I.freeC, I.pin, I.hok, hl.trans I.len⟩
theorem Inv.pins_of {pins' : List (Addr × Obj)} (I : Inv X pins σ H s) (h : ∀ p ∈ pins', s.heap.get? p.1 = some p.2 ∧ H p.1 = none ∧ p.1 ≠ X.env.locals ∧ p.1 ∉ X.fs ∧ ∀ v, p.2.data ≠ .cell v) : Inv X pins' σ H s :=
  ⟨I.ok, I.os, I.bare, I.base, I.loc, I.cell, I.free, I.freeC, fun p hp => (List.mem_append.mp hp).elim (fun z => I.pin p (List.mem_append_left _ z)) (h p), I.hok, I.len⟩
theorem nodup_ix {N : List Str} (hN : N.Nodup) {i j : Nat} {x : Str} (a : N[i]? = some x) (b : N[j]? = some x) : i = j := by
  obtain ⟨h1, e1⟩ := List.getElem?_eq_some_iff.mp a
  obtain ⟨h2, e2⟩ := List.getElem?_eq_some_iff.mp b
  exact (List.getElem_inj hN).mp (e1.trans e2.symm)
theorem store_ok2 {M : Model} {A : Around} {E : Value → Shared → Prop} {i : Nat} {x : Str} {v : V} {u : Value} {Q : Unit → Shared → Prop} (I : Inv X pins σ H s) (hN : X.N.Nodup) (hi : X.N[i]? = some x) (hx : Loc X.env.scope x) (r : RelV v u)
    (h : ∀ s', Inv X pins (σ.set i (some v)) H s' → (∃ a, Heap.SameBut a s.heap s'.heap ∧ (a = X.env.locals ∨ X.env.cells.lookup x = some a)) → Q () s') (hf : X.fn x = true ∨ X.env.scope.names.lookup x = some .local := by first | exact .inl rfl | exact .inr rfl | assumption) : wpAny M A (storeName X.env x u) Q E s := by
  obtain ⟨m, hn, hl⟩ := id I.loc
  have hcls : (X.env.scope.kind == .class || (X.env.scope.kind == .module && X.env.locals != X.env.globals)) = false := by rw [I.ok.kind]; rfl
  have hiσ : i < σ.length := by rw [I.len]; exact (List.getElem?_eq_some_iff.mp hi).1
  have cne := I.cne
  have tracked : ∀ {a : Addr} {h' : Heap}, (∃ o, s.heap.get? a = some o ∧ H a = none) → Heap.SameBut a s.heap h' → HOk X.prog X.w H h' := fun {a h'} ha hs b ob e => by
    obtain ⟨_, _, hfree⟩ := ha
    refine (I.hok b ob e).stay (fun c w' hc q => (hs.2 c ?_).trans q) (fun _ q => q) fun _ _ q => q
    rintro rfl
    rcases hc with rfl | hc
    · rw [hfree] at e; cases e
    · rw [hfree] at hc; cases hc
  rcases hx with hk | hk
  · refine wpAny_storeName_local hk hn (fun h' hn' hs => ?_) hcls
    obtain ⟨oL, _, _, hoL, _⟩ := id hn
    refine h _ ⟨I.ok, I.os, I.bare, ⟨fun b o e n hb hx => ?_, fun b o e n hb hx => ?_, I.base.free, fun b o e hx => ?_, I.base.tups, I.base.frzs, I.base.tbls⟩, ⟨_, hn', fun j y v' e1 e2 e3 => ?_⟩, fun y c e => ?_, I.free, I.freeC, fun p hp => ?_, tracked ⟨oL, hoL, I.free⟩ hs, by simpa using I.len⟩ ⟨_, hs, .inl rfl⟩
    · exact (hs.2 b (Nat.ne_of_lt (Nat.lt_of_lt_of_le (Heap.lt_size e) I.ok.above))).trans (I.base.keep b o e n hb hx)
    · obtain ⟨sl, e1⟩ := I.base.slot b o e n hb hx
      exact ⟨sl, (hs.2 b (Nat.ne_of_lt (Nat.lt_of_lt_of_le (Heap.lt_size e) I.ok.above))).trans e1⟩
    · obtain ⟨o', e1⟩ := I.base.there b o e hx
      exact ⟨o', (hs.2 b (Nat.ne_of_lt (Nat.lt_of_lt_of_le (Heap.lt_size e) I.ok.above))).trans e1⟩
    · by_cases hj : j = i
      · subst hj
        rw [hi] at e1; cases e1
        rw [List.getElem?_set_self hiσ] at e2
        cases e2
        exact ⟨u, r, .inl ⟨hk, by simp⟩⟩
      · rw [List.getElem?_set_ne (Ne.symm hj)] at e2
        obtain ⟨u', r', q⟩ := hl j y v' e1 e2 e3
        refine ⟨u', r', ?_⟩
        rcases q with ⟨k, e⟩ | ⟨k, c, e, z⟩
        · refine .inl ⟨k, ?_⟩
          have : y ≠ x := fun e => hj (nodup_ix hN e1 (e ▸ hi))
          simp [this, e]
        · exact .inr ⟨k, c, e, z.sameBut hs (cne y c e)⟩
    · obtain ⟨w', z⟩ := I.cell y c e
      exact ⟨w', z.sameBut hs (cne y c e)⟩
    · obtain ⟨e, n, ne, nf, d⟩ := I.pin p hp
      exact ⟨(hs.2 p.1 ne).trans e, n, ne, nf, d⟩
  · have hfn : X.fn x = true := by
      rcases hf with z | z
      · exact z
      · rw [z] at hk; cases hk
    obtain ⟨c, hc⟩ := I.ok.has x (.inl hk)
    obtain ⟨w', z⟩ := I.cell x c hc
    refine wpAny_storeName_cell I.ok.kind hk hc z (fun h' hc' hs => ?_)
    obtain ⟨oc, hoc, hocd⟩ := id z
    refine h { s with heap := h' } ⟨I.ok, I.os, I.bare, ⟨fun b o e n hb hx => ?_, fun b o e n hb hx => ?_, I.base.free, fun b o e hx => ?_, I.base.tups, I.base.frzs, I.base.tbls⟩, ⟨m, hn.sameBut hs (Ne.symm (cne x c hc)), fun j y v' e1 e2 e3 => ?_⟩, fun y c' e => ?_, I.free, I.freeC, fun p hp => ?_, tracked ⟨oc, hoc, I.freeC x c hc⟩ hs, by simpa using I.len⟩ ⟨c, hs, .inr hc⟩
    · exact (hs.2 b (Nat.ne_of_lt (Nat.lt_of_lt_of_le (Heap.lt_size e) (I.ok.cab x c hfn hc)))).trans (I.base.keep b o e n hb hx)
    · obtain ⟨sl, e1⟩ := I.base.slot b o e n hb hx
      exact ⟨sl, (hs.2 b (Nat.ne_of_lt (Nat.lt_of_lt_of_le (Heap.lt_size e) (I.ok.cab x c hfn hc)))).trans e1⟩
    · obtain ⟨o', e1⟩ := I.base.there b o e hx
      exact ⟨o', (hs.2 b (Nat.ne_of_lt (Nat.lt_of_lt_of_le (Heap.lt_size e) (I.ok.cab x c hfn hc)))).trans e1⟩
    · by_cases hj : j = i
      · subst hj
        rw [hi] at e1; cases e1
        rw [List.getElem?_set_self hiσ] at e2
        cases e2
        exact ⟨u, r, .inr ⟨.inl hk, c, hc, hc'⟩⟩
      · rw [List.getElem?_set_ne (Ne.symm hj)] at e2
        obtain ⟨u', r', q⟩ := hl j y v' e1 e2 e3
        refine ⟨u', r', ?_⟩
        rcases q with q | ⟨k, c', e, z'⟩
        · exact .inl q
        · refine .inr ⟨k, c', e, z'.sameBut hs ?_⟩
          rintro rfl
          exact hj (nodup_ix hN e1 (I.ok.inj _ _ _ e hc ▸ hi))
    · by_cases hcc : c' = c
      · subst hcc; exact ⟨_, hc'⟩
      · obtain ⟨w2, z2⟩ := I.cell y c' e
        exact ⟨w2, z2.sameBut hs hcc⟩
    · obtain ⟨e, n, ne, nf, d⟩ := I.pin p hp
      refine ⟨(hs.2 p.1 ?_).trans e, n, ne, nf, d⟩
      intro q
      rw [q, hoc] at e
      have q' : oc = p.2 := Option.some.inj e
      exact d w' (by rw [← q']; exact hocd)
theorem store_ok {M : Model} {A : Around} {E : Value → Shared → Prop} {i : Nat} {x : Str} {v : V} {u : Value} {Q : Unit → Shared → Prop} (I : Inv X pins σ H s) (hN : X.N.Nodup) (hi : X.N[i]? = some x) (hx : Loc X.env.scope x) (r : RelV v u)
    (h : ∀ s', Inv X pins (σ.set i (some v)) H s' → Q () s') (hf : X.fn x = true ∨ X.env.scope.names.lookup x = some .local := by first | exact .inl rfl | exact .inr rfl | assumption) : wpAny M A (storeName X.env x u) Q E s :=
  store_ok2 I hN hi hx r (fun s' I' _ => h s' I') hf
theorem Inv.call' {s' : Shared} {ch : List Addr} (I : Inv X pins σ H s) (ho : s'.os = s.os) (u : Un (frs X.stack) ch H H' s.heap s'.heap) (hok : HOk X.prog X.w H' s'.heap) (hg : AllBare s'.gens)
    (hch : ∀ b ∈ ch, (b ∈ X.ex ∨ X.s₀.heap.objs.size ≤ b) ∧ b ≠ X.env.locals ∧ (∀ x c, X.env.cells.lookup x = some c → c ≠ b) ∧ ∀ p ∈ X.pn ++ pins, p.1 ≠ b) : Inv X pins σ H' s' := by
  obtain ⟨h', g', d', t', o'⟩ := s'
  have e : o' = s.os := ho
  subst e
  exact I.call (g' := g') (t' := t') (d' := d') u hok hg hch
end
abbrev XK := Value → Option Addr → Hp → Prop
abbrev St := List (Option V)
abbrev VK := V → Hp → Prop
abbrev TE := St → Hp → VK → Prop
abbrev TT := St → Hp → (Bool → Hp → Prop) → Prop
abbrev TA := St → Hp → (List V → Hp → Prop) → Prop
structure Ends where
  nx : St → Hp → Prop
  rt : VK
  bk : St → Hp → Prop := fun _ _ => False
  ct : St → Hp → Prop := fun _ _ => False
abbrev TS := Ends → St → Hp → Prop
def EP (X : Cx) (pins : List (Addr × Obj)) (σ : St) (Q : VK) (u : Value) (s' : Shared) : Prop := ∃ v H', Inv X pins σ H' s' ∧ RelV v u ∧ Q v H'
def TP (X : Cx) (pins : List (Addr × Obj)) (σ : St) (Q : Bool → Hp → Prop) (b : Bool) (s' : Shared) : Prop := ∃ H', Inv X pins σ H' s' ∧ Q b H'
def AP (X : Cx) (pins : List (Addr × Obj)) (σ : St) (Q : List V → Hp → Prop) (us : List Value) (s' : Shared) : Prop := ∃ vs H', Inv X pins σ H' s' ∧ Vals vs us ∧ Q vs H'
def SP (X : Cx) (pins : List (Addr × Obj)) (D : Ends) (f : Flow) (s' : Shared) : Prop :=
  match f with
  | .next => ∃ σ' H', Inv X pins σ' H' s' ∧ D.nx σ' H'
  | .brk => ∃ σ' H', Inv X pins σ' H' s' ∧ D.bk σ' H'
  | .cont => ∃ σ' H', Inv X pins σ' H' s' ∧ D.ct σ' H'
  | .ret u => ∃ v σ' H', Inv X pins σ' H' s' ∧ RelV v u ∧ D.rt v H'
def PE (X : Cx) (e : Expr) (t : TE) : Prop :=
  ∀ (pins : List (Addr × Obj)) (s : Shared) (σ : St) (H : Hp) (Q : VK), Inv X pins σ H s → t σ H Q → wpAny (model X.prog X.w) X.A (eval e X.env) (EP X pins σ Q) X.xe s
def PT (X : Cx) (e : Expr) (t : TT) : Prop :=
  ∀ (pins : List (Addr × Obj)) (s : Shared) (σ : St) (H : Hp) (Q : Bool → Hp → Prop), Inv X pins σ H s → t σ H Q → wpAny (model X.prog X.w) X.A (isTrue e X.env (eval e X.env)) (TP X pins σ Q) X.xe s
def PW (X : Cx) (e : Expr) (t : TT) : Prop :=
  ∀ (whole : Sem Value) (pins : List (Addr × Obj)) (s : Shared) (σ : St) (H : Hp) (Q : Bool → Hp → Prop), Inv X pins σ H s → t σ H Q → wpAny (model X.prog X.w) X.A (isTrue e X.env whole) (TP X pins σ Q) X.xe s
theorem PW.pt {X : Cx} {e : Expr} {t : TT} (h : PW X e t) : PT X e t := h _
def PA (X : Cx) (es : List Expr) (t : TA) : Prop :=
  ∀ (pos : Pos) (pins : List (Addr × Obj)) (s : Shared) (σ : St) (H : Hp) (Q : List V → Hp → Prop), Inv X pins σ H s → t σ H Q → wpAny (model X.prog X.w) X.A (spliced (backTo pos (starEach es X.env))) (AP X pins σ Q) X.xe s
def PS (X : Cx) (st : Stmt) (t : TS) : Prop :=
  ∀ (pins : List (Addr × Obj)) (s : Shared) (σ : St) (H : Hp) (D : Ends), Inv X pins σ H s → t D σ H → wpAny (model X.prog X.w) X.A (exec st X.env) (SP X pins D) X.xe s
def PSs (X : Cx) (st : List Stmt) (t : TS) : Prop :=
  ∀ (pins : List (Addr × Obj)) (s : Shared) (σ : St) (H : Hp) (D : Ends), Inv X pins σ H s → t D σ H → wpAny (model X.prog X.w) X.A (execs st X.env) (SP X pins D) X.xe s
theorem thn {α : Type} {t : Sem α} {Q Q' : α → Shared → Prop} {M : Model} {A : Around} {E : Value → Shared → Prop} {s : Shared} (h : wpAny M A t Q E s) (hQ : ∀ a s, Q a s → Q' a s) : wpAny M A t Q' E s := wpAny_mono h hQ fun _ _ x => x
end L2
namespace L2
open PySem PySem.Spec PyProof.Rows
section
variable {X : Cx}
def tVar (i : Nat) : TE := fun σ H Q => ∃ v, σ[i]? = some (some v) ∧ Q v H
def tC (v : V) : TE := fun _ H Q => Q v H
theorem pe_var {i : Nat} {x : Str} {pos : Pos} (hN : X.N[i]? = some x) (hv : Vis X.env.scope x) (hd : (x == ("__debug__" : Str)) = false := by decide) (hcd : (x == ("__classdict__" : Str)) = false := by decide) : PE X (.Name x pos) (tVar i) := by
  intro pins s σ H Q I h
  obtain ⟨v, e, h⟩ := h
  obtain ⟨m, hn, hl⟩ := I.loc
  obtain ⟨u, r, l⟩ := hl i x v hN e hv
  have fin : EP X pins σ Q u s := ⟨v, H, I, r, h⟩
  rcases l with ⟨hk, hm⟩ | ⟨hk, c, hc, hcell⟩
  · exact wpAny_Name (wpAny_loadName_local I.ok.kind hk hn hm fin) hd
  · rcases hk with hk | hk
    · exact wpAny_Name (wpAny_loadName_cell I.ok.kind hk hc hcell fin) hd
    · exact wpAny_Name (wpAny_loadName_free I.ok.kind hk hc hcell fin hcd) hd
theorem pe_int {i j pos} : PE X (.Constant (.int i) j pos) (tC (.int i)) := fun _ _ _ H _ I h => wpAny_Constant_int ⟨.int i, H, I.tok _, ⟨_, rfl⟩, h⟩
theorem pe_bl {b j pos} : PE X (.Constant (.bool b) j pos) (tC (.bl b)) := fun _ _ _ H _ I h => Constant_bool ⟨.bl b, H, I, rfl, h⟩
theorem pe_non {j pos} : PE X (.Constant .none j pos) (tC .non) := fun _ _ _ H _ I h => Constant_none ⟨.non, H, I, rfl, h⟩
theorem pe_str {x j pos} : PE X (.Constant (.str x) j pos) (tC (.str x)) := fun _ _ _ H _ I h => Calls.Constant_str ⟨.str x, H, I.tok _, ⟨_, rfl⟩, h⟩
def Gl (X : Cx) (x : Str) : Prop := X.env.kindOf x = some .globalImplicit
theorem ld_glob {E : Value → Shared → Prop} {pins : List (Addr × Obj)} {s : Shared} {σ : St} {H : Hp} {x : Str} {u : Value} {pos : Pos} {Q : Value → Shared → Prop} (I : Inv X pins σ H s) (hg : Gl X x) (hm : X.mg x = some u) (h : Q u s)
    (hd : (x == ("__debug__" : Str)) = false := by decide) : wpAny (model X.prog X.w) X.A (eval (.Name x pos) X.env) Q E s :=
  Calls.Name_function_global I.ok.kind hg (Calls.loadGlobal_global (by rw [I.ok.glob]; exact I.mod.glob.keeps I.bk) hm h) hd
theorem ld_blt {E : Value → Shared → Prop} {pins : List (Addr × Obj)} {s : Shared} {σ : St} {H : Hp} {x : Str} {u : Value} {pos : Pos} {Q : Value → Shared → Prop} (I : Inv X pins σ H s) (hg : Gl X x) (hm : X.mg x = none) (hv : bootBuiltins x = some u) (h : Q u s)
    (hn : x ≠ "__name__" := by decide) (hd : (x == ("__debug__" : Str)) = false := by decide) : wpAny (model X.prog X.w) X.A (eval (.Name x pos) X.env) Q E s := by
  obtain ⟨mb, h1, h2⟩ := I.mod.blt
  exact Calls.Name_function_global I.ok.kind hg (Calls.loadGlobal_builtin (by rw [I.ok.glob]; exact I.mod.glob.keeps I.bk) hm (by rw [I.ok.blt]; exact h1.keeps I.bk) ((h2 x hn).trans hv) h) hd
theorem pe_glob {x : Str} {v : V} {u : Value} {pos : Pos} (hg : Gl X x) (hm : X.mg x = some u) (r : RelV v u) (hd : (x == ("__debug__" : Str)) = false := by decide) : PE X (.Name x pos) (tC v) :=
  fun _ _ _ H _ I h => ld_glob I hg hm ⟨v, H, I, r, h⟩ hd
theorem pe_bltn {x : Str} {v : V} {u : Value} {pos : Pos} (hg : Gl X x) (hm : X.mg x = none) (hv : bootBuiltins x = some u) (r : RelV v u) (hn : x ≠ "__name__" := by decide) (hd : (x == ("__debug__" : Str)) = false := by decide) : PE X (.Name x pos) (tC v) :=
  fun _ _ _ H _ I h => ld_blt I hg hm hv ⟨v, H, I, r, h⟩ hn hd
variable {a b : Expr} {ta tb : TE} {pos : Pos}
def tB (t : TE) : TT := fun σ H Q => t σ H fun x H1 => ∃ c, x = .bl c ∧ Q c H1
theorem pt_val {e : Expr} {t : TE} (h : PE X e t) (he : ∀ whole, isTrue e X.env whole = (do let v ← whole; standAt e.pos; holding [v] (truthy v)) := by intro _; rfl) : PT X e (tB t) := by
  intro pins s σ H Q I hw
  refine isTrue_plain (thn (h pins s σ H _ I hw) fun v s1 ⟨x, H1, I1, r1, q1⟩ => ?_) (he _)
  obtain ⟨d, rfl, q⟩ := q1
  cases r1
  exact wpAny_truthy_bool ⟨H1, I1, q⟩
variable {tA tB' : TT} {rest : List Expr}
def tAnd (t u : TT) : TT := fun σ H Q => t σ H fun c H1 => if c = true then u σ H1 Q else Q false H1
def tOr (t u : TT) : TT := fun σ H Q => t σ H fun c H1 => if c = true then Q true H1 else u σ H1 Q
def tNot (t : TT) : TT := fun σ H Q => t σ H fun c H1 => Q (!c) H1
theorem pw_and1 (ha : PT X a tA) : PW X (.BoolOp .And [a] pos) tA := by
  intro wh pins s σ H Q I h
  refine isTrue_and (thn (ha pins s σ H Q I h) fun c s1 e => ?_)
  cases c with
  | true => exact isTrue_and_nil e
  | false => exact e
theorem pw_or1 (ha : PT X a tA) : PW X (.BoolOp .Or [a] pos) tA := by
  intro wh pins s σ H Q I h
  refine isTrue_or (thn (ha pins s σ H Q I h) fun c s1 e => ?_)
  cases c with
  | false => exact isTrue_or_nil e
  | true => exact e
theorem pw_and (ha : PT X a tA) (hb : PW X (.BoolOp .And (b :: rest) pos) tB') : PW X (.BoolOp .And (a :: b :: rest) pos) (tAnd tA tB') := by
  intro wh pins s σ H Q I h
  refine isTrue_and (thn (ha pins s σ H _ I h) fun c s1 ⟨H1, I1, q1⟩ => ?_)
  cases c with
  | true => exact hb wh pins s1 σ H1 Q I1 q1
  | false => exact ⟨H1, I1, q1⟩
theorem pw_or (ha : PT X a tA) (hb : PW X (.BoolOp .Or (b :: rest) pos) tB') : PW X (.BoolOp .Or (a :: b :: rest) pos) (tOr tA tB') := by
  intro wh pins s σ H Q I h
  refine isTrue_or (thn (ha pins s σ H _ I h) fun c s1 ⟨H1, I1, q1⟩ => ?_)
  cases c with
  | true => exact ⟨H1, I1, q1⟩
  | false => exact hb wh pins s1 σ H1 Q I1 q1
theorem pt_not (ha : PT X a tA) : PT X (.UnaryOp .Not a pos) (tNot tA) := by
  intro pins s σ H Q I h
  exact isTrue_not (ha pins s σ H (fun c H1 => Q (!c) H1) I h)
def tAndV (ta tb : TE) : TE := fun σ H Q => ta σ H fun x H1 => ∃ c, x = .bl c ∧ if c = true then tb σ H1 Q else Q (.bl false) H1
def tNotV (ta : TE) : TE := fun σ H Q => ta σ H fun x H1 => ∃ c, x = .bl c ∧ Q (.bl (!c)) H1
theorem pe_one {op} {t : TE} (h : PE X a t) : PE X (.BoolOp op [a] pos) t := fun pins s σ H Q I hw => BoolOp_one (h pins s σ H Q I hw)
theorem pe_and (ha : PE X a ta) (hb : PE X (.BoolOp .And (b :: rest) pos) tb) : PE X (.BoolOp .And (a :: b :: rest) pos) (tAndV ta tb) := by
  intro pins s σ H Q I h
  refine BoolOp_and (thn (ha pins s σ H _ I h) fun v s1 ⟨x, H1, I1, r1, q1⟩ => ?_)
  obtain ⟨c, rfl, q1⟩ := q1
  cases r1
  refine wpAny_truthy_bool ?_
  cases c with
  | true => exact hb pins s1 σ H1 Q I1 q1
  | false => exact ⟨.bl false, H1, I1, rfl, q1⟩
theorem pe_not (ha : PE X a ta) : PE X (.UnaryOp .Not a pos) (tNotV ta) := by
  intro pins s σ H Q I h
  refine UnaryOp_ (thn (ha pins s σ H _ I h) fun v s1 ⟨x, H1, I1, r1, q1⟩ => ?_)
  obtain ⟨c, rfl, q1⟩ := q1
  cases r1
  exact not_of (wpAny_truthy_bool ⟨.bl (!c), H1, I1, rfl, q1⟩)
end
end L2
namespace L2
open PySem PySem.Spec PyProof.Rows
def SqL (K : PySem.W.Frag) (H : Hp) (a : Addr) (xs : List V) : Prop :=
  Rd H a (.lst xs) ∨
    ∃ (o : Obj) (its : Array Value) (n : Nat), K.lookup a = some o ∧ o.cls = .type "list" ∧ o.dict = none ∧ o.data = .seq its n ∧ its.size ≤ sizeLine ∧ Vals xs its.toList
def SqT (K : PySem.W.Frag) (H : Hp) (a : Addr) (xs : List V) : Prop :=
  Rd H a (.tup xs) ∨
    ∃ (o : Obj) (its : Array Value) (n : Nat), K.lookup a = some o ∧ o.cls = .type "tuple" ∧ o.data = .seq its n ∧ its.size ≤ sizeLine ∧ Vals xs its.toList
def absV : Value → Option V
  | .none => some .non
  | .bool b => some (.bl b)
  | .int i _ => some (.int i)
  | .str x _ => some (.str x)
  | .bytes b _ => some (.byt b)
  | .float b _ => some (.flt b)
  | .ref a => some (.ref a)
  | .type n => some (.ty n)
  | _ => none
theorem RelV.abs {x : V} {u : Value} (r : RelV x u) : absV u = some x := by
  cases x with
  | non => cases r; rfl
  | bl _ => cases r; rfl
  | int _ => obtain ⟨t, rfl⟩ := r; rfl
  | str _ => obtain ⟨t, rfl⟩ := r; rfl
  | byt _ => obtain ⟨t, rfl⟩ := r; rfl
  | flt _ => obtain ⟨t, rfl⟩ := r; rfl
  | ref _ => cases r; rfl
  | ty _ => cases r; rfl
theorem RelV.inj {x y : V} {u : Value} (r : RelV x u) (q : RelV y u) : x = y := Option.some.inj (r.abs.symm.trans q.abs)
theorem Vals.inj : ∀ {xs ys : List V} {us : List Value}, Vals xs us → Vals ys us → xs = ys
  | _, _, _, .nil, .nil => rfl
  | _, _, _, .cons r t, .cons r' t' => by rw [r.inj r', Vals.inj t t']
section
variable {X : Cx} {pins : List (Addr × Obj)} {σ : St} {H : Hp} {s : Shared} {a : Addr} {xs ys : List V}
theorem SqL.of {K : PySem.W.Frag} (h : H a = some (.lst xs)) : SqL K H a xs := .inl (.inl h)
theorem SqT.of {K : PySem.W.Frag} (h : H a = some (.tup xs)) : SqT K H a xs := .inl (.inl h)
theorem Inv.list (I : Inv X pins σ H s) (h : SqL X.K H a xs) : ∃ its : List Value, Vals xs its ∧ PlainL s.heap a its.toArray ∧ xs.length ≤ sizeLine := by
  rcases h with h | ⟨o, its, n, hk, hc, hd, hs, hz, r⟩
  · obtain ⟨z, its, n, r, e⟩ := h.ok I.hok
    exact ⟨its, r, ⟨_, n, e, rfl, rfl, rfl⟩, z⟩
  · refine ⟨its.toList, r, ⟨o, n, I.kIn a o hk, hc, hd, by simpa using hs⟩, ?_⟩
    have e := r.length
    simp only [Array.length_toList] at e
    omega
theorem Inv.tuple (I : Inv X pins σ H s) (h : SqT X.K H a xs) : ∃ its : List Value, Vals xs its ∧ IsTup s.heap a its.toArray ∧ xs.length ≤ sizeLine := by
  rcases h with h | ⟨o, its, n, hk, hc, hs, hz, r⟩
  · obtain ⟨z, its, r, p⟩ := h.ok I.hok
    exact ⟨its, r, p, z⟩
  · refine ⟨its.toList, r, ⟨o, I.kIn a o hk, hc, n, by simpa using hs⟩, ?_⟩
    have e := r.length
    simp only [Array.length_toList] at e
    omega
theorem Inv.list_inj (I : Inv X pins σ H s) (h : SqL X.K H a xs) (h' : SqL X.K H a ys) : xs = ys := by
  obtain ⟨its, r, ⟨o, n, e, _, _, d⟩, _⟩ := I.list h
  obtain ⟨its', r', ⟨o', n', e', _, _, d'⟩, _⟩ := I.list h'
  rw [e] at e'; cases e'
  rw [d] at d'
  injection d' with d1 _
  have : its = its' := by simpa using congrArg Array.toList d1
  subst this
  exact r.inj r'
theorem Inv.tuple_inj (I : Inv X pins σ H s) (h : SqT X.K H a xs) (h' : SqT X.K H a ys) : xs = ys := by
  obtain ⟨its, r, ⟨o, e, _, n, d⟩, _⟩ := I.tuple h
  obtain ⟨its', r', ⟨o', e', _, n', d'⟩, _⟩ := I.tuple h'
  rw [e] at e'; cases e'
  rw [d] at d'
  injection d' with d1 _
  have : its = its' := by simpa using congrArg Array.toList d1
  subst this
  exact r.inj r'
end
abbrev Cx.wish (X : Cx) (E : Value → Shared → Prop) : Cx := { X with xe := E }
abbrev Cx.nox (X : Cx) : Cx := X.wish fun _ _ => False
theorem Cx.Ok.wish {X : Cx} (ok : X.Ok) (E : Value → Shared → Prop) : (X.wish E).Ok :=
  ⟨ok.mod, ok.kind, ok.glob, ok.blt, ok.above, ok.inj, ok.has, ok.cab, ok.hd, ok.frames, ok.stk, ok.exf, ok.bs, ok.bsz, ok.noex, ok.exfs, ok.funs, ok.frf⟩
theorem Cx.Ok.unwish {X : Cx} {E : Value → Shared → Prop} (ok : (X.wish E).Ok) : X.Ok :=
  ⟨ok.mod, ok.kind, ok.glob, ok.blt, ok.above, ok.inj, ok.has, ok.cab, ok.hd, ok.frames, ok.stk, ok.exf, ok.bs, ok.bsz, ok.noex, ok.exfs, ok.funs, ok.frf⟩
section
variable {X : Cx} {pins : List (Addr × Obj)} {σ : St} {H : Hp} {s : Shared} {E : Value → Shared → Prop}
theorem Inv.wish (I : Inv X pins σ H s) (E : Value → Shared → Prop) : Inv (X.wish E) pins σ H s := ⟨I.ok.wish E, I.os, I.bare, I.base, I.loc, I.cell, I.free, I.freeC, I.pin, I.hok, I.len⟩
theorem Inv.unwish (I : Inv (X.wish E) pins σ H s) : Inv X pins σ H s := ⟨I.ok.unwish, I.os, I.bare, I.base, I.loc, I.cell, I.free, I.freeC, I.pin, I.hok, I.len⟩
theorem SP.unwish {D : Ends} {f : Flow} {s' : Shared} (h : SP (X.wish E) pins D f s') : SP X pins D f s' := by
  cases f with
  | next => obtain ⟨σ', H', I, q⟩ := h; exact ⟨σ', H', I.unwish, q⟩
  | brk => obtain ⟨σ', H', I, q⟩ := h; exact ⟨σ', H', I.unwish, q⟩
  | cont => obtain ⟨σ', H', I, q⟩ := h; exact ⟨σ', H', I.unwish, q⟩
  | ret u => obtain ⟨v, σ', H', I, r, q⟩ := h; exact ⟨v, σ', H', I.unwish, r, q⟩
theorem PE.nox {e : Expr} {t : TE} (h : PE X.nox e t) : PE X e t := fun pins s σ H Q I hw =>
  wpAny_mono (h pins s σ H Q (I.wish _) hw) (fun _ _ ⟨v, H', I', r, q⟩ => ⟨v, H', I'.unwish, r, q⟩) fun _ _ z => False.elim z
theorem PT.nox {e : Expr} {t : TT} (h : PT X.nox e t) : PT X e t := fun pins s σ H Q I hw =>
  wpAny_mono (h pins s σ H Q (I.wish _) hw) (fun _ _ ⟨H', I', q⟩ => ⟨H', I'.unwish, q⟩) fun _ _ z => False.elim z
theorem PSs.nox {st : List Stmt} {t : TS} (h : PSs X.nox st t) : PSs X st t := fun pins s σ H D I hw =>
  wpAny_mono (h pins s σ H D (I.wish _) hw) (fun _ _ q => q.unwish) fun _ _ z => False.elim z
end
section
variable {X : Cx} {st : Stmt} {rest : List Stmt} {t u : TS} {e : Expr} {te : TE} {pos : Pos}
def tNext : TS := fun D σ H => D.nx σ H
def tSeq (t u : TS) : TS := fun D σ H => t { D with nx := u D } σ H
theorem pss_nil : PSs X [] tNext := fun _ _ σ H _ I h => wpAny_execs_nil ⟨σ, H, I, h⟩
theorem pss_cons (h1 : PS X st t) (h2 : PSs X rest u) : PSs X (st :: rest) (tSeq t u) := by
  intro pins s σ H D I h
  refine wpAny_execs_cons (thn (h1 pins s σ H { D with nx := u D } I h) fun f s1 q => ?_)
  cases f with
  | next =>
    obtain ⟨σ', H', I', q⟩ := q
    exact h2 pins s1 σ' H' D I' q
  | ret v => exact q
  | brk => exact q
  | cont => exact q
theorem pss_one (h1 : PS X st t) : PSs X [st] t := by
  intro pins s σ H D I h
  refine wpAny_execs_cons (thn (h1 pins s σ H D I h) fun f s1 q => ?_)
  cases f with
  | next => exact wpAny_execs_nil q
  | ret v => exact q
  | brk => exact q
  | cont => exact q
theorem Inv.quiet {pins : List (Addr × Obj)} {σ : St} {H : Hp} {s : Shared} (I : Inv X pins σ H s) : interactive X.env = false := by simp [interactive, I.ok.kind]
def tDrop (te : TE) : TS := fun D σ H => te σ H fun _ H1 => D.nx σ H1
theorem ps_expr (he : PE X e te) (hs : swapsWith e none pos.line X.env = pure false := by rfl) : PS X (.Expr e pos) (tDrop te) := by
  intro pins s σ H D I h
  exact wpAny_Expr_any (thn (he pins s σ H _ I h) fun v s1 ⟨x, H1, I1, r1, q1⟩ => ⟨σ, H1, I1, q1⟩) I.quiet hs
def tRet (te : TE) : TS := fun D σ H => te σ H D.rt
theorem ps_ret (he : PE X e te) : PS X (.Return (some e) pos) (tRet te) := by
  intro pins s σ H D I h
  exact wpAny_Return_some (thn (he pins s σ H _ I h) fun v s1 ⟨x, H1, I1, r1, q1⟩ => ⟨x, σ, H1, I1, r1, q1⟩)
def tIfS (c : TT) (t u : TS) : TS := fun D σ H => c σ H fun b H1 => if b = true then t D σ H1 else u D σ H1
theorem ps_if {c : Expr} {a b : List Stmt} {tc : TT} (hc : PT X c tc) (ha : PSs X a t) (hb : PSs X b u) : PS X (.If c a b pos) (tIfS tc t u) := by
  intro pins s σ H D I h
  refine wpAny_If (thn (hc pins s σ H _ I h) fun d s1 ⟨H1, I1, q1⟩ => ?_)
  cases d with
  | true => exact ha pins s1 σ H1 D I1 q1
  | false => exact hb pins s1 σ H1 D I1 q1
def tNever : TS := fun _ _ _ => False
theorem ps_never : PS X st tNever := fun _ _ _ _ _ _ h => h.elim
end
abbrev TG := V → St → Hp → (St → Hp → Prop) → Prop
abbrev TGs := List V → St → Hp → (St → Hp → Prop) → Prop
def PG (X : Cx) (target : Expr) (t : TG) : Prop :=
  ∀ (pins : List (Addr × Obj)) (s : Shared) (σ : St) (H : Hp) (v : V) (u : Value) (Q : St → Hp → Prop), Inv X pins σ H s → RelV v u → t v σ H Q →
    wpAny (model X.prog X.w) X.A (assign target X.env u) (fun _ s' => ∃ σ' H', Inv X pins σ' H' s' ∧ Q σ' H') X.xe s
def PGs (X : Cx) (ts : List Expr) (t : TGs) : Prop :=
  ∀ (pins : List (Addr × Obj)) (s : Shared) (σ : St) (H : Hp) (vs : List V) (us : List Value) (Q : St → Hp → Prop), Inv X pins σ H s → Vals vs us → t vs σ H Q →
    wpAny (model X.prog X.w) X.A (assignInOrder ((assignEach ts X.env).map (·.2)) us) (fun _ s' => ∃ σ' H', Inv X pins σ' H' s' ∧ Q σ' H') X.xe s
abbrev TSet := V → V → V → Hp → (Hp → Prop) → Prop
section
variable {X : Cx} {pos : Pos}
def gName (i : Nat) : TG := fun v σ H Q => Q (σ.set i (some v)) H
theorem pg_name {i : Nat} {x : Str} (hN : X.N.Nodup) (hi : X.N[i]? = some x) (hx : Loc X.env.scope x) (hf : X.fn x = true ∨ X.env.scope.names.lookup x = some .local := by first | exact .inl rfl | exact .inr rfl | assumption) : PG X (.Name x pos) (gName i) := by
  intro pins s σ H v u Q I r h
  exact wpAny_assign_Name (store_ok I hN hi hx r (fun s' I' => ⟨_, H, I', h⟩) hf)
def gNil : TGs := fun vs σ H Q => vs = [] ∧ Q σ H
def gCons (t : TG) (u : TGs) : TGs := fun vs σ H Q => ∃ v r, vs = v :: r ∧ t v σ H fun σ' H' => u r σ' H' Q
theorem pgs_nil : PGs X [] gNil := by
  intro pins s σ H vs us Q I r h
  obtain ⟨e, h⟩ := h
  subst e
  cases r
  exact assignInOrder_nil ⟨σ, H, I, h⟩
theorem pgs_cons {e : Expr} {es : List Expr} {t : TG} {u : TGs} (h1 : PG X e t) (h2 : PGs X es u)
    (hs : (assignEach (e :: es) X.env).map (·.2) = assign e X.env :: (assignEach es X.env).map (·.2) := by rfl) : PGs X (e :: es) (gCons t u) := by
  intro pins s σ H vs us Q I r h
  obtain ⟨v, vr, e1, h⟩ := h
  subst e1
  cases r with
  | cons r rr =>
    rw [hs]
    refine assignInOrder_cons (thn (h1 pins s σ H _ _ _ I r h) fun _ s1 ⟨σ1, H1, I1, q1⟩ => ?_)
    exact h2 pins s1 σ1 H1 _ _ Q I1 rr q1
def gTup (K : PySem.W.Frag) (n : Nat) (t : TGs) : TG := fun v σ H Q => ∃ a xs, v = .ref a ∧ SqT K H a xs ∧ xs.length = n ∧ t xs σ H Q
theorem pg_tup {es : List Expr} {k : Nat} {t : TGs} {n : Nat} (hc : X.calm = true) (h : PGs X es t)
    (hn : (assignEach es X.env).length = n := by rfl) (hst : (assignEach es X.env).findIdx? (·.1) = none := by rfl) : PG X (.Tuple es k pos) (gTup X.K n t) := by
  intro pins s σ H v u Q I r hw
  obtain ⟨a, xs, e1, hq, hl, hw⟩ := hw
  subst e1
  cases r
  obtain ⟨its, rv, ht, hz⟩ := I.tuple hq
  refine assign_Tuple_tuple (I.ok.hd hc) ht (by simp [hn, ← hl, rv.length]) hst fun h' hx => ?_
  have I1 : Inv X pins σ H { s with heap := h' } := I.kept (t' := s.toks) fun b o e => hx b o (Nat.ne_of_lt (Heap.lt_size e)) e
  exact h pins _ σ H xs _ Q I1 (by simpa using rv) hw
def gSub (to ti : TE) (t : TSet) : TG := fun v σ H Q => to σ H fun o H1 => ti σ H1 fun i H2 => t o i v H2 fun H3 => Q σ H3
def tAsg (te : TE) (g : TG) : TS := fun D σ H => te σ H fun x H1 => g x σ H1 D.nx
theorem ps_asg {tg e : Expr} {te : TE} {g : TG} (he : PE X e te) (hg : PG X tg g) (hs : swapsWithSole [tg] e pos.line X.env = pure false := by rfl) (hw : swappedStores [tg] e X.env = pure none := by rfl)
    (h1 : (assignEach [tg] X.env).map (·.2) = [assign tg X.env] := by rfl) : PS X (.Assign [tg] e pos) (tAsg te g) := by
  intro pins s σ H D I h
  refine wpAny_Assign_stores (thn (he pins s σ H _ I h) fun v s1 ⟨x, H1, I1, r1, q1⟩ => ?_) hs hw
  rw [h1]
  exact thn (hg pins s1 σ H1 x v _ I1 r1 q1) fun _ s2 q => q
theorem ps_set {i : Nat} {x : Str} {e : Expr} {te : TE} {pos' : Pos} (hN : X.N.Nodup) (hi : X.N[i]? = some x) (hx : Loc X.env.scope x) (he : PE X e te) (hs : swapsWith e (some (.Name x pos')) pos.line X.env = pure false := by rfl) (hf : X.fn x = true ∨ X.env.scope.names.lookup x = some .local := by first | exact .inl rfl | exact .inr rfl | assumption) :
    PS X (.Assign [.Name x pos'] e pos) (tAsg te (gName i)) := by
  intro pins s σ H D I h
  refine wpAny_Assign_Name (thn (he pins s σ H _ I h) fun v s1 ⟨y, H1, I1, r1, q1⟩ => ?_) hs
  exact store_ok I1 hN hi hx r1 (fun s2 I2 => ⟨_, H1, I2, q1⟩) hf
end
section
variable {X : Cx} {pos : Pos}
def tWhile (c : TT) (tb : TS) : TS := fun D σ H => ∃ W : Nat → St → Hp → Prop, (∃ m, W m σ H) ∧ ∀ m σ H, W m σ H →
  c σ H fun b H1 => if b = true then ∃ N : St → Hp → Prop, (∀ σ' H', N σ' H' → ∃ m', m' < m ∧ W m' σ' H') ∧ tb { D with nx := N, ct := N, bk := D.nx } σ H1 else D.nx σ H1
theorem ps_while {c : Expr} {body : List Stmt} {tc : TT} {tb : TS} (hp : PassesOwn (model X.prog X.w) X.A X.env X.xe) (hc : PT X c tc) (hb : PSs X body tb) : PS X (.While c body [] pos) (tWhile tc tb) := by
  intro pins s σ H D I h
  obtain ⟨W, ⟨m0, w0⟩, turn⟩ := h
  refine wpAny_While (codeAny_whileLoop (fun n s' => ∃ σ' H', Inv X pins σ' H' s' ∧ W n σ' H') ?_ m0 ⟨σ, H, I, w0⟩)
  rintro n s1 ⟨σ1, H1, I1, w1⟩
  refine wpAny_passesOwn hp (thn (hc pins s1 σ1 H1 _ I1 (turn n σ1 H1 w1)) fun b s2 ⟨H2, I2, q2⟩ => ?_)
  cases b with
  | true =>
    obtain ⟨N, hN, q2⟩ := q2
    rw [if_pos rfl]
    refine wpAny_passesOwn hp (thn (hb pins s2 σ1 H2 _ I2 q2) fun f s3 q3 => ?_)
    cases f with
    | next =>
      obtain ⟨σ3, H3, I3, n3⟩ := q3
      obtain ⟨m', hm, w3⟩ := hN σ3 H3 n3
      exact ⟨m', hm, σ3, H3, I3, w3⟩
    | cont =>
      obtain ⟨σ3, H3, I3, n3⟩ := q3
      obtain ⟨m', hm, w3⟩ := hN σ3 H3 n3
      exact ⟨m', hm, σ3, H3, I3, w3⟩
    | brk => exact q3
    | ret v => exact q3
  | false =>
    rw [if_neg Bool.false_ne_true]
    exact wpAny_execs_nil ⟨σ1, H2, I2, q2⟩
end
structure It where
  go : Nat → Hp → Prop
  yld : Nat → Hp → V → Hp → Prop
  stop : Nat → Hp → Prop
def FpOk (X : Cx) (pins : List (Addr × Obj)) (H : Hp) (b : Addr) : Prop :=
  H b = none ∧ b ≠ X.env.locals ∧ b ∉ X.fs ∧ (b ∈ X.ex ∨ X.s₀.heap.objs.size ≤ b) ∧ (∀ x c, X.env.cells.lookup x = some c → c ≠ b) ∧ ∀ p ∈ X.pn ++ pins, p.1 ≠ b
theorem Inv.fpOk {X : Cx} {pins : List (Addr × Obj)} {σ : St} {H H' : Hp} {s : Shared} {b : Addr} (I : Inv X pins σ H s) (hb : s.heap.objs.size ≤ b) (hn : H' b = none) : FpOk X pins H' b := by
  refine ⟨hn, Nat.ne_of_gt (Nat.lt_of_lt_of_le I.lt hb), I.nofs hb, .inr (Nat.le_trans I.sz hb), fun x c e z => ?_, fun p hp z => ?_⟩
  · obtain ⟨v, q⟩ := I.cell x c e
    exact absurd (Nat.lt_of_lt_of_le q.lt (by rw [z]; exact hb)) (Nat.lt_irrefl _)
  · exact absurd (Nat.lt_of_lt_of_le (Heap.lt_size (I.pin p hp).1) (by rw [z]; exact hb)) (Nat.lt_irrefl _)
structure Turn (P : Program) (w : World) (K : PySem.W.Frag) (tg : Expr) (J : It) (fp : List Addr) (it : Addr) (tn : Nat → Heap → Prop) : Prop where
  mem : it ∈ fp
  obj : ∀ i h, tn i h → ∀ b ∈ fp, ∃ o, h.get? b = some o ∧ ∀ v, o.data ≠ .cell v
  keep : ∀ i h h', tn i h → (∀ b ∈ fp, ∀ o, h.get? b = some o → h'.get? b = some o) → tn i h'
  item : ∀ (X : Cx), X.prog = P → X.w = w → X.K = K → X.calm = true → ∀ (i : Nat) (pins : List (Addr × Obj)) (s : Shared) (σ : St) (H : Hp) (E : Value → Shared → Prop), Inv X pins σ H s → (∀ b ∈ fp, FpOk X pins H b) → tn i s.heap → J.go i H →
    wpAny (model P w) X.A (pyNext (.ref it)) (fun r s1 => ∃ u, r = some u ∧
      wpAny (model P w) X.A (letOwnedTupleGo tg (.ref it) u) (fun _ s2 => ∃ x H', Inv X pins σ H' s2 ∧ RelV x u ∧ J.yld i H x H' ∧ tn (i + 1) s2.heap ∧ ∀ b ∈ fp, H' b = none) E s1) E s
  done : ∀ (X : Cx), X.prog = P → X.w = w → X.K = K → X.calm = true → ∀ (i : Nat) (pins : List (Addr × Obj)) (s : Shared) (σ : St) (H : Hp) (E : Value → Shared → Prop), Inv X pins σ H s → (∀ b ∈ fp, FpOk X pins H b) → tn i s.heap → J.stop i H →
    wpAny (model P w) X.A (pyNext (.ref it)) (fun r s1 => r = none ∧ Inv X pins σ H s1) E s
  self : ∀ (A : Around) (i : Nat) (s : Shared) (Q : Value → Shared → Prop) (E : Value → Shared → Prop), tn i s.heap → Q (.ref it) s → wpAny (model P w) A (pyIter (.ref it)) Q E s
abbrev TI := St → Hp → (It → Hp → Prop) → Prop
def PIE (X : Cx) (pins : List (Addr × Obj)) (σ : St) (tg : Expr) (R : It → Hp → Prop) (itv : Value) (s2 : Shared) : Prop :=
  ∃ (it : Addr) (fp : List Addr) (tn : Nat → Heap → Prop) (J : It) (H' : Hp), itv = .ref it ∧ Inv X pins σ H' s2 ∧ Turn X.prog X.w X.K tg J fp it tn ∧ tn 0 s2.heap ∧ (∀ b ∈ fp, FpOk X pins H' b) ∧ R J H'
def PI (X : Cx) (tg iter : Expr) (wi : TI) : Prop :=
  ∀ (pins : List (Addr × Obj)) (s : Shared) (σ : St) (H : Hp) (R : It → Hp → Prop), Inv X pins σ H s → wi σ H R →
    wpAny (model X.prog X.w) X.A (eval iter X.env) (fun v s1 => wpAny (model X.prog X.w) X.A (pyIter v) (PIE X pins σ tg R) X.xe s1) X.xe s
theorem go_of {M : Model} {A : Around} {E : Value → Shared → Prop} {s : Shared} {tg : Expr} {it : Addr} {u : Value} {o : Obj} {n : String} {vs : Array Value} {Q : Unit → Shared → Prop} (ho : s.heap.get? it = some o) (hc : o.cls = .type n) (hd : o.data = .fields vs)
    (hn : ["enumerate", "zip", "dict_itemiterator", "dict_reverseitemiterator", "odict_iterator", "itertools.zip_longest", "itertools.pairwise"].contains n = false) (hQ : Q () s) : wpAny M A (letOwnedTupleGo tg (.ref it) u) Q E s := by
  unfold letOwnedTupleGo
  cases tg <;> first
    | exact wpAny_pure hQ
    | (cases u <;> first
        | exact wpAny_pure hQ
        | (refine wpAny_bind (wpAny_load ho ?_)
           rw [hc, hd]
           show wpAny M A (if (["enumerate", "zip", "dict_itemiterator", "dict_reverseitemiterator", "odict_iterator", "itertools.zip_longest", "itertools.pairwise"].contains n && vs[0]? == some (rawInt _)) = true then _ else _) Q E s
           rw [if_neg (by intro h; rw [hn, Bool.false_and] at h; cases h)]
           exact wpAny_pure hQ))
def Itl (K : PySem.W.Frag) (a : Addr) : It :=
  ⟨fun i H => ∃ xs x, SqL K H a xs ∧ xs[i]? = some x, fun i H x H' => H' = H ∧ ∀ xs, SqL K H a xs → xs[i]? = some x, fun i H => ∃ xs, SqL K H a xs ∧ xs.length ≤ i⟩
def Itr (lo : Int) (n : Nat) : It := ⟨fun i _ => i < n, fun i H x H' => H' = H ∧ x = .int (lo + i), fun i _ => n ≤ i⟩
theorem turn_list {P : Program} {w : World} {K : PySem.W.Frag} {tg : Expr} (a it : Addr) : Turn P w K tg (Itl K a) [it] it (fun i h => h.IsListIter it a i) where
  mem := by simp
  obj := fun i h st b hb => by
    have e : b = it := by simpa using hb
    subst e
    obtain ⟨o, e, c, d⟩ := st
    exact ⟨o, e, fun v z => by rw [d] at z; cases z⟩
  keep := fun i h h' st k => st.at fun o e => k it (by simp) o e
  item := by
    intro X hP hw hK hc i pins s σ H E I hf st hg
    subst hP hw hK
    obtain ⟨xs, x, hq, hx⟩ := hg
    obtain ⟨its, rv, p, hz⟩ := I.list hq
    obtain ⟨u, hu, ru⟩ := rv.get hx
    obtain ⟨f0, f1, f2, f3, f4, f5⟩ := hf it (by simp)
    refine wpAny_pyNext_list_item st p.isList (x := u) (by simpa using hu) fun h' st' sb => ?_
    have I1 : Inv X pins σ H { s with heap := h' } := I.turned (t' := s.toks) (fun b o hb e => (sb.2 b hb).trans e) f0 f1 f3 f4 f5
    obtain ⟨o, e, c, d⟩ := id st'
    exact ⟨u, rfl, go_of (s := { s with heap := h' }) e c d (by decide) ⟨x, H, I1, ru, ⟨rfl, fun ys hy => by rw [I.list_inj hy hq]; exact hx⟩, st', fun b hb => (hf b hb).1⟩⟩
  done := by
    intro X hP hw hK hc i pins s σ H E I hf st hg
    subst hP hw hK
    obtain ⟨xs, hq, hx⟩ := hg
    obtain ⟨its, rv, p, hz⟩ := I.list hq
    obtain ⟨f0, f1, f2, f3, f4, f5⟩ := hf it (by simp)
    have hl := rv.length
    exact wpAny_pyNext_list_end (I.ok.hd hc) st p.isList (by simp; omega) fun h' eb => ⟨rfl, I.turned (t' := s.toks) (fun b o hb e => eb b o hb e) f0 f1 f3 f4 f5⟩
  self := fun _ _ _ _ _ st h => wpAny_pyIter_listiter st h
theorem turn_range {P : Program} {w : World} {K : PySem.W.Frag} {tg : Expr} (it : Addr) (lo : Int) (n : Nat) : Turn P w K tg (Itr lo n) [it] it (fun i h => IsRangeIter h it (lo + (i : Nat) * 1) ((n : Int) - (i : Nat)) 1) where
  mem := by simp
  obj := fun i h st b hb => by
    have e : b = it := by simpa using hb
    subst e
    exact ⟨_, st, fun v z => by
      have z' : Data.fields _ = Data.cell v := z
      cases z'⟩
  keep := fun i h h' st k => k it (by simp) _ st
  item := by
    intro X hP hw hK hc i pins s σ H E I hf st hg
    subst hP hw hK
    obtain ⟨f0, f1, f2, f3, f4, f5⟩ := hf it (by simp)
    have W := Walks.range (prog := X.prog) (w := X.w) (I.ok.hd hc) it lo 1 n
    refine W.item i s _ _ hg st fun v h' tk hv st' kk => ?_
    obtain ⟨t, rfl⟩ := hv
    have I1 : Inv X pins σ H { s with heap := h', toks := tk } := I.turned (fun b o hb e => kk b o (by simpa using hb) e) f0 f1 f3 f4 f5
    refine ⟨_, rfl, go_of (s := { s with heap := h', toks := tk }) (n := "range_iterator") st' rfl rfl (by decide) ⟨.int (lo + i), H, I1, ⟨t, ?_⟩, ⟨rfl, rfl⟩, st', fun b hb => (hf b hb).1⟩⟩
    rw [Int.mul_one]
  done := by
    intro X hP hw hK hc i pins s σ H E I hf st hg
    subst hP hw hK
    obtain ⟨f0, f1, f2, f3, f4, f5⟩ := hf it (by simp)
    exact wpAny_pyNext_range_end (I.ok.hd hc) st (by have : n ≤ i := hg; omega) fun h' eb => ⟨rfl, I.turned (t' := s.toks) (fun b o hb e => eb b o hb e) f0 f1 f3 f4 f5⟩
  self := fun _ _ _ _ _ st h => wpAny_pyIter_rangeiter st h
end L2
namespace L2
open PySem PySem.Spec PyProof.Rows
section
variable {X : Cx} {tg : Expr}
def iList (K : PySem.W.Frag) (tl : TE) : TI := fun σ H R => tl σ H fun x H1 => ∃ a, x = .ref a ∧ (∃ xs, SqL K H1 a xs) ∧ R (Itl K a) H1
theorem pi_list {l : Expr} {tl : TE} (hl : PE X l tl) : PI X tg l (iList X.K tl) := by
  intro pins s σ H R I h
  refine thn (hl pins s σ H _ I h) fun v s1 ⟨x, H1, I1, r1, q1⟩ => ?_
  obtain ⟨a, e, ⟨xs, hq⟩, q⟩ := q1
  subst e
  cases r1
  obtain ⟨its, rv, p, hz⟩ := I1.list hq
  refine wpAny_pyIter_list p.isList ?_
  refine ⟨s1.heap.objs.size, [s1.heap.objs.size], _, _, H1, rfl, I1.kept (t' := s1.toks) fun b o e => Heap.get?_push_of_some _ e, turn_list a _, ⟨_, Heap.get?_push_size _ rfl, rfl, rfl⟩, fun b hb => ?_, q⟩
  have e : b = s1.heap.objs.size := by simpa using hb
  subst e
  exact I1.fpOk (Nat.le_refl _) (I1.hok.fresh (Nat.le_refl _))
theorem range_it {pins : List (Addr × Obj)} {σ : St} {H : Hp} {s : Shared} {R : It → Hp → Prop} {E : Value → Shared → Prop} {lo hi : Int} {t u v : Tok} {tk : Nat} (I : Inv X pins σ H s) (h1 : -(2 ^ 62) ≤ lo) (h2 : lo < 2 ^ 62) (h3 : -(2 ^ 62) ≤ hi) (h4 : hi < 2 ^ 62)
    (q : R (Itr lo (hi - lo).toNat) H) : wpAny (model X.prog X.w) X.A (pyIter (.ref s.heap.objs.size)) (PIE X pins σ tg R) E { s with heap := s.heap.push { cls := .type "range", data := .fields #[.int lo t, .int hi u, .int 1 v] }, toks := tk } := by
  refine wpAny_pyIter_range (IsRange.new ..) (small_one h1 h2 h3 h4) ?_
  have I1 : Inv X pins σ H { s with heap := s.heap.push { cls := .type "range", data := .fields #[.int lo t, .int hi u, .int 1 v] }, toks := tk } := I.kept fun b o e => Heap.get?_push_of_some _ e
  refine ⟨(s.heap.push { cls := .type "range", data := .fields #[.int lo t, .int hi u, .int 1 v] }).objs.size, [(s.heap.push { cls := .type "range", data := .fields #[.int lo t, .int hi u, .int 1 v] }).objs.size], _, _, H, rfl,
    I1.kept (t' := tk) fun b o e => Heap.get?_push_of_some _ e, turn_range _ lo (hi - lo).toNat, ?_, fun b hb => ?_, q⟩
  · have e1 : lo + ((0 : Nat) : Int) * 1 = lo := by simp
    have e2 : (((hi - lo).toNat : Nat) : Int) - ((0 : Nat) : Int) = Builtin.Range.rangeSize lo hi 1 := by rw [rangeSize_one]; split <;> omega
    show IsRangeIter _ _ (lo + ((0 : Nat) : Int) * 1) ((((hi - lo).toNat : Nat) : Int) - ((0 : Nat) : Int)) 1
    rw [e1, e2]
    exact Heap.get?_push_size _ rfl
  · have e : b = (s.heap.push { cls := .type "range", data := .fields #[.int lo t, .int hi u, .int 1 v] }).objs.size := by simpa using hb
    subst e
    exact I1.fpOk (Nat.le_refl _) (I1.hok.fresh (Nat.le_refl _))
def iRng1 (ta : TA) : TI := fun σ H R => ta σ H fun vs H1 => ∃ j : Int, vs = [.int j] ∧ -(2 ^ 62) ≤ j ∧ j < 2 ^ 62 ∧ R (Itr 0 j.toNat) H1
theorem pi_range1 {a : Expr} {ta : TA} {p pos : Pos} (hg : Gl X "range") (hm : X.mg "range" = none) (ha : PA X [a] ta) (hs : starEach [a] X.env = [(false, eval a X.env)] := by rfl) : PI X tg (.Call (.Name "range" p) [a] [] pos) (iRng1 ta) := by
  intro pins s σ H R I h
  refine Call_ (ld_blt I hg hm boot_range (PyProof.Rows.callWith_type1 (thn (ha pos pins s σ H _ I h) fun us s1 ⟨vs, H1, I1, r1, q1⟩ => ?_) hs rfl))
  obtain ⟨j, e, q1, q2, q⟩ := q1
  subst e
  cases r1 with
  | cons r rr =>
    cases rr
    obtain ⟨t, rfl⟩ := r
    exact call_range_1 (range_it I1 (by omega) (by omega) q1 q2 (by simpa using q))
def tFor (wi : TI) (g : TG) (tb : TS) : TS := fun D σ H => wi σ H fun J H1 => ∃ W : Nat → Nat → St → Hp → Prop, (∃ m, W 0 m σ H1) ∧ ∀ i m σ H, W i m σ H →
  (J.stop i H ∧ D.nx σ H) ∨ (J.go i H ∧ ∃ N : St → Hp → Prop, (∀ σ' H', N σ' H' → ∃ m', m' < m ∧ W (i + 1) m' σ' H') ∧ ∀ x H', J.yld i H x H' → g x σ H' fun σ2 H2 => tb { D with nx := N, ct := N, bk := D.nx } σ2 H2)
def pinsAt (fp : List Addr) (h : Heap) : List (Addr × Obj) := fp.filterMap fun b => (h.get? b).map fun o => (b, o)
theorem mem_pinsAt {fp : List Addr} {h : Heap} {b : Addr} {o : Obj} (hb : b ∈ fp) (e : h.get? b = some o) : (b, o) ∈ pinsAt fp h := List.mem_filterMap.mpr ⟨b, hb, by rw [e]; rfl⟩
theorem of_pinsAt {fp : List Addr} {h : Heap} {p : Addr × Obj} (hp : p ∈ pinsAt fp h) : p.1 ∈ fp ∧ h.get? p.1 = some p.2 := by
  obtain ⟨b, hb, e⟩ := List.mem_filterMap.mp hp
  cases q : h.get? b with
  | none => rw [q] at e; cases e
  | some o =>
    rw [q] at e
    have e' : (b, o) = p := Option.some.inj e
    subst e'
    exact ⟨hb, q⟩
theorem Inv.pinned {pins : List (Addr × Obj)} {σ : St} {H : Hp} {s : Shared} {fp : List Addr} (I : Inv X pins σ H s) (hf : ∀ b ∈ fp, FpOk X pins H b) (ho : ∀ b ∈ fp, ∃ o, s.heap.get? b = some o ∧ ∀ v, o.data ≠ .cell v) : Inv X (pins ++ pinsAt fp s.heap) σ H s :=
  I.pins_of fun p hp => (List.mem_append.mp hp).elim (fun z => I.pin p (List.mem_append_right _ z)) fun z => by
    obtain ⟨hb, e⟩ := of_pinsAt z
    obtain ⟨f0, f1, f2, _⟩ := hf p.1 hb
    obtain ⟨o, e', d⟩ := ho p.1 hb
    rw [e] at e'; cases e'
    exact ⟨e, f0, f1, f2, d⟩
theorem Inv.unpinned {pins pl : List (Addr × Obj)} {σ : St} {H : Hp} {s : Shared} (I : Inv X (pins ++ pl) σ H s) : Inv X pins σ H s := I.pins_of fun p hp => I.pin p (List.mem_append_right _ (List.mem_append_left _ hp))
theorem ps_for {iter : Expr} {body : List Stmt} {wi : TI} {g : TG} {tb : TS} {pos : Pos} (hp : PassesOwn (model X.prog X.w) X.A X.env X.xe) (hc : X.calm = true) (hi : PI X tg iter wi) (hg : PG X tg g) (hb : PSs X body tb)
    (hs : ∀ x, foldedSetIterable iter X.env x = pure x := by intro _; rfl) : PS X (.For tg iter body [] pos) (tFor wi g tb) := by
  intro pins s σ H D I h
  refine wpAny_For (thn (hi pins s σ H _ I h) fun v s1 h1 => thn h1 fun itv s2 h2 => ?_) hs
  obtain ⟨it, fp, tn, J, H2, e, I2, T, st2, f2, W, ⟨m0, w0⟩, turn⟩ := h2
  subst e
  have stat : ∀ {H' : Hp}, (∀ b ∈ fp, H' b = none) → ∀ b ∈ fp, FpOk X pins H' b := fun hn b hb => ⟨hn b hb, (f2 b hb).2⟩
  refine codeAny_forLoop_any (fun n s' => ∃ i σ' H', Inv X pins σ' H' s' ∧ tn i s'.heap ∧ (∀ b ∈ fp, H' b = none) ∧ W i n σ' H') ?_ m0 ⟨0, σ, H2, I2, st2, fun b hb => (f2 b hb).1, w0⟩
  rintro n s3 ⟨i, σ3, H3, I3, st3, fr3, w3⟩
  rcases turn i n σ3 H3 w3 with ⟨stop, qn⟩ | ⟨go, N, hN, step⟩
  · refine wpAny_passesOwn hp (thn (T.done X rfl rfl rfl hc i pins s3 σ3 H3 X.xe I3 (stat fr3) st3 stop) fun r s4 ⟨hr, I4⟩ => ?_)
    subst hr
    exact wpAny_execs_nil ⟨σ3, H3, I4, qn⟩
  · refine wpAny_passesOwn hp (thn (T.item X rfl rfl rfl hc i pins s3 σ3 H3 X.xe I3 (stat fr3) st3 go) fun r s4 ⟨u, hr, h4⟩ => ?_)
    subst hr
    refine wpAny_passesOwn hp (thn h4 fun _ s5 ⟨x, H5, I5, r5, y5, st5, fr5⟩ => ?_)
    have I5' := I5.pinned (stat fr5) (T.obj _ _ st5)
    refine wpAny_passesOwn hp (thn (hg _ s5 σ3 H5 x u _ I5' r5 (step x H5 y5)) fun _ s6 ⟨σ6, H6, I6, q6⟩ => ?_)
    refine wpAny_passesOwn hp (thn (hb _ s6 σ6 H6 _ I6 q6) fun f s7 q7 => ?_)
    have again : ∀ {σ7 : St} {H7 : Hp}, Inv X (pins ++ pinsAt fp s5.heap) σ7 H7 s7 → N σ7 H7 → ∃ m, m < n ∧ ∃ i σ' H', Inv X pins σ' H' s7 ∧ tn i s7.heap ∧ (∀ b ∈ fp, H' b = none) ∧ W i m σ' H' := fun {σ7 H7} I7 n7 => by
      obtain ⟨m', hm, w7⟩ := hN σ7 H7 n7
      refine ⟨m', hm, i + 1, σ7, H7, I7.unpinned, T.keep _ _ _ st5 fun b hb o e => (I7.pin (b, o) (List.mem_append_right _ (List.mem_append_right _ (mem_pinsAt hb e)))).1, fun b hb => ?_, w7⟩
      obtain ⟨o, e, d⟩ := T.obj _ _ st5 b hb
      exact (I7.pin (b, o) (List.mem_append_right _ (List.mem_append_right _ (mem_pinsAt hb e)))).2.1
    cases f with
    | next => obtain ⟨σ7, H7, I7, n7⟩ := q7; exact again I7 n7
    | cont => obtain ⟨σ7, H7, I7, n7⟩ := q7; exact again I7 n7
    | brk => obtain ⟨σ7, H7, I7, q7⟩ := q7; exact ⟨σ7, H7, I7.unpinned, q7⟩
    | ret v => obtain ⟨x7, σ7, H7, I7, r7, q7⟩ := q7; exact ⟨x7, σ7, H7, I7.unpinned, r7, q7⟩
end
end L2
namespace L2
open PySem PySem.Spec PyProof.Rows
abbrev R2 := V → V → Hp → VK → Prop
def OpR (X : Cx) (f : Value → Value → Sem Value) (r : R2) : Prop :=
  ∀ (pins : List (Addr × Obj)) (s : Shared) (σ : St) (H : Hp) (x y : V) (v u : Value) (Q : VK), Inv X pins σ H s → RelV x v → RelV y u → r x y H Q →
    wpAny (model X.prog X.w) X.A (f v u) (EP X pins σ Q) X.xe s
def UnR (X : Cx) (f : Value → Sem Value) (r : V → Hp → VK → Prop) : Prop :=
  ∀ (pins : List (Addr × Obj)) (s : Shared) (σ : St) (H : Hp) (x : V) (v : Value) (Q : VK), Inv X pins σ H s → RelV x v → r x H Q →
    wpAny (model X.prog X.w) X.A (f v) (EP X pins σ Q) X.xe s
def CallR (X : Cx) (f : Value) (r : List V → Hp → VK → Prop) : Prop :=
  ∀ (pins : List (Addr × Obj)) (s : Shared) (σ : St) (H : Hp) (xs : List V) (us : List Value) (Q : VK), Inv X pins σ H s → Vals xs us → r xs H Q →
    wpAny (model X.prog X.w) X.A (call f us) (EP X pins σ Q) X.xe s
def tOp (r : R2) (ta tb : TE) : TE := fun σ H Q => ta σ H fun x H1 => tb σ H1 fun y H2 => r x y H2 Q
def tUn (r : V → Hp → VK → Prop) (ta : TE) : TE := fun σ H Q => ta σ H fun x H1 => r x H1 Q
def rI (C : Int → Int → Prop) (g : Int → Int → V) : R2 := fun x y H Q => ∃ i j, x = .int i ∧ y = .int j ∧ C i j ∧ Q (g i j) H
def rI0 (g : Int → Int → V) : R2 := fun x y H Q => ∃ i j, x = .int i ∧ y = .int j ∧ Q (g i j) H
def rU (g : Int → V) : V → Hp → VK → Prop := fun x H Q => ∃ i, x = .int i ∧ Q (g i) H
section
variable {X : Cx} {a b c : Expr} {ta tb tc : TE} {pos : Pos}
theorem binT (ha : PE X a ta) (hb : PE X b tb) {pins : List (Addr × Obj)} {s : Shared} {σ : St} {H : Hp} {R : V → V → Hp → Prop} (I : Inv X pins σ H s)
    (h : ta σ H fun x H1 => tb σ H1 fun y H2 => R x y H2) {Q : Value → Shared → Prop} {f : Value → Value → Sem Value}
    (hf : ∀ v u s2 x y H2, Inv X pins σ H2 s2 → RelV x v → RelV y u → R x y H2 → wpAny (model X.prog X.w) X.A (f v u) Q X.xe s2) :
    wpAny (model X.prog X.w) X.A (eval a X.env) (fun v s₁ => wpAny (model X.prog X.w) X.A (eval b X.env) (fun u s₂ => wpAny (model X.prog X.w) X.A (f v u) Q X.xe s₂) X.xe s₁) X.xe s := by
  refine thn (ha pins s σ H _ I h) fun v s1 ⟨x, H1, I1, r1, q1⟩ => ?_
  refine thn (hb pins s1 σ H1 _ I1 q1) fun u s2 ⟨y, H2, I2, r2, q2⟩ => ?_
  exact hf v u s2 x y H2 I2 r1 r2 q2
theorem pe_op {op : Operator} {r : R2} (ho : OpR X (binaryOp op) r) (ha : PE X a ta) (hb : PE X b tb) : PE X (.BinOp a op b pos) (tOp r ta tb) := by
  intro pins s σ H Q I h
  exact wpAny_BinOp (binT ha hb I h fun v u s2 x y H2 I2 rx ry q => ho pins s2 σ H2 x y v u Q I2 rx ry q)
theorem pe_un {op : UnaryOp} {r : V → Hp → VK → Prop} (ho : UnR X (unaryOp op) r) (ha : PE X a ta) : PE X (.UnaryOp op a pos) (tUn r ta) := by
  intro pins s σ H Q I h
  exact UnaryOp_ (thn (ha pins s σ H _ I h) fun v s1 ⟨x, H1, I1, r1, q1⟩ => ho pins s1 σ H1 x v Q I1 r1 q1)
theorem opI {f : Value → Value → Sem Value} {C : Int → Int → Prop} {g : Int → Int → Int}
    (rule : ∀ (i j : Int) (t u : Tok) (s : Shared) (Q : Value → Shared → Prop) (E : Value → Shared → Prop), C i j → Q (.int (g i j) s.toks) { s with toks := s.toks + 1 } → wpAny (model X.prog X.w) X.A (f (.int i t) (.int j u)) Q E s) :
    OpR X f (rI C fun i j => .int (g i j)) := by
  intro pins s σ H x y v u Q I rx ry h
  obtain ⟨i, j, rfl, rfl, hc, q⟩ := h
  obtain ⟨t, rfl⟩ := rx
  obtain ⟨t', rfl⟩ := ry
  exact rule i j t t' s _ _ hc ⟨.int (g i j), H, I.tok _, ⟨_, rfl⟩, q⟩
theorem opI0 {f : Value → Value → Sem Value} {g : Int → Int → Int}
    (rule : ∀ (i j : Int) (t u : Tok) (s : Shared) (Q : Value → Shared → Prop) (E : Value → Shared → Prop), Q (.int (g i j) s.toks) { s with toks := s.toks + 1 } → wpAny (model X.prog X.w) X.A (f (.int i t) (.int j u)) Q E s) :
    OpR X f (rI0 fun i j => .int (g i j)) := by
  intro pins s σ H x y v u Q I rx ry h
  obtain ⟨i, j, rfl, rfl, q⟩ := h
  obtain ⟨t, rfl⟩ := rx
  obtain ⟨t', rfl⟩ := ry
  exact rule i j t t' s _ _ ⟨.int (g i j), H, I.tok _, ⟨_, rfl⟩, q⟩
theorem opB0 {f : Value → Value → Sem Value} {g : Int → Int → Bool}
    (rule : ∀ (i j : Int) (t u : Tok) (s : Shared) (Q : Value → Shared → Prop) (E : Value → Shared → Prop), Q (.bool (g i j)) s → wpAny (model X.prog X.w) X.A (f (.int i t) (.int j u)) Q E s) :
    OpR X f (rI0 fun i j => .bl (g i j)) := by
  intro pins s σ H x y v u Q I rx ry h
  obtain ⟨i, j, rfl, rfl, q⟩ := h
  obtain ⟨t, rfl⟩ := rx
  obtain ⟨t', rfl⟩ := ry
  exact rule i j t t' s _ _ ⟨.bl (g i j), H, I, rfl, q⟩
def CDiv (i j : Int) : Prop := 0 < j ∧ j < 1073741824
def CPow (i j : Int) : Prop := 0 ≤ j ∧ j ≤ 1000000 ∧ i.natAbs < 2 ^ 64
def CMul (i j : Int) : Prop := (-(2 ^ 64) < i ∧ i < 2 ^ 64) ∨ (-(2 ^ 64) < j ∧ j < 2 ^ 64)
theorem CMul.ok {i j : Int} (h : CMul i j) : IntMulOk i j := by
  rcases h with ⟨h1, h2⟩ | ⟨h1, h2⟩
  · exact .of_left (intBits_le_64 h1 h2)
  · exact .of_right (intBits_le_64 h1 h2)
theorem two_pow_nn (k : Nat) : (0 : Int) ≤ 2 ^ k := by
  rw [two_pow_cast]
  exact Int.natCast_nonneg _
theorem op_add : OpR X (binaryOp .Add) (rI0 fun i j => .int (i + j)) := opI0 fun _ _ _ _ _ _ _ q => add_int q
theorem op_sub : OpR X (binaryOp .Sub) (rI0 fun i j => .int (i - j)) := opI0 fun _ _ _ _ _ _ _ q => sub_int q
theorem op_fdiv : OpR X (binaryOp .FloorDiv) (rI CDiv fun i j => .int (i / j)) := opI fun i j _ _ _ _ _ hc q => by
  have h1 : (0 : Int) < j := hc.1
  have h2 : j < 1073741824 := hc.2
  exact floordiv_int (by omega) (by rw [Int.fdiv_eq_ediv_of_nonneg i (by omega)]; exact q) (.inl (PyProof.noPylong_small (by omega)))
theorem op_mod : OpR X (binaryOp .Mod) (rI (fun _ j => 0 < j) fun i j => .int (i % j)) := opI fun i j _ _ _ _ _ hc q => by
  have h1 : (0 : Int) < j := hc
  exact mod_int' (by omega) (by rw [Int.fmod_eq_emod_of_nonneg i (by omega)]; exact q)
theorem op_pow : OpR X (binaryOp .Pow) (rI CPow fun i j => .int (i ^ j.toNat)) := opI fun _ _ _ _ _ _ _ hc q => pow_int_small hc.1 hc.2.1 hc.2.2 q
theorem op_shr : OpR X (binaryOp .RShift) (rI (fun _ j => 0 ≤ j) fun i j => .int (i / 2 ^ j.toNat)) := opI fun i j _ _ _ _ _ hc q =>
  rshift_int hc (by rw [Int.fdiv_eq_ediv_of_nonneg i (two_pow_nn _)]; exact q)
theorem unI {f : Value → Sem Value} {g : Int → Int}
    (rule : ∀ (i : Int) (t : Tok) (s : Shared) (Q : Value → Shared → Prop) (E : Value → Shared → Prop), Q (.int (g i) s.toks) { s with toks := s.toks + 1 } → wpAny (model X.prog X.w) X.A (f (.int i t)) Q E s) :
    UnR X f (rU fun i => .int (g i)) := by
  intro pins s σ H x v Q I rx h
  obtain ⟨i, rfl, q⟩ := h
  obtain ⟨t, rfl⟩ := rx
  exact rule i t s _ _ ⟨.int (g i), H, I.tok _, ⟨_, rfl⟩, q⟩
theorem un_neg : UnR X (unaryOp .USub) (rU fun i => .int (-i)) := unI fun _ _ _ _ _ q => neg_int q
end
section
variable {X : Cx} {a b c : Expr} {ta tb tc : TE} {pos : Pos}
theorem fin_bl {pins : List (Addr × Obj)} {σ : St} {H : Hp} {s : Shared} {Q : VK} {k k' : Bool} (I : Inv X pins σ H s) (q : Q (.bl k) H) (e : k = k') : EP X pins σ Q (.bool k') s := by
  subst e
  exact ⟨.bl k, H, I, rfl, q⟩
theorem op_lt : OpR X (compareOp .Lt) (rI0 fun i j => .bl (decide (i < j))) := opB0 fun _ _ _ _ _ _ _ q => lt_int q
theorem op_le : OpR X (compareOp .LtE) (rI0 fun i j => .bl (decide (i ≤ j))) := opB0 fun _ _ _ _ _ _ _ q => le_int q
theorem op_gt : OpR X (compareOp .Gt) (rI0 fun i j => .bl (decide (j < i))) := opB0 fun _ _ _ _ _ _ _ q => gt_int q
theorem op_notN : OpR X (compareOp .IsNot) (fun x y H Q => y = .non ∧ Q (.bl (!decide (x = .non))) H) := by
  intro pins s σ H x y v u Q I rx ry h
  obtain ⟨rfl, q⟩ := h
  cases ry
  refine isnot_none_gen (fin_bl I q ?_)
  cases x <;> first
    | (cases rx; rfl)
    | (obtain ⟨t, rfl⟩ := rx; rfl)
theorem OpR.or {f : Value → Value → Sem Value} {r r' : R2} (h : OpR X f r) (h' : OpR X f r') : OpR X f (fun x y H Q => r x y H Q ∨ r' x y H Q) := by
  intro pins s σ H x y v u Q I rx ry q
  rcases q with q | q
  · exact h pins s σ H x y v u Q I rx ry q
  · exact h' pins s σ H x y v u Q I rx ry q
theorem nomark (b : Expr) {op : CmpOp} (h : op ≠ .In := by decide) (h2 : op ≠ .NotIn := by decide) : behindInMarks op b = false := by
  have e1 : (op == CmpOp.In) = false := by cases op <;> first | rfl | exact absurd rfl h
  have e2 : (op == CmpOp.NotIn) = false := by cases op <;> first | rfl | exact absurd rfl h2
  cases b <;> simp [behindInMarks, e1, e2]
theorem pe_cmpR {op : CmpOp} {r : R2} (ho : OpR X (compareOp op) r) (ha : PE X a ta) (hb : PE X b tb) (hm : behindInMarks op b = false) : PE X (.Compare a [op] [b] pos) (tOp r ta tb) := by
  intro pins s σ H Q I h
  exact wpAny_Compare1 (binT ha hb I h fun v u s2 x y H2 I2 rx ry q => ho pins s2 σ H2 x y v u Q I2 rx ry q) hm
def tTest (t : TE) : TT := fun σ H Q => t σ H fun x H' => ∃ k, x = .bl k ∧ Q k H'
theorem pt_cmpR {op : CmpOp} {r : R2} (ho : OpR X (compareOp op) r) (ha : PE X a ta) (hb : PE X b tb) (hm : behindInMarks op b = false) : PT X (.Compare a [op] [b] pos) (tTest (tOp r ta tb)) := by
  intro pins s σ H Q I h
  refine wpAny_isTrue_Compare1 (thn (ha pins s σ H _ I h) fun v s1 ⟨x, H1, I1, r1, q1⟩ => thn (hb pins s1 σ H1 _ I1 q1) fun u s2 ⟨y, H2, I2, r2, q2⟩ =>
    thn (ho pins s2 σ H2 x y v u _ I2 r1 r2 q2) fun c s3 ⟨z, H3, I3, r3, k, e, q3⟩ => ?_) hm
  subst e
  cases r3
  exact wpAny_truthy_bool ⟨H3, I3, q3⟩
theorem line63 : (sizeLine : Nat) < 2 ^ 63 := by rw [sizeLine_eq]; decide
theorem op_add_str : OpR X (binaryOp .Add) (fun x y H Q => ∃ i j, x = .str i ∧ y = .str j ∧ i.length + j.length ≤ sizeLine ∧ Q (.str (i ++ j)) H) := by
  intro pins s σ H x y v u Q I rx ry h
  obtain ⟨i, j, rfl, rfl, hz, q⟩ := h
  obtain ⟨t, rfl⟩ := rx
  obtain ⟨t', rfl⟩ := ry
  exact add_str (fun t' tk => ⟨.str (i ++ j), H, I.tok _, ⟨_, rfl⟩, q⟩) hz
theorem vals1 {x : V} {us : List Value} (r : Vals [x] us) : ∃ u, us = [u] ∧ RelV x u := by
  cases r with
  | cons r1 r2 => cases r2; exact ⟨_, rfl, r1⟩
theorem vals2 {x y : V} {us : List Value} (r : Vals [x, y] us) : ∃ u w', us = [u, w'] ∧ RelV x u ∧ RelV y w' := by
  cases r with
  | cons r1 r2 =>
    cases r2 with
    | cons r3 r4 => cases r4; exact ⟨_, _, rfl, r1, r3⟩
theorem call_abs : CallR X (.builtin "abs") (fun xs H Q => ∃ i, xs = [.int i] ∧ Q (.int (if i < 0 then -i else i)) H) := by
  intro pins s σ H xs us Q I r h
  obtain ⟨i, rfl, q⟩ := h
  obtain ⟨u, rfl, t, rfl⟩ := vals1 r
  exact call_abs_int fun u tk => ⟨.int (if i < 0 then -i else i), H, I.tok _, ⟨_, rfl⟩, q⟩
end
end L2
namespace L2
open PySem PySem.Spec PyProof.Rows
structure ObjM (h : Heap) (x dx C : Addr) (mA : Str → Option Value) : Prop where
  obj : h.get? x = some (PySem.W.instObj C dx)
  ns : h.Ns1 dx mA
  ne : dx ≠ x
theorem lookIn_ns {h : Heap} {dx : Addr} {mA : Str → Option Value} (n : h.Ns1 dx mA) : ∃ od, h.get? dx = some od ∧ ∀ name, PySem.W.lookIn name od = some (mA name) := by
  obtain ⟨o, es, ep, ho, hd, hk, _, hm⟩ := n
  refine ⟨o, ho, fun name => ?_⟩
  have e := hm name
  unfold nsFind findBy at e
  rw [← Array.find?_toList] at e
  unfold PySem.W.lookIn
  rw [hd]
  dsimp only
  split
  · rename_i y q
    rw [q] at e
    exact congrArg some e
  · rename_i q
    rw [q] at e
    have a : es.toList.any (·.refKey) = false := by
      rw [List.any_eq_false]
      intro y hy
      obtain ⟨z, t, hkey⟩ := hk y (Array.mem_toList_iff.mp hy)
      simp [DictEntry.refKey, hkey]
    have a' : ¬ es.toList.any (·.refKey) = true := by rw [a]; exact Bool.false_ne_true
    rw [if_neg a']
    exact congrArg some e
theorem ObjM.look {h : Heap} {x dx C : Addr} {mA : Str → Option Value} (I : ObjM h x dx C mA) : ∃ od, PySem.W.InstAt h x (PySem.W.instObj C dx) C (some od) ∧ ∀ name, PySem.W.lookIn name od = some (mA name) :=
  let ⟨od, ho, hl⟩ := lookIn_ns I.ns
  ⟨od, ⟨I.obj, rfl, rfl, ho⟩, hl⟩
section
variable {prog : Program} {w : World} {A : Around} {E : Value → Shared → Prop} {s : Shared} {K : PySem.W.Frag} {x dx C f : Addr} {mA : Str → Option Value} {name : Str} {v : Value}
end
theorem RelO.none_of {o : Option Value} (r : RelO none o) : o = none := by
  cases o with
  | none => rfl
  | some u => exact (show False from r).elim
section
variable {P : Program} {w : World} {H H' : Hp} {h h' : Heap} {a C dx : Addr} {fs fs' : List (Str × V)}
theorem ins_get (hok : HOk P w H h) (e : H a = some (.ins C dx fs)) : ∃ mA, ObjM h a dx C mA ∧ (∀ f, RelO (fs.lookup f) (mA f)) ∧ PySem.Within mA (fs.map (·.1)) ∧ fs.length ≤ 1000 ∧ H dx = some (.own a) := by
  obtain ⟨d, z, ne, ob, mA, n, r, q⟩ := (show ObjOk P w H h a (.ins C dx fs) from hok a _ e)
  exact ⟨mA, ⟨ob, n, ne⟩, r, q, z, d⟩
end
structure Cls (K : PySem.W.Frag) (C : Addr) : Prop where
  pg : PySem.W.plainGet K C Str.empty = true
  hd : PySem.W.hasDictIn K C = true
  po : PySem.W.plainOver K C = true
  sa : PySem.W.findIn K (.ref C) "__setattr__" = some (some (.builtin "object.__setattr__"))
theorem Cls.get {K : PySem.W.Frag} {C : Addr} (c : Cls K C) (f : Str) : PySem.W.plainGet K C f = true := c.pg
structure Con (K : PySem.W.Frag) (C : Addr) (f : Str) (v : V) (u : Value) : Prop where
  at_ : PySem.W.findIn K (.ref C) f = some (some u)
  rel : RelV v u
  get : PySem.W.specialIn K u "__get__" = some none
  cp : PySem.W.copiedNames.contains f = false
structure Meth (K : PySem.W.Frag) (C : Addr) (m : Str) (f : Addr) : Prop where
  at_ : PySem.W.findIn K (.ref C) m = some (some (.ref f))
  fn : PySem.W.isFn K (.ref f) = true
  kp : PySem.W.keepIn K (.ref f) = true
section
variable {X : Cx} {pins : List (Addr × Obj)} {σ : St} {H : Hp} {s : Shared} {a C dx : Addr} {fs : List (Str × V)} {f : Str} {v : V} {A : Around} {E : Value → Shared → Prop}
end
section
variable {X : Cx} {o e value : Expr} {f : Str} {pos pos' tpos : Pos} {ta tv : TE}
end
section
variable {X : Cx} {pins : List (Addr × Obj)} {σ : St} {H : Hp} {s : Shared} {A : Around} {E : Value → Shared → Prop} {Q : Value → Shared → Prop} {c : Value} {b : Bool}
inductive TyOf (K : PySem.W.Frag) (H : Hp) : V → Value → Prop where
  | non : TyOf K H .non (.type "NoneType")
  | bl (x : Bool) : TyOf K H (.bl x) (.type "bool")
  | int (i : Int) : TyOf K H (.int i) (.type "int")
  | str (x : Str) : TyOf K H (.str x) (.type "str")
  | flt (x : UInt64) : TyOf K H (.flt x) (.type "float")
  | lst {a : Addr} {xs : List V} (e : H a = some (.lst xs)) : TyOf K H (.ref a) (.type "list")
  | frz {a : Addr} {o : Obj} {xs : List V} (e : H a = some (.frz o (.lst xs))) : TyOf K H (.ref a) (.type "list")
  | tup {a : Addr} {xs : List V} (e : H a = some (.tup xs)) : TyOf K H (.ref a) (.type "tuple")
  | dK {a : Addr} {kvs : List (Key × V)} (e : H a = some (.dK kvs)) : TyOf K H (.ref a) (.type "dict")
  | dT {a : Addr} {kvs : List (List Key × V)} (e : H a = some (.dT kvs)) : TyOf K H (.ref a) (.type "dict")
  | ins {a C dx : Addr} {fs : List (Str × V)} (e : H a = some (.ins C dx fs)) (cl : Cls K C) (ha : PySem.W.findIn K (.ref C) "__class__" = some (some (.builtin "object.__class__")))
      (hn : PySem.W.specialIn K (.builtin "object.__class__") "__get__" = some (some (.builtin "getset_descriptor.__get__"))) (htk : PySem.W.takesIn K (.builtin "object.__class__") = some true)
      (hm : PySem.W.mroIn K C (.type "object") = some true) : TyOf K H (.ref a) (.ref C)
theorem isinst_ok {x : V} {u t : Value} (I : Inv X pins σ H s) (rx : RelV x u) (ty : TyOf X.K H x t) (e : PySem.W.kitOne X.K t c = some b) (h : ∀ tk, Q (.bool b) { s with toks := tk }) :
    wpAny (model X.prog X.w) A (call (.builtin "isinstance") [u, c]) Q E s := by
  cases ty with
  | non => cases (show u = Value.none from rx); exact PySem.W.kia_one PySem.W.kitx_none I.kIn True.intro e (fun z => nomatch z) h
  | bl y => cases (show u = Value.bool y from rx); exact PySem.W.kia_one PySem.W.kitx_bool I.kIn True.intro e (fun z => nomatch z) h
  | int i => obtain ⟨t, q⟩ := (show ∃ t, u = Value.int i t from rx); cases q; exact PySem.W.kia_one PySem.W.kitx_int I.kIn True.intro e (fun z => nomatch z) h
  | str y => obtain ⟨t, q⟩ := (show ∃ t, u = Value.str y t from rx); cases q; exact PySem.W.kia_one PySem.W.kitx_str I.kIn True.intro e (fun z => nomatch z) h
  | flt y => obtain ⟨t, q⟩ := (show ∃ t, u = Value.float y t from rx); cases q; exact PySem.W.kia_one PySem.W.kitx_float I.kIn True.intro e (fun z => nomatch z) h
  | @lst a xs ea =>
    cases (show u = Value.ref a from rx)
    obtain ⟨_, _, n, _, h1⟩ := (show ObjOk X.prog X.w H s.heap a (.lst xs) from I.hok a _ ea)
    exact PySem.W.kia_one PySem.W.kitx_list I.kIn ⟨_, h1, rfl⟩ e (fun z => nomatch z) h
  | @frz a ob xs ea =>
    cases (show u = Value.ref a from rx)
    obtain ⟨_, _, _, n, _, h1⟩ := (show ObjOk X.prog X.w H s.heap a (.frz ob (.lst xs)) from I.hok a _ ea)
    exact PySem.W.kia_one PySem.W.kitx_list I.kIn ⟨_, h1, rfl⟩ e (fun z => nomatch z) h
  | @tup a xs ea =>
    cases (show u = Value.ref a from rx)
    obtain ⟨_, _, _, p⟩ := (show ObjOk X.prog X.w H s.heap a (.tup xs) from I.hok a _ ea)
    obtain ⟨o, h1, h2, _⟩ := p
    exact PySem.W.kia_one PySem.W.kitx_tuple I.kIn ⟨o, h1, h2⟩ e (fun z => nomatch z) h
  | @dK a kvs ea =>
    cases (show u = Value.ref a from rx)
    obtain ⟨_, _, vs, _, p⟩ := (show ObjOk X.prog X.w H s.heap a (.dK kvs) from I.hok a _ ea)
    obtain ⟨o, es, ep, h1, h2, _⟩ := p
    exact PySem.W.kia_one PySem.W.kitx_dict I.kIn ⟨o, h1, h2.1⟩ e (fun z => nomatch z) h
  | @dT a kvs ea =>
    cases (show u = Value.ref a from rx)
    obtain ⟨_, _, xs, _, o, es, ep, h1, h2, _⟩ := (show ObjOk X.prog X.w H s.heap a (.dT kvs) from I.hok a _ ea)
    exact PySem.W.kia_one PySem.W.kitx_dict I.kIn ⟨o, h1, h2.1⟩ e (fun z => nomatch z) h
  | @ins a C dx fs ea cl ha hn htk hm =>
    cases (show u = Value.ref a from rx)
    obtain ⟨mA, O, _⟩ := ins_get I.hok ea
    obtain ⟨od, J, _⟩ := O.look
    exact PySem.W.kia_one (PySem.W.kitx_own (cl.get _) cl.hd ha hn htk hm) I.kIn J e (fun z => nomatch z) h
end
end L2
namespace L2
open PySem PySem.Spec PyProof.Rows
structure Room (k : Nat) (A : Around) : Prop where
  hd : A.handled = none
  dp : A.depth + 3 * k + 5 < recursionLimit
  un : A.units + 16 * k + 200 < cLine
theorem Room.mono {j k : Nat} {A : Around} (r : Room k A) (h : j ≤ k) : Room j A := ⟨r.hd, by have := r.dp; omega, by have := r.un; omega⟩
theorem Room.deeper {k : Nat} {A : Around} (r : Room (k + 1) A) (env : Env) : Room k (A.deeper env) :=
  ⟨r.hd, by have := r.dp; show A.depth + 1 + 3 * k + 5 < _; omega, by have := r.un; show A.units + 3 + 16 * k + 200 < _; omega⟩
theorem Room.in1 {k : Nat} {A : Around} (r : Room (k + 1) A) : Room k A.in1 :=
  ⟨r.hd, by have := r.dp; show A.depth + 3 * k + 5 < _; omega, by have := r.un; show A.units + 1 + 16 * k + 200 < _; omega⟩
theorem make_depth {A : Around} {C : Addr} {us : List Value} {kw : List (Str × Value)} : (A.under (.builtin "type.__call__" ⟨.ref C :: us, kw⟩)).depth = A.depth + 1 := by
  first | rfl | simp [Around.under, Code.weight, Code.isCreation, Code.isGuard, Code.isCaller, Code.frames, Code.isFrame, guardIds]
theorem make_units {A : Around} {C : Addr} {us : List Value} {kw : List (Str × Value)} : (A.under (.builtin "type.__call__" ⟨.ref C :: us, kw⟩)).units = A.units + 1 := by
  first | rfl | simp [Around.under, Code.cUnits, Code.frames, Code.isFrame]
theorem Room.make {k : Nat} {A : Around} (r : Room (k + 1) A) (C : Addr) (us : List Value) (kw : List (Str × Value)) : Room k (A.under (.builtin "type.__call__" ⟨.ref C :: us, kw⟩)) :=
  ⟨r.hd, by have := r.dp; rw [make_depth]; omega, by have := r.un; rw [make_units]; omega⟩
theorem Room.depth {k : Nat} {A : Around} (r : Room k A) : A.depth < recursionLimit := by have := r.dp; omega
theorem Room.units {k : Nat} {A : Around} (r : Room k A) : A.units + 64 < cLine := by have := r.un; omega
def tNil : TA := fun _ H Q => Q [] H
def tCons (ta : TE) (tr : TA) : TA := fun σ H Q => ta σ H fun x H1 => tr σ H1 fun xs H2 => Q (x :: xs) H2
section
variable {X : Cx} {e : Expr} {es : List Expr} {te : TE} {t : TA} {pos : Pos}
theorem pa_nil : PA X [] tNil := fun _ _ _ _ H Q I h => Calls.spliced_nil ⟨[], H, I, .nil, h⟩
theorem pa_cons (ha : PE X e te) (hr : PA X es t) (hs : starEach (e :: es) X.env = (false, eval e X.env) :: starEach es X.env := by rfl) : PA X (e :: es) (tCons te t) := by
  intro pos pins s σ H Q I h
  rw [hs]
  show wpAny _ _ (spliced ((false, eval e X.env) :: backTo pos (starEach es X.env))) _ _ s
  refine Calls.spliced_cons (thn (ha pins s σ H _ I h) fun u s1 ⟨x, H1, I1, r1, q1⟩ => ?_)
  exact thn (hr pos pins s1 σ H1 _ I1 q1) fun us s2 ⟨xs, H2, I2, r2, q2⟩ => ⟨x :: xs, H2, I2, .cons r1 r2, q2⟩
def tTup (t : TA) : TE := fun σ H Q => t σ H fun xs H1 => xs.length ≤ sizeLine ∧ ∀ p, H1 p = none → Q (.ref p) (upd H1 p (.tup xs))
def tLst (t : TA) : TE := fun σ H Q => t σ H fun xs H1 => xs.length ≤ sizeLine ∧ ∀ p, H1 p = none → Q (.ref p) (upd H1 p (.lst xs))
theorem pe_tup {x1} (h : PA X es t) : PE X (.Tuple es x1 pos) (tTup t) := by
  intro pins s σ H Q I hq
  refine wpAny_Tuple_spliced (thn (h pos pins s σ H _ I hq) fun us s1 ⟨xs, H1, I1, r, z, q⟩ => ⟨by rw [← r.length]; exact z, ?_⟩)
  have hf : H1 s1.heap.objs.size = none := I1.hok.fresh (Nat.le_refl _)
  refine ⟨.ref s1.heap.objs.size, upd H1 s1.heap.objs.size (.tup xs), I1.laid (t' := s1.toks) (fun b u e => Heap.get?_push_of_some _ e) (Nat.le_refl _) ?_, rfl, q _ hf⟩
  exact ⟨z, us, r, ⟨_, Heap.get?_push_size _ rfl, rfl, _, rfl⟩⟩
theorem pe_lst (h : PA X es t) : PE X (.List es pos) (tLst t) := by
  intro pins s σ H Q I hq
  refine wpAny_List_spliced (thn (h pos pins s σ H _ I hq) fun us s1 ⟨xs, H1, I1, r, z, q⟩ => ⟨by rw [← r.length]; exact z, ?_⟩)
  have hf : H1 s1.heap.objs.size = none := I1.hok.fresh (Nat.le_refl _)
  refine ⟨.ref s1.heap.objs.size, upd H1 s1.heap.objs.size (.lst xs), I1.laid (t' := s1.toks) (fun b u e => Heap.get?_push_of_some _ e) (Nat.le_refl _) ?_, rfl, q _ hf⟩
  exact ⟨z, us, 0, r, Heap.get?_push_size _ rfl⟩
end
abbrev Sp := List V → Hp → VK → XK → Prop
abbrev CXT := List Env → Hp → Shared → XK → Value → Shared → Prop
structure Env0 (P : Program) (w : World) (K : PySem.W.Frag) (mg : Str → Option Value) (base : Heap) (A : Around) (outer : List Env) (s : Shared) (H : Hp) : Prop where
  frames : A.frames = some outer
  mod : Mod K mg base
  bs : ∀ b o, base.get? b = some o → s.heap.get? b = some o ∧ H b = none
  bsz : base.objs.size ≤ s.heap.objs.size
  funs : s.heap.FunFrames base outer
  frf : ∀ b ∈ frs outer, H b = none
  hok : HOk P w H s.heap
  bare : AllBare s.gens
def CE (outer : List Env) (P : Program) (w : World) (H : Hp) (s : Shared) (Q : VK) (u : Value) (s' : Shared) : Prop :=
  ∃ v H', s'.os = s.os ∧ AllBare s'.gens ∧ Un (frs outer) [] H H' s.heap s'.heap ∧ HOk P w H' s'.heap ∧ RelV v u ∧ Q v H'
def CR (CX : CXT) (outer : List Env) (P : Program) (w : World) (H : Hp) (s : Shared) (Q : VK) (E : XK) (r : Result) (s' : Shared) : Prop :=
  match r with
  | .ok (.ret u) => CE outer P w H s Q u s'
  | .ok _ => False
  | .error e => CX outer H s E e s'
structure FnOk (P : Program) (w : World) (K : PySem.W.Frag) (mg : Str → Option Value) (base : Heap) (CX : CXT) (k : Nat) (f : Addr) (fd : FuncData) (ps : List Str) (sp : Sp) : Prop where
  len : ∀ vs H Q E, sp vs H Q E → vs.length = ps.length
  run : ∀ (A : Around) (outer : List Env) (s : Shared) (H : Hp) (args : Args) (us : List Value) (vs : List V) (Q : VK) (E : XK), Room k A → Env0 P w K mg base A outer s H → BindsTo s fd args (ps.zip us) → Vals vs us → sp vs H Q E →
    codeAny (model P w) A (.call (.ref f) args) (CR CX outer P w H s Q E) s
theorem FnOk.mono {P : Program} {w : World} {K : PySem.W.Frag} {mg : Str → Option Value} {base : Heap} {CX : CXT} {j k : Nat} {f : Addr} {fd : FuncData} {ps : List Str} {sp : Sp} (F : FnOk P w K mg base CX j f fd ps sp) (h : j ≤ k) :
    FnOk P w K mg base CX k f fd ps sp := ⟨F.len, fun A outer s H args us vs Q E hr => F.run A outer s H args us vs Q E (hr.mono h)⟩
theorem FnOk.imp {P : Program} {w : World} {K : PySem.W.Frag} {mg : Str → Option Value} {base : Heap} {CX : CXT} {k : Nat} {f : Addr} {fd : FuncData} {ps : List Str} {sp sp' : Sp} (F : FnOk P w K mg base CX k f fd ps sp)
    (h : ∀ vs H Q E, sp' vs H Q E → sp vs H Q E) : FnOk P w K mg base CX k f fd ps sp' :=
  ⟨fun vs H Q E q => F.len vs H Q E (h _ _ _ _ q), fun A outer s H args us vs Q E hr he hb hv hs => F.run A outer s H args us vs Q E hr he hb hv (h _ _ _ _ hs)⟩
theorem Env0.make {P : Program} {w : World} {K : PySem.W.Frag} {mg : Str → Option Value} {base : Heap} {A : Around} {outer : List Env} {s : Shared} {H : Hp} (e : Env0 P w K mg base A outer s H) (C : Addr) (us : List Value) (kw : List (Str × Value)) :
    Env0 P w K mg base (A.under (.builtin "type.__call__" ⟨.ref C :: us, kw⟩)) outer s H := ⟨by first | exact e.frames | (simpa [Around.under, Code.envs, Code.isFrame, pushEnvs] using e.frames), e.mod, e.bs, e.bsz, e.funs, e.frf, e.hok, e.bare⟩
theorem Env0.in1 {P : Program} {w : World} {K : PySem.W.Frag} {mg : Str → Option Value} {base : Heap} {A : Around} {outer : List Env} {s : Shared} {H : Hp} (e : Env0 P w K mg base A outer s H) :
    Env0 P w K mg base A.in1 outer s H := ⟨e.frames, e.mod, e.bs, e.bsz, e.funs, e.frf, e.hok, e.bare⟩
section
variable {X : Cx} {pins : List (Addr × Obj)} {σ : St} {H : Hp} {s s' : Shared}
theorem Inv.env0 (I : Inv X pins σ H s) : Env0 X.prog X.w X.K X.mg X.base X.A X.stack s H :=
  ⟨I.ok.frames, I.ok.mod, I.bs, Nat.le_trans I.ok.bsz I.sz, I.stack, I.stkFree, I.hok, I.bare⟩
theorem Inv.after {Q : VK} {u : Value} (I : Inv X pins σ H s) (h : CE X.stack X.prog X.w H s Q u s') : EP X pins σ Q u s' := by
  obtain ⟨v, H', os, bare, un, hok, r, q⟩ := h
  obtain ⟨hh, g, d, t, os'⟩ := s'
  obtain rfl : os' = s.os := os
  exact ⟨v, H', I.call (h' := hh) (g' := g) (d' := d) (t' := t) (ch := []) un hok bare (fun b z => absurd z (by simp)), r, q⟩
end
def tCall (sp : Sp) (dvs : List V) (E : XK) (t : TA) : TE := fun σ H Q => t σ H fun vs H1 => sp (vs ++ dvs) H1 Q E
def Binds (K : PySem.W.Frag) (fd : FuncData) (ps : List Str) (ds : List Value) : Prop :=
  ∀ (s : Shared) (us : List Value), K.In s.heap → (us ++ ds).length = ps.length → BindsTo s fd ⟨us, []⟩ (ps.zip (us ++ ds))
theorem Binds.all {K : PySem.W.Frag} {fd : FuncData} {ps : List Str} (h : ∀ us : List Value, us.length = ps.length → bindArgs fd ⟨us, []⟩ = pure (ps.zip us)) : Binds K fd ps [] := fun s us _ hl => by
  rw [List.append_nil] at hl ⊢
  exact .of_eq (h us hl)
def Passes (CX : CXT) (X : Cx) (E : XK) : Prop := ∀ (pins : List (Addr × Obj)) (σ : St) (H : Hp) (s : Shared) (e : Value) (s' : Shared), Inv X pins σ H s → CX X.stack H s E e s' → X.xe e s'
section
variable {X : Cx} {CX : CXT} {k : Nat} {f C : Addr} {fd : FuncData} {ps : List Str} {sp : Sp} {dvs : List V} {ds : List Value} {E : XK} {x m : Str} {p pos apos : Pos} {e o : Expr} {es : List Expr} {ta : TE} {t : TA}
theorem run_fn {pins : List (Addr × Obj)} {σ : St} {H : Hp} {s : Shared} {Q : VK} {us : List Value} {vs : List V} (F : FnOk X.prog X.w X.K X.mg X.base CX k f fd ps sp) (hr : Room k X.A) (hb : Binds X.K fd ps ds) (hd : Vals dvs ds) (hx : Passes CX X E)
    (I : Inv X pins σ H s) (r : Vals vs us) (h : sp (vs ++ dvs) H Q E) : wpAny (model X.prog X.w) X.A (call (.ref f) us) (EP X pins σ Q) X.xe s := by
  have r2 : Vals (vs ++ dvs) (us ++ ds) := r.append hd
  have hl : (us ++ ds).length = ps.length := by rw [← r2.length]; exact F.len _ _ _ _ h
  refine wpAny_call (codeAny_mono (F.run X.A X.stack s H ⟨us, []⟩ (us ++ ds) (vs ++ dvs) Q E hr I.env0 (hb s us I.kIn hl) r2 h) fun r s' hq => ?_)
  cases r with
  | error e => exact hx pins σ H s e s' I hq
  | ok fl =>
    cases fl with
    | ret u => exact I.after hq
    | next => exact False.elim hq
    | brk => exact False.elim hq
    | cont => exact False.elim hq
theorem pe_call (F : FnOk X.prog X.w X.K X.mg X.base CX k f fd ps sp) (hr : Room k X.A) (hg : Gl X x) (hm : X.mg x = some (.ref f)) (hk : PySem.W.keepIn X.K (.ref f) = true) (hb : Binds X.K fd ps ds) (hd : Vals dvs ds) (hx : Passes CX X E)
    (ha : PA X (e :: es) t) (hdb : (x == ("__debug__" : Str)) = false := by decide) (he : starEach (e :: es) X.env = (false, eval e X.env) :: starEach es X.env := by rfl) (hpl : (backTo pos (starEach es X.env)).any (·.1) = false := by rfl) :
    PE X (.Call (.Name x p) (e :: es) [] pos) (tCall sp dvs E t) := by
  intro pins s σ H Q I h
  refine wpAny_Call_Name_kw (ld_glob I hg hm ?_ hdb)
  refine PySem.W.callWith_K (h₀ := X.base) I.ok.mod.kin hk (thn (ha pos pins s σ H _ I h) fun us s1 ⟨vs, H1, I1, r, q⟩ => ⟨I1.kIn, ?_⟩) he hpl
  exact run_fn F hr hb hd hx I1 r q
structure Mk (K : PySem.W.Frag) (C f : Addr) : Prop where
  makes : PySem.W.makesIn K C = true
  init : PySem.W.findIn K (.ref C) "__init__" = some (some (.ref f))
  fn : PySem.W.isFn K (.ref f) = true
  kp : PySem.W.keepIn K (.ref C) = true
end
section
variable {X : Cx} {CX : CXT} {k : Nat} {f C : Addr} {fd : FuncData} {ps ks : List Str} {sp : Sp} {E : XK} {x m : Str} {p pos apos kpos : Pos} {e o : Expr} {es : List Expr} {kws : List Keyword} {te ta : TE} {t tk : TA} {nm : Option Str}
structure KBinds (K : PySem.W.Frag) (fd : FuncData) (ps ks : List Str) (g : List Value → List Value → List Value) (gV : List V → List V → List V) : Prop where
  to : ∀ (s : Shared) (us ws : List Value), K.In s.heap → (g us ws).length = ps.length → BindsTo s fd ⟨us, ks.zip ws⟩ (ps.zip (g us ws))
  rel : ∀ {vs : List V} {us : List Value} {zs : List V} {ws : List Value}, Vals vs us → Vals zs ws → Vals (gV vs zs) (g us ws)
variable {g : List Value → List Value → List Value} {gV : List V → List V → List V}
end
structure FnScope (N P : List Str) (sc : Scope) : Prop where
  kind : sc.kind = .function
  co : sc.isCoroutine = false
  gen : sc.isGenerator = false
  nd : N.Nodup
  pre : N.take P.length = P
  par : ∀ x ∈ P, sc.names.lookup x = some .local ∨ sc.names.lookup x = some .cell
  nofree : ∀ y ∈ sc.names, y.2 ≠ .free
theorem bindL_out {kindOf : Str → Option NameKind} {x : Str} : ∀ {binds : List (Str × Value)} {m : Str → Option Value}, (∀ v, (x, v) ∉ binds) → bindL kindOf binds m x = m x
  | [], _, _ => rfl
  | (n, v) :: r, m, h => by
    unfold bindL
    rw [bindL_out fun w hw => h w (List.mem_cons_of_mem _ hw)]
    split
    · have : x ≠ n := by rintro rfl; exact h v List.mem_cons_self
      simp [this]
    · rfl
theorem bindC_out {kindOf : Str → Option NameKind} {x : Str} : ∀ {binds : List (Str × Value)} {m : Str → Option Value}, (∀ v, (x, v) ∉ binds) → bindC kindOf binds m x = m x
  | [], _, _ => rfl
  | (n, v) :: r, m, h => by
    unfold bindC
    rw [bindC_out fun w hw => h w (List.mem_cons_of_mem _ hw)]
    split
    · rfl
    · have : x ≠ n := by rintro rfl; exact h v List.mem_cons_self
      simp [this]
theorem bindL_get {kindOf : Str → Option NameKind} {x : Str} {v : Value} : ∀ {P : List Str} {vs : List Value} {i : Nat} {m : Str → Option Value}, P.Nodup → P[i]? = some x → vs[i]? = some v → kindOf x = some .local →
    bindL kindOf (P.zip vs) m x = some v
  | [], _, _, _, _, h, _, _ => by simp at h
  | _ :: _, [], _, _, _, _, h, _ => by simp at h
  | p :: P, w :: vs, 0, m, nd, h1, h2, hk => by
    simp at h1 h2; subst h1; subst h2
    show bindL kindOf ((p, w) :: P.zip vs) m p = _
    unfold bindL
    rw [bindL_out fun v hv => (List.nodup_cons.mp nd).1 (List.of_mem_zip hv).1, if_pos hk]
    simp
  | p :: P, w :: vs, i + 1, m, nd, h1, h2, hk => by
    show bindL kindOf ((p, w) :: P.zip vs) m x = _
    unfold bindL
    exact bindL_get (i := i) (List.nodup_cons.mp nd).2 (by simpa using h1) (by simpa using h2) hk
theorem bindC_get {kindOf : Str → Option NameKind} {x : Str} {v : Value} : ∀ {P : List Str} {vs : List Value} {i : Nat} {m : Str → Option Value}, P.Nodup → P[i]? = some x → vs[i]? = some v → kindOf x ≠ some .local →
    bindC kindOf (P.zip vs) m x = some v
  | [], _, _, _, _, h, _, _ => by simp at h
  | _ :: _, [], _, _, _, _, h, _ => by simp at h
  | p :: P, w :: vs, 0, m, nd, h1, h2, hk => by
    simp at h1 h2; subst h1; subst h2
    show bindC kindOf ((p, w) :: P.zip vs) m p = _
    unfold bindC
    rw [bindC_out fun v hv => (List.nodup_cons.mp nd).1 (List.of_mem_zip hv).1, if_neg hk]
    simp
  | p :: P, w :: vs, i + 1, m, nd, h1, h2, hk => by
    show bindC kindOf ((p, w) :: P.zip vs) m x = _
    unfold bindC
    exact bindC_get (i := i) (List.nodup_cons.mp nd).2 (by simpa using h1) (by simpa using h2) hk
def start (N : List Str) (vs : List V) : St := vs.map some ++ List.replicate (N.length - vs.length) none
def cxOf (CX : CXT) (P : Program) (w : World) (K : PySem.W.Frag) (mg : Str → Option Value) (base : Heap) (N : List Str) (qual : Str) (scope : Scope) (f : Addr) (cd : Value) (A : Around) (outer : List Env) (s : Shared) (H : Hp) (E : XK) : Cx where
  prog := P
  w := w
  K := K
  mg := mg
  base := base
  A := A.deeper (envOfC qual scope s.heap.objs.size f cd)
  N := N
  s₀ := s
  H₀ := H
  env := envOfC qual scope s.heap.objs.size f cd
  outer := outer
  stack := envOfC qual scope s.heap.objs.size f cd :: outer
  ex := []
  calm := true
  fn := fun _ => true
  pn := []
  xe := fun e s' => wpAny (model P w) (A.deeper (envOfC qual scope s.heap.objs.size f cd)) (leaving (envOfC qual scope s.heap.objs.size f cd) e) (fun _ s'' => CX outer H s E e s'') (fun e' s'' => CX outer H s E e' s'') s'
theorem cell_has {sc : Scope} {n : Nat} {x : Str} (h : sc.names.lookup x = some .cell) : ∃ c, (cellsFrom n sc.names []).lookup x = some c := by
  have q := PySem.W.cellsFrom_some sc.names n [] (.inl h)
  exact Option.isSome_iff_exists.mp q
theorem inv_start {CX : CXT} {P : Program} {w : World} {K : PySem.W.Frag} {mg : Str → Option Value} {base : Heap} {N ps : List Str} {qual : Str} {scope : Scope} {f : Addr} {cd : Value} {A : Around} {outer : List Env} {s s1 : Shared} {H : Hp} {E : XK} {us : List Value} {vs : List V}
    (S : FnScope N ps scope) (hd : A.handled = none) (e0 : Env0 P w K mg base A outer s H) (hl : vs.length = ps.length) (r : Vals vs us)
    (x : InCallC s s.heap.objs.size (bindL (envOfC qual scope s.heap.objs.size f cd).kindOf (ps.zip us) fun _ => none) (cellsFrom (s.heap.objs.size + 1) scope.names []) (bindC (envOfC qual scope s.heap.objs.size f cd).kindOf (ps.zip us) fun _ => none) s1) :
    Inv (cxOf CX P w K mg base N qual scope f cd A outer s H E) [] (start N vs) H s1 := by
  have hpl : ps.length ≤ N.length := by have := congrArg List.length S.pre; rw [List.length_take] at this; omega
  obtain ⟨h1, tk, rfl, hk⟩ := x.done
  have noA : ∀ b : Addr, b ∉ (cxOf CX P w K mg base N qual scope f cd A outer s H E).ex := fun b z => absurd (show b ∈ ([] : List Addr) from z) (by simp)
  refine ⟨⟨e0.mod, S.kind, rfl, rfl, Nat.le_refl _, fun y z c h1 h2 => ?_, fun y hy => ?_, fun y c _ h => ?_, fun _ => hd, Around.frames_deeper e0.frames, .inr ⟨rfl, rfl⟩, fun b z => absurd z (noA b), e0.bs, e0.bsz, fun b _ _ => noA b, fun b z => absurd z (noA b), e0.funs, e0.frf⟩,
    rfl, e0.bare, Un.kept hk, ⟨_, x.toInCall.ns, fun i y v h1 h2 h3 => ?_⟩, fun y c h => ⟨_, x.cell y c h⟩, e0.hok.fresh (Nat.le_refl _), fun y c h => ?_, fun p hp => absurd (show p ∈ ([] : List (Addr × Obj)) from hp) (by simp), e0.hok.kept hk, ?_⟩
  · exact name_of_addr x.apart (PySem.mem_of_lookup h1) (PySem.mem_of_lookup h2)
  · have hy : scope.names.lookup y = some .cell ∨ scope.names.lookup y = some .free := hy
    rcases hy with hy | hy
    · exact cell_has hy
    · exact absurd rfl (S.nofree _ (PySem.mem_of_lookup hy))
  · exact Nat.le_of_lt (x.above y c (PySem.mem_of_lookup h))
  · have hi : i < vs.length := by
      unfold start at h2
      by_cases hi : i < vs.length
      · exact hi
      · rw [List.getElem?_append_right (by simpa using hi)] at h2
        rw [List.getElem?_replicate] at h2
        split at h2 <;> cases h2
    have ha : vs[i]? = some v := by
      unfold start at h2
      rw [List.getElem?_append_left (by simpa using hi), List.getElem?_map] at h2
      cases e : vs[i]? with
      | none => rw [e] at h2; cases h2
      | some a => rw [e] at h2; cases h2; rfl
    obtain ⟨u, hu, rv⟩ := r.get ha
    have hp : ps[i]? = some y := by
      rw [← S.pre, List.getElem?_take_of_lt (by omega)]; exact h1
    have ndP : ps.Nodup := by rw [← S.pre]; exact S.nd.sublist (List.take_sublist _ _)
    refine ⟨u, rv, ?_⟩
    rcases S.par y (List.mem_of_getElem? hp) with k | k
    · exact .inl ⟨k, bindL_get ndP hp hu k⟩
    · obtain ⟨c, e⟩ := cell_has (n := s.heap.objs.size + 1) k
      refine .inr ⟨.inl k, c, e, ?_⟩
      have q := x.cell y c e
      rw [bindC_get ndP hp hu (by show scope.names.lookup y ≠ _; rw [k]; decide)] at q
      exact q
  · exact e0.hok.fresh (Nat.le_of_lt (x.above y c (PySem.mem_of_lookup h)))
  · unfold start
    show _ = N.length
    rw [List.length_append, List.length_map, List.length_replicate]
    omega
theorem fn_of {CX : CXT} {P : Program} {w : World} {K : PySem.W.Frag} {mg : Str → Option Value} {base : Heap} {k : Nat} {f : Addr} {name qual : Str} {params : Arguments} {body : List Stmt} {scope : Scope} {dV kV doc pm cdv ct oc : Value} {an od : Option Addr}
    {osl : Array (Option Value)} {N ps : List Str} {sp : Sp} (lk : K.lookup f = some ⟨oc, od, .func (PySem.W.fnOf name qual params body scope dV kV doc pm an cdv ct), osl⟩) (hcd : PySem.W.codeIn K cdv qual = true) (S : FnScope N ps scope)
    (len : ∀ vs H Q E, sp vs H Q E → vs.length = ps.length)
    (hbody : ∀ (A : Around) (outer : List Env) (s : Shared) (H : Hp) (vs : List V) (Q : VK) (E : XK), Room k (A.deeper (envOfC qual scope s.heap.objs.size f cdv)) → sp vs H Q E →
      ∃ t, PSs (cxOf CX P w K mg base N qual scope f cdv A outer s H E) body t ∧ t { nx := fun _ H' => Q .non H', rt := Q } (start N vs) H) :
    FnOk P w K mg base CX (k + 1) f (PySem.W.fnOf name qual params body scope dV kV doc pm an cdv ct) ps sp := by
  refine ⟨len, fun A outer s H args us vs Q E hr e0 hb r hsp => ?_⟩
  have hl := len _ _ _ _ hsp
  have KX : K.In s.heap := e0.mod.kin.keeps fun b o e => (e0.bs b o e).1
  have lim : s.heap.NoLimit := e0.mod.nolimit.keeps fun b o e => (e0.bs b o e).1
  have hkind : ∀ y ∈ ps.zip us, scope.names.lookup y.1 = some .local ∨ (scope.names.lookup y.1 = some .cell ∧ ((cellsFrom (s.heap.objs.size + 1) scope.names []).lookup y.1).isSome = true) := fun ⟨n, v⟩ hy => by
    rcases S.par n (List.of_mem_zip hy).1 with q | q
    · exact .inl q
    · exact .inr ⟨q, PySem.W.cellsFrom_some _ _ _ (.inl q)⟩
  refine codeAny_call_function hr.depth (KX _ _ lk) rfl S.co S.gen rfl (PySem.W.codeRec_of KX hcd) (hb _ _ _ _ ?_)
  refine wpAny_newFunctionEnv_cells S.kind hkind fun env he s1 x => ?_
  subst he
  refine ⟨lim.keeps x.toInCall.keep, codeAny_func ?_⟩
  obtain ⟨t, ht, hq⟩ := hbody A outer s H vs Q E (hr.deeper _) hsp
  have I : Inv (cxOf CX P w K mg base N qual scope f cdv A outer s H E) [] (start N vs) H s1 := inv_start S hr.hd e0 hl r x
  refine wpAny_mono (ht [] s1 (start N vs) H _ I hq) (fun fl s' hs => ?_) fun e s' hs => hs
  have fin : ∀ {σ' : St} {H' : Hp} {v : V} {u : Value}, Inv (cxOf CX P w K mg base N qual scope f cdv A outer s H E) [] σ' H' s' → RelV v u → Q v H' → CE outer P w H s Q u s' :=
    fun {σ' H' v u} J rv q => ⟨v, H', J.os, J.bare, J.base, J.hok, rv, q⟩
  cases fl with
  | ret u =>
    obtain ⟨v, σ', H', J, rv, q⟩ := hs
    exact fin J rv q
  | next =>
    obtain ⟨σ', H', J, q⟩ := hs
    exact fin (v := V.non) (u := Value.none) J rfl q
  | brk =>
    obtain ⟨_, _, _, q⟩ := hs
    exact False.elim q
  | cont =>
    obtain ⟨_, _, _, q⟩ := hs
    exact False.elim q
end L2
namespace L2
open PySem PySem.Spec PyProof.Rows
section
variable {X : Cx} {x : Str} {p pos : Pos} {e : Expr} {es : List Expr} {t : TA} {id T : String} {r : List V → Hp → VK → Prop}
def tCB (r : List V → Hp → VK → Prop) (t : TA) : TE := fun σ H Q => t σ H fun vs H1 => r vs H1 Q
theorem pe_callB (hc : CallR X (.builtin id) r) (hg : Gl X x) (hm : X.mg x = none) (hv : bootBuiltins x = some (.builtin id)) (ha : PA X (e :: es) t) (hn : x ≠ "__name__" := by decide) (hdb : (x == ("__debug__" : Str)) = false := by decide)
    (he : starEach (e :: es) X.env = (false, eval e X.env) :: starEach es X.env := by rfl) (hpl : (backTo pos (starEach es X.env)).any (·.1) = false := by rfl) : PE X (.Call (.Name x p) (e :: es) [] pos) (tCB r t) := by
  intro pins s σ H Q I h
  refine wpAny_Call_Name_kw (ld_blt I hg hm hv ?_ hn hdb)
  exact PyProof.Rows.callWith_builtin1 (thn (ha pos pins s σ H _ I h) fun us s1 ⟨vs, H1, I1, r1, q1⟩ => hc pins s1 σ H1 vs us Q I1 r1 q1) he hpl
theorem pe_callTy (hc : CallR X (.type T) r) (hg : Gl X x) (hm : X.mg x = none) (hv : bootBuiltins x = some (.type T)) (ha : PA X (e :: es) t) (hn : x ≠ "__name__" := by decide) (hdb : (x == ("__debug__" : Str)) = false := by decide)
    (he : starEach (e :: es) X.env = (false, eval e X.env) :: starEach es X.env := by rfl) (hpl : (backTo pos (starEach es X.env)).any (·.1) = false := by rfl) : PE X (.Call (.Name x p) (e :: es) [] pos) (tCB r t) := by
  intro pins s σ H Q I h
  refine wpAny_Call_Name_kw (ld_blt I hg hm hv ?_ hn hdb)
  exact PyProof.Rows.callWith_type1 (thn (ha pos pins s σ H _ I h) fun us s1 ⟨vs, H1, I1, r1, q1⟩ => hc pins s1 σ H1 vs us Q I1 r1 q1) he hpl
end
end L2
namespace HT
open PySem PyProof.Rows
section
open PySem.SeqAt
open PySem.AutoSeq1 (wpAny_loadPart')
open PySem.MeetsSeq PySem.MeetsSeq2 PySem.MeetsSeq3
end
section
variable {prog : Program} {w : World} {A : Around} {E : Value → Shared → Prop} {s : Shared}
theorem cat_tup {t b : Addr} {vs ws : List Value} {Q : Value → Shared → Prop} (ht : IsTup s.heap t vs.toArray) (hb : IsTup s.heap b ws.toArray) (hv : vs ≠ [])
    (h1 : ws = [] → Q (.ref t) s) (h2 : ws ≠ [] → Q (.ref s.heap.objs.size) { s with heap := s.heap.push { cls := .type "tuple", data := .seq (vs ++ ws).toArray } })
    (hsz : vs.length + ws.length ≤ sizeLine) : wpAny (model prog w) A (binaryOp .Add (.ref t) (.ref b)) Q E s := by
  obtain ⟨⟨cls, dd, data, sl⟩, ho, hc, n, hd⟩ := id ht
  obtain ⟨⟨cls2, dd2, data2, sl2⟩, ho2, hc2, n2, hd2⟩ := id hb
  simp only at hc hd hc2 hd2
  subst hc hd hc2 hd2
  have e : vs.toArray ++ ws.toArray = (vs ++ ws).toArray := by simp
  by_cases hw : ws = []
  · exact concat_meets ⟨_, ho, rfl⟩ ⟨_, ho2, rfl⟩ noFill_tuple_add seq_tuple_add PySem.F.slot_tuple_add PySem.F.entry_tuple_add (PySem.F.args_tuple_add_2 _ _)
      (tuple_addW1 t b vs.toArray ws.toArray n n2 dd dd2 sl sl2 (by simpa using hv) (by simp [hw])) ⟨ho, ho2, h1 hw⟩
  · refine concat_meets ⟨_, ho, rfl⟩ ⟨_, ho2, rfl⟩ noFill_tuple_add seq_tuple_add PySem.F.slot_tuple_add PySem.F.entry_tuple_add (PySem.F.args_tuple_add_2 _ _)
      (tuple_addW2 t b vs.toArray ws.toArray n n2 dd dd2 sl sl2 (by simpa using hv) (by simpa using hw) (by rw [List.size_toArray, List.size_toArray]; exact hsz)) ⟨ho, ho2, ?_⟩
    rw [e]
    exact h2 hw
def sIx (n d : Nat) : Option Int → Nat
  | none => d
  | some v => if v < 0 then (v + (n : Int)).toNat else min v.toNat n
theorem sIx_none (n d : Nat) : sIx n d none = d := rfl
theorem sIx_nat (n d k : Nat) : sIx n d (some (k : Int)) = min k n := by
  show (if (k : Int) < 0 then ((k : Int) + (n : Int)).toNat else min (k : Int).toNat n) = min k n
  rw [if_neg (by omega), Int.toNat_natCast]
end
end HT
namespace L2
open PySem PySem.Spec PyProof.Rows
abbrev TO := St → Hp → (Option Int → Hp → Prop) → Prop
def PO (X : Cx) (e : Option Expr) (t : TO) : Prop :=
  ∀ (pins : List (Addr × Obj)) (s : Shared) (σ : St) (H : Hp) (Q : Option Int → Hp → Prop), Inv X pins σ H s → t σ H Q →
    wpAny (model X.prog X.w) X.A (evalPart e X.env) (fun u s' => ∃ o H', Inv X pins σ H' s' ∧ IsPart u o ∧ Q o H') X.xe s
def tNoPart : TO := fun _ H Q => Q none H
def tPart (t : TE) : TO := fun σ H Q => t σ H fun x H1 => ∃ i, x = .int i ∧ Q (some i) H1
section
variable {X : Cx} {e : Expr} {te : TE} {lo hi : Option Expr} {tl th : TO} {pos p2 : Pos}
theorem po_none : PO X none tNoPart := by
  intro pins s σ H Q I h
  rw [evalPart_none]
  exact wpAny_pure ⟨none, H, I, .none, h⟩
theorem po_some (h : PE X e te) : PO X (some e) (tPart te) := by
  intro pins s σ H Q I hw
  rw [evalPart_some]
  refine thn (h pins s σ H _ I hw) fun u s1 ⟨x, H1, I1, r1, q1⟩ => ?_
  obtain ⟨i, rfl, q⟩ := q1
  obtain ⟨t, rfl⟩ := r1
  exact ⟨some i, H1, I1, .int i t, q⟩
def SlR (X : Cx) (r : V → Option Int → Option Int → Hp → VK → Prop) : Prop :=
  ∀ (pins : List (Addr × Obj)) (s : Shared) (σ : St) (H : Hp) (x : V) (v vl vu : Value) (lo hi : Option Int) (sl : Addr) (Q : VK), Inv X pins σ H s → RelV x v → s.heap.IsSliceOf sl vl vu .none → IsPart vl lo → IsPart vu hi → r x lo hi H Q →
    ∃ T id, typeLookup (.type T) "__getitem__" = pure (some (.builtin id)) ∧ s.TypeIs v T ∧ wpAny (model X.prog X.w) X.A (getItem v (.ref sl)) (EP X pins σ Q) X.xe s
theorem SlR.or {r r' : V → Option Int → Option Int → Hp → VK → Prop} (h : SlR X r) (h' : SlR X r') : SlR X (fun x lo hi H Q => r x lo hi H Q ∨ r' x lo hi H Q) := by
  intro pins s σ H x v vl vu lo hi sl Q I rx hs pl pu q
  rcases q with q | q
  · exact h pins s σ H x v vl vu lo hi sl Q I rx hs pl pu q
  · exact h' pins s σ H x v vl vu lo hi sl Q I rx hs pl pu q
def tSl (r : V → Option Int → Option Int → Hp → VK → Prop) (te : TE) (tl th : TO) : TE := fun σ H Q => te σ H fun x H1 => tl σ H1 fun l H2 => th σ H2 fun u H3 => r x l u H3 Q
theorem pe_slice {r : V → Option Int → Option Int → Hp → VK → Prop} (hr : SlR X r) (he : PE X e te) (hl : PO X lo tl) (hu : PO X hi th) : PE X (.Subscript e (.Slice lo hi none p2) pos) (tSl r te tl th) := by
  intro pins s σ H Q I h
  refine Subscript_ (thn (he pins s σ H _ I h) fun v s1 ⟨x, H1, I1, r1, q1⟩ => ?_)
  refine wpAny_Slice (thn (hl pins s1 σ H1 _ I1 q1) fun vl s2 ⟨l, H2, I2, pl, q2⟩ => thn (hu pins s2 σ H2 _ I2 q2) fun vu s3 ⟨u, H3, I3, pu, q3⟩ => ?_)
  rw [evalPart_none]
  refine wpAny_pure ?_
  have I4 : Inv X pins σ H3 { s3 with heap := s3.heap.push { cls := .type "slice", data := .fields #[vl, vu, .none] } } := I3.kept (t' := s3.toks) fun b ob q => Heap.get?_push_of_some _ q
  obtain ⟨T, id, hT, ht, hg⟩ := hr pins { s3 with heap := s3.heap.push { cls := .type "slice", data := .fields #[vl, vu, .none] } } σ H3 x v vl vu l u s3.heap.objs.size Q I4 r1 (Heap.IsSliceOf.new ..) pl pu q3
  show wpAny (model X.prog X.w) X.A (subscriptTail e (.Slice lo hi none p2) v (.ref s3.heap.objs.size)) (EP X pins σ Q) X.xe { s3 with heap := s3.heap.push { cls := .type "slice", data := .fields #[vl, vu, .none] } }
  exact tail_any (ops := [.ref s3.heap.objs.size, v]) ht hT hg (by with_unfolding_all rfl)
def cutV (xs : List V) (lo hi : Option Int) : List V := (xs.drop (HT.sIx xs.length 0 lo)).take (HT.sIx xs.length xs.length hi - HT.sIx xs.length 0 lo)
theorem cutV_length (xs : List V) (lo hi : Option Int) : (cutV xs lo hi).length ≤ xs.length := by
  unfold cutV
  rw [List.length_take, List.length_drop]
  omega
def rCatT (K : PySem.W.Frag) : R2 := fun x y H Q => ∃ a b xs ys, x = .ref a ∧ y = .ref b ∧ SqT K H a xs ∧ SqT K H b ys ∧ xs ≠ [] ∧ xs.length + ys.length ≤ sizeLine ∧
  (ys = [] → Q (.ref a) H) ∧ (ys ≠ [] → ∀ p, H p = none → Q (.ref p) (upd H p (.tup (xs ++ ys))))
theorem Vals.nil_iff {xs : List V} {us : List Value} (r : Vals xs us) : us = [] ↔ xs = [] := by
  cases r with
  | nil => simp
  | cons _ _ => simp
theorem op_catT : OpR X (binaryOp .Add) (rCatT X.K) := by
  intro pins s σ H x y v u Q I rx ry h
  obtain ⟨a, b, xs, ys, rfl, rfl, ha, hb, hx, hz, q1, q2⟩ := h
  cases rx
  cases ry
  obtain ⟨its, r1, p1, _⟩ := I.tuple ha
  obtain ⟨its2, r2, p2, _⟩ := I.tuple hb
  refine HT.cat_tup p1 p2 (fun z => hx (r1.nil_iff.mp z)) (fun z => ⟨.ref a, H, I, rfl, q1 (r2.nil_iff.mp z)⟩) (fun z => ?_) (by rw [← r1.length, ← r2.length]; exact hz)
  refine ⟨.ref s.heap.objs.size, _, I.laid (t' := s.toks) (o := .tup (xs ++ ys)) (fun b ob q => Heap.get?_push_of_some _ q) (Nat.le_refl _) ?_, rfl, q2 (fun w => z (r2.nil_iff.mpr w)) _ (I.hok.fresh (Nat.le_refl _))⟩
  exact ⟨by rw [List.length_append]; exact hz, _, r1.append r2, IsTup.new _ _⟩
end
end L2
namespace L2
open PySem PySem.Spec PyProof.Rows
def ixN (n : Nat) (i : Int) : Option Nat := if 0 ≤ i then (if i < n then some i.toNat else none) else if -(n : Int) ≤ i then some (i + n).toNat else none
def atI {α : Type} (xs : List α) (i : Int) : Option α := (ixN xs.length i).bind fun j => xs[j]?
theorem ixN_seq {n : Nat} {i : Int} {j : Nat} (h : ixN n i = some j) : seqIndex? i n = some j ∧ j < n ∧ -(n : Int) ≤ i ∧ i < n := by
  unfold ixN at h
  by_cases h0 : 0 ≤ i
  · rw [if_pos h0] at h
    by_cases h1 : i < n
    · rw [if_pos h1] at h
      have e : i.toNat = j := Option.some.inj h
      exact ⟨by rw [seqIndex_of h0 h1, e], by omega, by omega, h1⟩
    · rw [if_neg h1] at h; cases h
  · rw [if_neg h0] at h
    by_cases h1 : -(n : Int) ≤ i
    · rw [if_pos h1] at h
      have e : (i + n).toNat = j := Option.some.inj h
      exact ⟨by rw [seqIndex_neg (by omega) h1, e], by omega, h1, by omega⟩
    · rw [if_neg h1] at h; cases h
theorem atI_get {α : Type} {xs : List α} {i : Int} {v : α} (h : atI xs i = some v) : ∃ j, seqIndex? i xs.length = some j ∧ xs[j]? = some v ∧ j < xs.length ∧ -(xs.length : Int) ≤ i ∧ i < xs.length := by
  unfold atI at h
  cases e : ixN xs.length i with
  | none => rw [e] at h; cases h
  | some j =>
    rw [e] at h
    obtain ⟨h1, h2, h3, h4⟩ := ixN_seq e
    exact ⟨j, h1, h, h2, h3, h4⟩
theorem atI_nat {α : Type} {xs : List α} {j : Nat} {v : α} (h : xs[j]? = some v) : atI xs (j : Int) = some v := by
  have hj : j < xs.length := (List.getElem?_eq_some_iff.mp h).1
  have e : ixN xs.length (j : Int) = some j := by
    unfold ixN
    rw [if_pos (by omega), if_pos (by omega)]; simp
  unfold atI; rw [e]; exact h
theorem atI_last {α : Type} (xs : List α) (v : α) : atI (xs ++ [v]) (-1) = some v := by
  have hl : (xs ++ [v]).length = xs.length + 1 := by simp
  have e : ixN (xs ++ [v]).length (-1) = some xs.length := by
    unfold ixN
    rw [hl, if_neg (by decide), if_pos (by omega)]
    congr 1
    omega
  unfold atI
  rw [e]
  show (xs ++ [v])[xs.length]? = some v
  simp
def PlainIx (b : Expr) : Prop := ∀ o i, subscripted b false o i = operate [o, i] (getItem o i)
def IxR (X : Cx) (r : R2) : Prop :=
  ∀ (value slice : Expr) (pins : List (Addr × Obj)) (s : Shared) (σ : St) (H : Hp) (x y : V) (v u : Value) (Q : VK), Inv X pins σ H s → RelV x v → RelV y u → r x y H Q →
    subscripted slice false v u = operate [v, u] (getItem v u) → wpAny (model X.prog X.w) X.A (subscriptTail value slice v u) (EP X pins σ Q) X.xe s
def MtR (X : Cx) (id : String) (r : V → List V → Hp → VK → Prop) : Prop :=
  ∀ (pins : List (Addr × Obj)) (s : Shared) (σ : St) (H : Hp) (x : V) (xs : List V) (v : Value) (us : List Value) (Q : VK), Inv X pins σ H s → RelV x v → Vals xs us → r x xs H Q →
    wpAny (model X.prog X.w) X.A (call (.builtin id) (v :: us)) (EP X pins σ Q) X.xe s
section
variable {X : Cx} {a b : Expr} {ta tb : TE} {pos : Pos}
theorem IxR.or {r r' : R2} (h : IxR X r) (h' : IxR X r') : IxR X (fun x y H Q => r x y H Q ∨ r' x y H Q) := by
  intro value slice pins s σ H x y v u Q I rx ry q hs
  rcases q with q | q
  · exact h value slice pins s σ H x y v u Q I rx ry q hs
  · exact h' value slice pins s σ H x y v u Q I rx ry q hs
theorem MtR.or {id : String} {r r' : V → List V → Hp → VK → Prop} (h : MtR X id r) (h' : MtR X id r') : MtR X id (fun x xs H Q => r x xs H Q ∨ r' x xs H Q) := by
  intro pins s σ H x xs v us Q I rx rs q
  rcases q with q | q
  · exact h pins s σ H x xs v us Q I rx rs q
  · exact h' pins s σ H x xs v us Q I rx rs q
theorem pe_ix {r : R2} (hr : IxR X r) (ha : PE X a ta) (hb : PE X b tb) (hs : PlainIx b) : PE X (.Subscript a b pos) (tOp r ta tb) := by
  intro pins s σ H Q I h
  exact Subscript_ (binT ha hb I h fun v u s2 x y H2 I2 rx ry q => hr a b pins s2 σ H2 x y v u Q I2 rx ry q (hs _ _))
def rIxL (K : PySem.W.Frag) : R2 := fun x y H Q => ∃ p xs i v, x = .ref p ∧ y = .int i ∧ SqL K H p xs ∧ atI xs i = some v ∧ Q v H
def rIxT (K : PySem.W.Frag) : R2 := fun x y H Q => ∃ p xs i v, x = .ref p ∧ y = .int i ∧ SqT K H p xs ∧ atI xs i = some v ∧ Q v H
def rIxS : R2 := fun x y H Q => ∃ z i c, x = .str z ∧ y = .int i ∧ z.length ≤ sizeLine ∧ atI z.cps.toList i = some c ∧ Q (.str ⟨#[c]⟩) H
theorem ix_list : IxR X (rIxL X.K) := by
  intro value slice pins s σ H x y v u Q I rx ry h hs
  obtain ⟨p, xs, i, z, rfl, rfl, hq, he, q⟩ := h
  cases rx
  obtain ⟨t, rfl⟩ := ry
  obtain ⟨its, r, pl, hz⟩ := I.list hq
  obtain ⟨j, h1, h2, h3, h4, h5⟩ := atI_get he
  obtain ⟨w, ew, rw'⟩ := r.get h2
  have hl := r.length
  have hn := line63
  have fin : EP X pins σ Q w s := ⟨z, H, I, rw', q⟩
  by_cases h0 : 0 ≤ i
  · have hj : i.toNat = j := by
      rw [seqIndex_of h0 h5] at h1
      exact Option.some.inj h1
    exact item_listR pl.isList h0 (by omega) (by rw [hj]; simpa using ew) fin hs
  · have hj : (i + (its.toArray.size : Int)).toNat = j := by
      rw [seqIndex_neg (by omega) h4] at h1
      rw [List.size_toArray, ← hl]
      exact Option.some.inj h1
    exact subscriptTail_builtinR (x := w) pl.isList.typeIs slot_list_getitem.lookup
      (wpAny_getItem_list_neg (Q := fun r s' => r = w ∧ EP X pins σ Q r s') pl.isList (by omega) (by rw [List.size_toArray] <;> omega) (by omega) (by rw [hj]; simpa using ew) ⟨rfl, fin⟩) hs
theorem ix_tup : IxR X (rIxT X.K) := by
  intro value slice pins s σ H x y v u Q I rx ry h hs
  obtain ⟨p, xs, i, z, rfl, rfl, hq, he, q⟩ := h
  cases rx
  obtain ⟨t, rfl⟩ := ry
  obtain ⟨its, r, pl, hz⟩ := I.tuple hq
  obtain ⟨j, h1, h2, h3, h4, h5⟩ := atI_get he
  obtain ⟨w, ew, rw'⟩ := r.get h2
  have hl := r.length
  have hn := line63
  have fin : EP X pins σ Q w s := ⟨z, H, I, rw', q⟩
  exact subscriptTail_builtinR (x := w) pl.typeIs slot_tuple_getitem.lookup
    (getItem_tuple (j := j) (Q := fun r s' => r = w ∧ EP X pins σ Q r s') pl (by omega) (by omega) (by rw [List.size_toArray, ← hl]; exact h1) (by simpa using ew) ⟨rfl, fin⟩) hs
theorem ix_str : IxR X rIxS := by
  intro value slice pins s σ H x y v u Q I rx ry h hs
  obtain ⟨z, i, c, rfl, rfl, hz, he, q⟩ := h
  obtain ⟨t, rfl⟩ := rx
  obtain ⟨t', rfl⟩ := ry
  obtain ⟨j, h1, h2, h3, h4, h5⟩ := atI_get he
  have hl : z.cps.toList.length = z.length := by simp [Str.length]
  rw [hl] at h1 h4 h5
  have hn := line63
  exact tail_any (typeIs_str s z t) slot_str_getitem.lookup (getItem_str (c := c) (by
    have e1 : decide (i < -(2 ^ 63 : Int)) = false := decide_eq_false (by omega)
    have e2 : decide (i ≥ 2 ^ 63) = false := decide_eq_false (by omega)
    rw [e1, e2, Bool.or_false]) (by rw [h1]; simpa using h2) ⟨.str ⟨#[c]⟩, H, I.tok _, ⟨_, rfl⟩, q⟩) hs
def rIx (K : PySem.W.Frag) : R2 := fun x y H Q => rIxL K x y H Q ∨ rIxT K x y H Q ∨ rIxS x y H Q
theorem ix_seq : IxR X (rIx X.K) := ix_list.or (ix_tup.or ix_str)
theorem Inv.lst {pins : List (Addr × Obj)} {σ : St} {H : Hp} {s : Shared} {p : Addr} {xs : List V} (I : Inv X pins σ H s) (h : H p = some (.lst xs)) :
    ∃ (its : List Value) (n : Nat), Vals xs its ∧ s.heap.get? p = some { cls := .type "list", data := .seq its.toArray n } ∧ xs.length ≤ sizeLine := by
  obtain ⟨z, its, n, r, e⟩ := I.hok p _ h
  exact ⟨its, n, r, e, z⟩
theorem slice_bounds (lo hi : Option Int) (n : Nat) : (sliceBounds lo hi none n).1 = ((HT.sIx n 0 lo : Nat) : Int) ∧ (sliceBounds lo hi none n).2.1 = ((HT.sIx n n hi : Nat) : Int) ∧ (sliceBounds lo hi none n).2.2 = 1 := by
  refine ⟨?_, ?_, rfl⟩
  · cases lo with
    | none => simp [sliceBounds, HT.sIx]
    | some i =>
      simp only [sliceBounds, HT.sIx, Option.getD_none, show (1 : Int) > 0 by decide, if_true]
      by_cases h : i < 0
      · simp only [h, if_true] <;> omega
      · simp only [h, if_false] <;> omega
  · cases hi with
    | none => simp [sliceBounds, HT.sIx]
    | some i =>
      simp only [sliceBounds, HT.sIx, Option.getD_none, show (1 : Int) > 0 by decide, if_true]
      by_cases h : i < 0
      · simp only [h, if_true] <;> omega
      · simp only [h, if_false] <;> omega
theorem slicePick_cut (its : List Value) (lo hi : Option Int) : slicePick its.toArray lo hi none = ((its.drop (HT.sIx its.length 0 lo)).take (HT.sIx its.length its.length hi - HT.sIx its.length 0 lo)).toArray := by
  obtain ⟨h1, h2, h3⟩ := slice_bounds lo hi its.toArray.size
  unfold slicePick
  rw [h1, h2, h3]
  simp only [sliceRange_one, pick_run, List.size_toArray] <;> rfl
def rSlL (K : PySem.W.Frag) : V → Option Int → Option Int → Hp → VK → Prop := fun x lo hi H Q => ∃ a xs, x = .ref a ∧ SqL K H a xs ∧ ∀ p, H p = none → Q (.ref p) (upd H p (.lst (cutV xs lo hi)))
theorem sl_list : SlR X (rSlL X.K) := by
  intro pins s σ H x v vl vu lo hi sl Q I rx hs pl pu h
  obtain ⟨a, xs, rfl, hx, q⟩ := h
  cases rx
  obtain ⟨its, r, ht, hz⟩ := I.list hx
  have hlen := r.length
  refine ⟨"list", _, slot_list_getitem.lookup, ht.isList.typeIs, ?_⟩
  refine wpAny_getItem_list_slice ht.isList hs pl pu .none (by simp) ?_ (by rw [List.size_toArray] <;> omega)
  rw [slicePick_cut, ← hlen]
  refine ⟨.ref s.heap.objs.size, _, I.laid (t' := s.toks) (o := .lst (cutV xs lo hi)) (fun b ob q => Heap.get?_push_of_some _ q) (Nat.le_refl _) ?_, rfl, q _ (I.hok.fresh (Nat.le_refl _))⟩
  exact ⟨Nat.le_trans (cutV_length xs lo hi) hz, _, 0, (r.drop (HT.sIx xs.length 0 lo)).take (HT.sIx xs.length xs.length hi - HT.sIx xs.length 0 lo), Heap.get?_push_size _ rfl⟩
def flatV : V → Bool
  | .non => true
  | .bl _ => true
  | .int _ => true
  | .str _ => true
  | _ => false
def eqV : V → V → Bool
  | .non, .non => true
  | .bl a, .bl b => a == b
  | .bl a, .int b => (if a then 1 else 0) == b
  | .int a, .bl b => a == (if b then 1 else 0)
  | .int a, .int b => a == b
  | .str a, .str b => a == b
  | _, _ => false
def inV (x : V) (xs : List V) : Bool := xs.any fun y => eqV y x
theorem call_len_seq : CallR X (.builtin "len") (fun xs H Q => ∃ p ys, xs = [.ref p] ∧ (SqL X.K H p ys ∨ SqT X.K H p ys) ∧ Q (.int ys.length) H) := by
  intro pins s σ H xs us Q I r h
  obtain ⟨p, ys, rfl, hq, q⟩ := h
  obtain ⟨u, rfl, rx⟩ := vals1 r
  cases rx
  have hn := line63
  rcases hq with hq | hq
  · obtain ⟨its, r', pl, hz⟩ := I.list hq
    have hlen := r'.length
    exact Calls.call_len_list pl.isList (by simp only [List.size_toArray] <;> omega) ⟨.int ys.length, H, I.tok _, ⟨s.toks + 1, by rw [List.size_toArray, hlen]⟩, q⟩
  · obtain ⟨its, r', pl, hz⟩ := I.tuple hq
    have hlen := r'.length
    exact len_tuple pl (by simp only [List.size_toArray] <;> omega) ⟨.int ys.length, H, I.tok _, ⟨s.toks + 1, by rw [List.size_toArray, hlen]⟩, q⟩
theorem call_len_str : CallR X (.builtin "len") (fun xs H Q => ∃ z, xs = [.str z] ∧ z.length ≤ sizeLine ∧ Q (.int z.length) H) := by
  intro pins s σ H xs us Q I r h
  obtain ⟨z, rfl, hz, q⟩ := h
  obtain ⟨u, rfl, t, rfl⟩ := vals1 r
  have hn := line63
  exact len_str (by omega) ⟨.int z.length, H, I.tok _, ⟨_, rfl⟩, q⟩
theorem CallR.or {f : Value} {r r' : List V → Hp → VK → Prop} (h : CallR X f r) (h' : CallR X f r') : CallR X f (fun xs H Q => r xs H Q ∨ r' xs H Q) := by
  intro pins s σ H xs us Q I rs q
  rcases q with q | q
  · exact h pins s σ H xs us Q I rs q
  · exact h' pins s σ H xs us Q I rs q
theorem call_list_of : CallR X (.type "list") (fun xs H Q => ∃ p ys, xs = [.ref p] ∧ (SqL X.K H p ys ∨ SqT X.K H p ys) ∧ ∀ l, H l = none → Q (.ref l) (upd H l (.lst ys))) := by
  intro pins s σ H xs us Q I r h
  obtain ⟨p, ys, rfl, hq, q⟩ := h
  obtain ⟨u, rfl, rx⟩ := vals1 r
  cases rx
  have fin : ∀ (its : List Value), Vals ys its → ys.length ≤ sizeLine → ∀ (h' : Heap) (c' : Nat), (∀ b o', s.heap.get? b = some o' → h'.get? b = some o') →
      h'.get? s.heap.objs.size = some { cls := .type "list", dict := none, data := .seq its.toArray c', slots := #[] } → EP X pins σ Q (.ref s.heap.objs.size) { s with heap := h' } := fun its r' hz h' c' kp e =>
    ⟨.ref s.heap.objs.size, _, I.laid (t' := s.toks) kp (Nat.le_refl _) (show ObjOk X.prog X.w _ h' _ (.lst ys) from ⟨hz, its, c', r', e⟩), rfl, q _ (I.hok.fresh (Nat.le_refl _))⟩
  rcases hq with hq | hq
  · obtain ⟨its, r', pl, hz⟩ := I.list hq
    have hlen := r'.length
    obtain ⟨o, ho, hc, n, hd⟩ := pl.isList
    exact call_list_seq p (.inl rfl) ho hc hd (fun h' c' kp e => fin its r' hz h' c' kp e) (by simp only [List.size_toArray] <;> omega)
  · obtain ⟨its, r', pl, hz⟩ := I.tuple hq
    have hlen := r'.length
    obtain ⟨o, ho, hc, n, hd⟩ := pl
    exact call_list_seq p (.inr rfl) ho hc hd (fun h' c' kp e => fin its r' hz h' c' kp e) (by simp only [List.size_toArray] <;> omega)
def tyV (K : PySem.W.Frag) (T : String) (x : V) (H : Hp) : Prop := match x with
  | .str _ => T = "str"
  | .int _ => T = "int"
  | .ref p => (T = "list" ∧ ∃ xs, SqL K H p xs) ∨ (T = "tuple" ∧ ∃ o, K.lookup p = some o ∧ o.cls = .type "tuple" ∧ o.dict = none) ∨
      (T = "dict" ∧ ((∃ kvs, H p = some (.dK kvs)) ∨ ∃ kvs, H p = some (.dT kvs))) ∨ (T = "set" ∧ ∃ S n, H p = some (.set S n))
  | _ => False
theorem tyV_is {pins : List (Addr × Obj)} {σ : St} {H : Hp} {s : Shared} {T : String} {x : V} {v : Value} (I : Inv X pins σ H s) (r : RelV x v) (ty : tyV X.K T x H) :
    s.TypeIs v T ∧ ∀ a, v = .ref a → ∃ ob, s.heap.get? a = some ob ∧ ob.dict = none := by
  cases x with
  | str z =>
    obtain ⟨t, rfl⟩ := r
    cases (show T = "str" from ty)
    exact ⟨typeIs_str s z t, fun _ e => nomatch e⟩
  | int i =>
    obtain ⟨t, rfl⟩ := r
    cases (show T = "int" from ty)
    exact ⟨typeIs_int s i t, fun _ e => nomatch e⟩
  | ref p =>
    cases r
    rcases ty with ⟨rfl, xs, hq⟩ | ⟨rfl, o, hk, hc, hd⟩ | ⟨rfl, hk⟩ | ⟨rfl, S, n, hk⟩
    · obtain ⟨its, _, pl, _⟩ := I.list hq
      refine ⟨pl.isList.typeIs, fun a e => ?_⟩
      cases e
      obtain ⟨o, n, e, c, hd, _⟩ := pl
      exact ⟨o, e, hd⟩
    · refine ⟨⟨o, I.kIn p o hk, hc⟩, fun a e => ?_⟩
      cases e
      exact ⟨o, I.kIn _ o hk, hd⟩
    · have z : ∃ o, s.heap.get? p = some o ∧ o.ExactDict := by
        rcases hk with ⟨kvs, hk⟩ | ⟨kvs, hk⟩
        · obtain ⟨_, _, _, _, o, _, _, e, ex, _⟩ := I.hok p _ hk
          exact ⟨o, e, ex⟩
        · obtain ⟨_, _, _, _, o, _, _, e, ex, _⟩ := I.hok p _ hk
          exact ⟨o, e, ex⟩
      obtain ⟨o, e, ex⟩ := z
      refine ⟨⟨o, e, ex.1⟩, fun a e2 => ?_⟩
      cases e2
      exact ⟨o, e, ex.2.1⟩
    · obtain ⟨o, _, _, _, e, ex, _⟩ := I.hok p _ hk
      refine ⟨⟨o, e, ex.1⟩, fun a e2 => ?_⟩
      cases e2
      exact ⟨o, e, ex.2.1⟩
  | _ => exact False.elim ty
def tBM0 (K : PySem.W.Frag) (T : String) (r : V → List V → Hp → VK → Prop) (to : TE) : TE := fun σ H Q => to σ H fun x H1 => tyV K T x H1 ∧ r x [] H1 Q
def tBM (K : PySem.W.Frag) (T : String) (r : V → List V → Hp → VK → Prop) (to : TE) (t : TA) : TE := fun σ H Q => to σ H fun x H1 => tyV K T x H1 ∧ t σ H1 fun xs H2 => r x xs H2 Q
variable {o e : Expr} {es : List Expr} {to : TE} {t : TA} {name : Str} {apos cpos : Pos} {T id : String} {r : V → List V → Hp → VK → Prop}
theorem pe_bm0 (pa : PlainAttrs T) (slot : Slot T name id) (hty : typeOf (.builtin id) = pure (.type "method_descriptor")) (hm : MtR X id r) (ho : PE X o to)
    (hbase : attributeBase o name X.env (eval o X.env) = eval o X.env := by rfl) (hline : (apos.endLine == cpos.line) = true := by rfl) : PE X (.Call (.Attribute o name apos) [] [] cpos) (tBM0 X.K T r to) := by
  intro pins s σ H Q I h
  refine wpAny_Call_method0_late hbase hline (thn (ho pins s σ H _ I h) fun v s1 ⟨x, H1, I1, r1, ty, q1⟩ => ?_)
  obtain ⟨h1, h2⟩ := tyV_is I1 r1 ty
  exact ⟨T, id, pa, slot, hty, h1, h2, Calls.callWith_builtin rfl (PySem.evalArgs_none (hm pins s1 σ H1 x [] v [] Q I1 r1 .nil q1))⟩
theorem pe_bm (pa : PlainAttrs T) (slot : Slot T name id) (hty : typeOf (.builtin id) = pure (.type "method_descriptor")) (hm : MtR X id r) (ho : PE X o to) (ha : PA X (e :: es) t)
    (hbase : attributeBase o name X.env (eval o X.env) = eval o X.env := by rfl)
    (hfew : ((backTo cpos (starEach (e :: es) X.env)).all (fun x => !x.1) && (backToKw cpos (keywordEach [] X.env)).all (fun x => x.1.isSome)
      && decide ((e :: es).length + ([] : List Keyword).length + (if ([] : List Keyword).isEmpty then 0 else 1) < 30)) = true := by rfl)
    (hline : (apos.endLine == cpos.line) = true := by rfl) (hs : starEach (e :: es) X.env = (false, eval e X.env) :: starEach es X.env := by rfl) (hplain : (backTo cpos (starEach es X.env)).any (·.1) = false := by rfl) :
    PE X (.Call (.Attribute o name apos) (e :: es) [] cpos) (tBM X.K T r to t) := by
  intro pins s σ H Q I h
  refine wpAny_Call_method_late hbase hfew hline rfl (thn (ho pins s σ H _ I h) fun v s1 ⟨x, H1, I1, r1, ty, q1⟩ => ?_)
  obtain ⟨h1, h2⟩ := tyV_is I1 r1 ty
  refine ⟨T, id, pa, slot, hty, h1, h2, ?_⟩
  have hA := ha cpos pins s1 σ H1 _ I1 q1
  rw [hs] at hA ⊢
  refine Calls.callWith_builtin (by show (false || (backTo cpos (starEach es X.env)).any (·.1)) = false; rw [hplain] <;> rfl) (Calls.evalArgs_plain ?_)
  exact thn hA fun us s2 ⟨vs, H2, I2, r2, q2⟩ => hm pins s2 σ H2 x vs v us Q I2 r1 r2 q2
end
end L2
namespace L2
open PySem PySem.Spec PyProof.Rows
def MtM (X : Cx) (id : String) (r : V → List V → Hp → VK → Prop) : Prop :=
  ∀ (pins : List (Addr × Obj)) (s : Shared) (σ : St) (H : Hp) (x : V) (xs : List V) (v : Value) (us : List Value) (Q : VK), Inv X pins σ H s → RelV x v → Vals xs us → r x xs H Q →
    wpAny (model X.prog X.w) X.A (call (.builtin id) (v :: us)) (EP X pins σ Q) X.xe s
theorem Vals.one : ∀ {x : V} {us : List Value}, Vals [x] us → ∃ u, us = [u] ∧ RelV x u
  | _, _, .cons r .nil => ⟨_, rfl, r⟩
theorem Vals.two : ∀ {x y : V} {us : List Value}, Vals [x, y] us → ∃ u v, us = [u, v] ∧ RelV x u ∧ RelV y v
  | _, _, _, .cons r (.cons q .nil) => ⟨_, _, rfl, r, q⟩
theorem Vals.zero : ∀ {us : List Value}, Vals [] us → us = []
  | _, .nil => rfl
theorem Vals.dropLast {xs : List V} {us : List Value} (h : Vals xs us) : Vals xs.dropLast us.dropLast := by
  induction h with
  | nil => exact .nil
  | cons r t ih =>
    cases t with
    | nil => exact .nil
    | cons q t' => exact .cons r ih
theorem Vals.eraseIdx : ∀ {xs : List V} {us : List Value} (i : Nat), Vals xs us → Vals (xs.eraseIdx i) (us.eraseIdx i)
  | _, _, _, .nil => .nil
  | _, _, 0, .cons _ t => t
  | _, _, i + 1, .cons r t => .cons r (Vals.eraseIdx i t)
theorem Vals.reverse {xs : List V} {us : List Value} (h : Vals xs us) : Vals xs.reverse us.reverse := by
  induction h with
  | nil => exact .nil
  | cons r t ih => rw [List.reverse_cons, List.reverse_cons]; exact Vals.append ih (.cons r .nil)
theorem Vals.rep {xs : List V} {us : List Value} (h : Vals xs us) : ∀ k : Nat, Vals (List.replicate k xs).flatten (List.replicate k us).flatten
  | 0 => .nil
  | k + 1 => by
    rw [List.replicate_succ, List.replicate_succ, List.flatten_cons, List.flatten_cons]
    exact Vals.append h (Vals.rep h k)
theorem erase_last {α : Type} (l : List α) : l.eraseIdx (l.length - 1) = l.dropLast := by
  induction l with
  | nil => rfl
  | cons a r ih =>
    cases r with
    | nil => rfl
    | cons b r =>
      have e : (a :: b :: r).length - 1 = ((b :: r).length - 1) + 1 := by
        have h1 : (a :: b :: r).length = r.length + 2 := rfl
        have h2 : (b :: r).length = r.length + 1 := rfl
        omega
      rw [e, List.eraseIdx_cons_succ, ih]
      all_goals rfl
theorem foldl_rep (its : List Value) : ∀ (k : Nat) (acc : List Value),
    List.foldl (fun x1 x2 => x1 ++ x2) acc.toArray (List.replicate k its.toArray) = (acc ++ (List.replicate k its).flatten).toArray
  | 0, acc => by simp
  | k + 1, acc => by
    have e : acc.toArray ++ its.toArray = (acc ++ its).toArray := by simp
    have e2 : (acc ++ its) ++ (List.replicate k its).flatten = acc ++ (List.replicate (k + 1) its).flatten := by
      rw [List.replicate_succ, List.flatten_cons, List.append_assoc]
    rw [← e2, ← foldl_rep its k (acc ++ its), ← e, List.replicate_succ, List.foldl_cons]
section
variable {X : Cx} {pins : List (Addr × Obj)} {σ : St} {H : Hp} {s : Shared} {l b : Addr} {xs ys zs : List V}
theorem Inv.lset {its its' : List Value} {n : Nat} {f : Array Value → Array Value} {t' : Nat} (I : Inv X pins σ H s) (hH : H l = some (.lst xs))
    (e : s.heap.get? l = some { cls := .type "list", data := .seq its.toArray n }) (hf : f its.toArray = its'.toArray) (hv : Vals ys its') (hz : ys.length ≤ sizeLine) :
    Inv X pins σ (upd H l (.lst ys)) { s with heap := s.heap.update l (Obj.mapSeq f), toks := t' } := by
  have q := PySem.IsL.update e f
  rw [hf] at q
  refine I.write (x := l) (e := l) (by rw [hH]; exact trivial) (.inl rfl) (fun b' u hb hu => (Heap.get?_update_other s.heap (Obj.mapSeq f) (Ne.symm hb)).trans hu) ⟨_, q⟩ ?_
  exact ⟨hz, its', _, hv, q⟩
theorem Inv.lnew {its : List Value} {t' : Nat} (I : Inv X pins σ H s) (hv : Vals ys its) (hz : ys.length ≤ sizeLine) :
    Inv X pins σ (upd H s.heap.objs.size (.lst ys)) { s with heap := s.heap.push { cls := .type "list", data := .seq its.toArray }, toks := t' } :=
  I.laid (fun _ _ q => Heap.get?_push_of_some _ q) (Nat.le_refl _) ⟨hz, its, 0, hv, Heap.get?_push_size _ rfl⟩
theorem Inv.fresh (I : Inv X pins σ H s) : H s.heap.objs.size = none := I.hok.fresh (Nat.le_refl _)
theorem Inv.lstM (I : Inv X pins σ H s) (hH : H l = some (.lst xs)) : xs.length ≤ sizeLine ∧ ∃ (its : List Value) (n : Nat), Vals xs its ∧ xs.length = its.length ∧ s.heap.get? l = some { cls := .type "list", data := .seq its.toArray n } := by
  obtain ⟨z, its, n, r, e⟩ := I.hok l _ hH
  exact ⟨z, its, n, r, r.length, e⟩
theorem notLongL {n : Nat} (h : n ≤ sizeLine) : Builtin.List.listTooLong n = false := by
  unfold Builtin.List.listTooLong
  exact decide_eq_false (by omega)
end
section
variable {X : Cx}
def rAppend : V → List V → Hp → VK → Prop := fun x vs H Q => ∃ l xs y, x = .ref l ∧ vs = [y] ∧ H l = some (.lst xs) ∧ xs.length < sizeLine ∧ Q .non (upd H l (.lst (xs ++ [y])))
theorem mt_append : MtM X "list.append" rAppend := by
  intro pins s σ H x vs v us Q I rx rv h
  obtain ⟨l, xs, y, rfl, rfl, hH, hz, q⟩ := h
  cases rx
  obtain ⟨u, rfl, ru⟩ := rv.one
  obtain ⟨z, its, n, r, hl, e⟩ := I.lstM hH
  refine call_meets F.slot_list_append ⟨_, e, rfl⟩ F.entry_list_append (F.args_list_append_2 _ _) (PySem.list_append l its.toArray n u (by rw [List.size_toArray]; omega)) ⟨e, ?_⟩
  refine ⟨.non, _, I.lset (its' := its ++ [u]) hH e (by simp) (r.append (.cons ru .nil)) ?_, rfl, q⟩
  rw [List.length_append, List.length_singleton]
  omega
def rPop : V → List V → Hp → VK → Prop := fun x vs H Q => ∃ l xs y, x = .ref l ∧ vs = [] ∧ H l = some (.lst xs) ∧ xs[xs.length - 1]? = some y ∧ Q y (upd H l (.lst xs.dropLast))
theorem mt_pop : MtM X "list.pop" rPop := by
  intro pins s σ H x vs v us Q I rx rv h
  obtain ⟨l, xs, y, rfl, rfl, hH, hy, q⟩ := h
  cases rx
  have hus := rv.zero
  subst hus
  obtain ⟨z, its, n, r, hl, e⟩ := I.lstM hH
  obtain ⟨u, hu, ru⟩ := r.get hy
  have hy' : its.toArray[its.toArray.size - 1]? = some u := by
    show its.toArray[its.length - 1]? = some u
    rw [← Array.getElem?_toList, ← hl]
    exact hu
  refine call_meets F.slot_list_pop ⟨_, e, rfl⟩ F.entry_list_pop (F.args_list_pop_1 _) (MeetsSeq.list_pop_last l its.toArray n u hy' (by rw [List.size_toArray]; omega)) ⟨e, ?_⟩
  refine ⟨y, _, I.lset (its' := its.dropLast) hH e ?_ r.dropLast ?_, ru, q⟩
  · show its.toArray.eraseIdxIfInBounds (its.toArray.size - 1) = its.dropLast.toArray
    rw [List.size_toArray, List.eraseIdxIfInBounds_toArray, erase_last]
  · rw [List.length_dropLast]
    omega
def rRep : R2 := fun x y H Q => ∃ l k xs, x = .ref l ∧ y = .int k ∧ H l = some (.lst xs) ∧ -(2 ^ 63) ≤ k ∧ k < 2 ^ 63 ∧ xs.length * k.toNat ≤ sizeLine ∧
  ∀ p, H p = none → Q (.ref p) (upd H p (.lst (List.replicate k.toNat xs).flatten))
theorem len_rep {α : Type} (xs : List α) (k : Nat) : (List.replicate k xs).flatten.length = k * xs.length := by
  induction k with
  | zero => simp
  | succ k ih => rw [List.replicate_succ, List.flatten_cons, List.length_append, ih, Nat.succ_mul, Nat.add_comm]
theorem op_rep : OpR X (binaryOp .Mult) rRep := by
  intro pins s σ H x y v u Q I rx ry h
  obtain ⟨l, k, xs, rfl, rfl, hH, h1, h2, hz, q⟩ := h
  cases rx
  obtain ⟨t, rfl⟩ := ry
  obtain ⟨z, its, n, r, hl, e⟩ := I.lstM hH
  have hlen : its.toArray.size * k.toNat ≤ sizeLine := by rw [List.size_toArray, ← hl]; exact hz
  have hcap : ¬ its.toArray.size * k.toNat > (2 ^ 63 - 1) / 8 := by
    have : (sizeLine : Nat) ≤ (2 ^ 63 - 1) / 8 := by decide
    omega
  have hfit : ¬ (!Builtin.List.listFitsIndex k) = true := by
    rw [fitsIndex_both h1 h2]
    exact Bool.false_ne_true
  have hlong : ¬ Builtin.List.listTooLong (its.toArray.size * k.toNat) = true := by
    rw [notLongL hlen]
    exact Bool.false_ne_true
  have hnew : List.foldl (fun x1 x2 => x1 ++ x2) #[] (List.replicate (if its.toArray.isEmpty = true then 0 else k.toNat) its.toArray) = (List.replicate k.toNat its).flatten.toArray := by
    have f0 : ∀ m : Nat, List.foldl (fun x1 x2 => x1 ++ x2) #[] (List.replicate m its.toArray) = (List.replicate m its).flatten.toArray := fun m => by
      have := foldl_rep its m []
      rw [List.nil_append] at this
      exact this
    rw [f0]
    cases its with
    | nil => simp
    | cons a r' => rw [if_neg (by simp)]
  refine wpAny_binaryOp_repeat_ref (T := "list") (U := "int") (by decide) ⟨_, e, rfl⟩ (fun s' => typeIs_int s' k t) noFill_list_mul F.fills_int_mul F.slot_int_rmul repeat_list F.slot_int_index.lookup
    (call_meets F.slot_int_rmul (typeIs_int s k t) F.entry_int_rmul (F.args_int_rmul_2 _ _) (int___rmul___int_list k t l its.toArray n)
      ⟨e, rfl, ⟨_, e, rfl⟩, call_meets F.slot_list_mul ⟨_, e, rfl⟩ F.entry_list_mul (F.args_list_mul_2 _ _) (AutoListH.list___mul___list_int_3 l its.toArray n k t hfit hcap hlong) ⟨e, ?_⟩⟩)
  rw [hnew]
  exact ⟨.ref _, _, I.lnew (t' := s.toks) (r.rep k.toNat) (by rw [len_rep, Nat.mul_comm]; exact hz), rfl, q _ I.fresh⟩
end
section
variable {prog : Program} {w : World} {A : Around} {E : Value → Shared → Prop} {s : Shared}
set_option maxRecDepth 100000 in
end
section
variable {X : Cx}
end
end L2
namespace Att
open PySem PySem.W PySem.Calls PyProof.Rows
theorem ints_of_wellAll {P : Params} {h : Heap} : ∀ (ns : List Int) (vs : List Value), WellAll P h vs (ns.map WData.int) → IntsAre vs ns := by
  intro ns
  induction ns with
  | nil =>
    intro vs w
    rw [List.map_nil] at w
    cases w
    exact .nil
  | cons n ns ih =>
    intro vs w
    rw [List.map_cons] at w
    cases w with
    | cons a b =>
      cases a
      exact .cons _ _ (ih _ b)
theorem script_of {l : OpenLaw} {n : Nat} (hn : l.most = some n) {P : Params} {h : Heap} {args : List WData} {vals : List Value}
    (hpre : l.row.toRowW.claim.pre args = true) (hwl : WellAll P h vals args) :
    ∃ a vs ns, vals = [Value.ref a] ∧ args = [WData.list (ns.map WData.int)] ∧ h.get? a = some { cls := .type "list", data := .seq vs.toArray } ∧ IntsAre vs ns ∧ ns.length ≤ n := by
  have hsh : WShape.hasAll [] args [.list .int] = true := (pre_splitW hpre).1
  have hc : l.pre.holds [] { args := args } = true := (pre_splitW hpre).2
  obtain ⟨d, r, rfl, h1, h2⟩ := hasAllW_cons hsh
  obtain rfl := hasAllW_nil h2
  obtain ⟨xs, rfl, h3⟩ := hasW_list h1
  obtain ⟨ns, rfl⟩ := items_int h3
  have hlen : ns.length ≤ n := by
    unfold OpenLaw.pre at hc
    have h4 : (WTm.not (.lt (.lit (.int (n : Int))) (.len (.arg 0)))).holds [] { args := [.list (ns.map .int)] } = true := by
      have h4 := (holds_andW hc).1
      rw [hn] at h4
      exact h4
    have h5 := condW_of h4 (w_not (w_lt w_lit (w_len_list (w_arg rfl))))
    rw [List.length_map] at h5
    refine Nat.le_of_not_lt fun q => ?_
    have q' : (n : Int) < ((ns.length : Nat) : Int) := by omega
    first
      | (rw [decide_eq_true q'] at h5; exact absurd h5 (by decide))
      | (simp at h5; omega)
  cases hwl with
  | cons w1 w2 =>
    cases w2
    cases w1 with
    | list ho hall => exact ⟨_, _, ns, rfl, rfl, ho, ints_of_wellAll ns _ hall, hlen⟩
theorem post_true (l : OpenLaw) (args : List WData) : l.row.toRowW.claim.post args (.bool true) args = true :=
  postW_of (r := l.row.toRowW) (X := (true == true))
    (show WShape.has [] (.bool true) .bool = true by first | rfl | decide | simp [WShape.has, WShape.arms, WShape.armsAll])
    (show (WTm.eq .res (.lit (.bool true))).value [] { args := args, res := some (.bool true), after := args } = some (.bool (true == true)) from w_eq_bool (w_res rfl) w_lit) rfl
section
variable {prog : Program} {w : World} {A : Around} {E : Value → Shared → Prop} {s : Shared} {K : Frag}
end
end Att
namespace L2
open PySem PySem.Spec PyProof.Rows
theorem vals_ints : ∀ {vs : List Value} {ns : List Int}, IntsAre vs ns → Vals (ns.map V.int) vs
  | _, _, .nil => .nil
  | _, _, .cons n t h => .cons ⟨t, rfl⟩ (vals_ints h)
def Only (H : Hp) : Prop := ∀ b, H b = none ∨ ∃ o xs, H b = some (.frz o (.lst xs))
theorem law_call {P : Program} {w : World} {K : PySem.W.Frag} {mg mb : Str → Option Value} {CX : CXT} {k : Nat} {fa a : Addr} {fd : FuncData} {x : Str} {sp : Sp} {s₁ : Shared} {vs : List Value} {ns : List Int}
    (KX : K.In s₁.heap) (hns : s₁.heap.Ns mainGlobals mg) (hb : s₁.heap.Ns builtinsNs mb) (hbb : ∀ x : Str, x ≠ "__name__" → mb x = bootBuiltins x) (hlim : s₁.heap.NoLimit) (hg : s₁.gens = #[])
    (ha : s₁.heap.get? a = some { cls := .type "list", data := .seq vs.toArray }) (hi : IntsAre vs ns) (hl : ns.length ≤ sizeLine) (hr : Room k callerA)
    (F : ∀ base : Heap, K.In base → base.Ns mainGlobals mg → FnOk P w K mg base CX k fa fd [x] sp) (hbind : ∀ (s : Shared) (u : Value), BindsTo s fd ⟨[u], []⟩ [(x, u)])
    (hsp : ∀ H : Hp, Only H → SqL K H a (ns.map V.int) → sp [.ref a] H (fun v _ => v = .bl true) fun _ _ _ => False)
    (hCX : ∀ H e s', CX [] H s₁ (fun _ _ _ => False) e s' → False) :
    codeAny (model P w) callerA (.call (.ref fa) ⟨[.ref a], []⟩) (fun r s' => r = .ok (.ret (.bool true)) ∧ OldK s₁.heap s'.heap ∧ s'.os = s₁.os ∧ AllBare s'.gens) s₁ := by
  have rv := vals_ints hi
  have lenV := hi.length
  have core : ∀ H : Hp, Only H → SqL K H a (ns.map V.int) → HOk P w H s₁.heap → (∀ b, H b ≠ none → b = a) → (H a ≠ none → K.lookup a = none) →
      codeAny (model P w) callerA (.call (.ref fa) ⟨[.ref a], []⟩) (fun r s' => r = .ok (.ret (.bool true)) ∧ OldK s₁.heap s'.heap ∧ s'.os = s₁.os ∧ AllBare s'.gens) s₁ := by
    intro H hO hS hok hA hK
    have base_of : ∀ {b : Addr} {o : Obj}, s₁.heap.get? b = some o → H b = none → (hidT s₁.heap H).get? b = some o := fun e n => hidT_get e n
    have noA : ∀ {b : Addr} {o : Obj} {es : Array DictEntry} {ep : Nat}, s₁.heap.get? b = some o → o.data = .dict es ep → H b = none := fun {b o es ep} e d => by
      cases q : H b with
      | none => rfl
      | some u =>
        have e' : b = a := hA b (by rw [q]; simp)
        subst e'
        rw [ha] at e; cases e
        have d' : Data.seq vs.toArray _ = Data.dict es ep := d
        cases d'
    have nsK : ∀ {b : Addr} {m : Str → Option Value}, s₁.heap.Ns b m → (hidT s₁.heap H).Ns b m := fun {b m} ⟨o, es, ep, e, d, r⟩ => ⟨o, es, ep, base_of e (noA e d), d, r⟩
    have hKb : K.In (hidT s₁.heap H) := fun b o e => base_of (KX b o e) (by
      cases q : H b with
      | none => rfl
      | some u =>
        have e' : b = a := hA b (by rw [q]; simp)
        subst e'
        rw [hK (by rw [q]; simp)] at e; cases e)
    have hM : Mod K mg (hidT s₁.heap H) := ⟨hKb, nsK hns, ⟨mb, nsK hb, hbb⟩, let ⟨mc, h1, h2⟩ := hlim; ⟨mc, nsK h1, h2⟩⟩
    have e0 : Env0 P w K mg (hidT s₁.heap H) callerA [] s₁ H := ⟨rfl, hM, fun b o e => of_hidT e, Nat.le_of_eq (hidT_size _ _), trivial, fun b hb => absurd (show b ∈ ([] : List Addr) from hb) (by simp), hok, .of_eq hg⟩
    refine codeAny_mono ((F _ hKb (nsK hns)).run callerA [] s₁ H ⟨[.ref a], []⟩ [.ref a] [.ref a] _ _ hr e0 (hbind s₁ (.ref a)) (.cons rfl .nil) (hsp H hO hS)) fun r s' h => ?_
    cases r with
    | error e => exact (hCX H e s' h).elim
    | ok fl =>
      cases fl with
      | next => exact False.elim h
      | brk => exact False.elim h
      | cont => exact False.elim h
      | ret u =>
        obtain ⟨v, H', os, bare, un, hok', r', q⟩ := h
        have q' : v = .bl true := q
        subst q'
        obtain rfl : u = Value.bool true := r'
        refine ⟨rfl, OldK.of_keep fun b o e => ?_, os, bare⟩
        cases q : H b with
        | none => exact un.keep b o e q (by intro z; exact absurd (show b ∈ ([] : List Addr) from z) (by simp)) (by simp)
        | some u =>
          rcases hO b with z | ⟨ob, xs, z⟩
          · rw [q] at z; cases z
          · have z2 := un.frzs b ob _ z
            obtain ⟨e1, _⟩ := hok b _ z
            obtain ⟨e2, _⟩ := hok' b _ z2
            rw [e] at e1; cases e1
            exact e2
  cases hk : K.lookup a with
  | some o =>
    have e := KX a o hk
    rw [ha] at e
    cases e
    refine core (fun _ => none) (fun _ => .inl rfl) (.inr ⟨_, vs.toArray, _, hk, rfl, rfl, rfl, by rw [List.size_toArray, lenV]; exact hl, by simpa using rv⟩) (fun b u z => by have z' : (none : Option HO) = some u := z; cases z') (fun b z => absurd rfl z) fun z => absurd rfl z
  | none =>
    refine core (fun b => if b = a then some (.frz { cls := .type "list", data := .seq vs.toArray } (.lst (ns.map V.int))) else none) (fun b => ?_) (.inl (.inr ⟨{ cls := .type "list", data := .seq vs.toArray }, if_pos rfl⟩)) (fun b u z => ?_) (fun b z => ?_) fun _ => hk
    · by_cases hb : b = a
      · exact .inr ⟨_, _, if_pos hb⟩
      · exact .inl (if_neg hb)
    · by_cases hb : b = a
      · have z' := (if_pos hb).symm.trans z
        cases z'
        subst hb
        exact ⟨ha, by rw [List.length_map]; exact hl, vs, _, rv, ha⟩
      · have z' := (if_neg hb).symm.trans z
        cases z'
    · by_cases hb : b = a
      · exact hb
      · exact absurd (if_neg hb) z
end L2
namespace L2
open PySem PySem.Spec PyProof.Rows
abbrev KOf {K : PySem.W.Frag} {h : Heap} (_ : K.In h) : PySem.W.Frag := K
end L2
namespace L2
open PySem PySem.Spec PyProof.Rows
def defArgs (s : Stmt) : Arguments := match s with
  | .FunctionDef _ a _ _ _ _ _ _ _ _ => a
  | _ => { posonlyargs := [], args := [], vararg := none, kwonlyargs := [], kw_defaults := [], kwarg := none, defaults := [] }
def defBody (s : Stmt) : List Stmt := match s with
  | .FunctionDef _ _ b _ _ _ _ _ _ _ => b
  | _ => []
def defScope (s : Stmt) : Scope := match s with
  | .FunctionDef _ _ _ _ _ _ sc _ _ _ => sc
  | _ => { kind := .function, names := [], isGenerator := false, isCoroutine := false }
abbrev CX0 : CXT := fun _ _ _ _ _ _ => False
abbrev E0 : XK := fun _ _ _ => False
theorem pass0 {X : Cx} : Passes CX0 X E0 := fun _ _ _ _ _ _ _ h => h.elim
structure Fun (K : PySem.W.Frag) (x qual : Str) (st : Stmt) (f : Addr) (fd : FuncData) : Prop where
  ex : ∃ (oc : Value) (od : Option Addr) (kV doc pm : Value) (an : Option Addr) (cdv ct : Value) (osl : Array (Option Value)),
    fd = PySem.W.fnOf x qual (defArgs st) (defBody st) (defScope st) .none kV doc pm an cdv ct ∧ K.lookup f = some ⟨oc, od, .func fd, osl⟩ ∧ PySem.W.codeIn K cdv qual = true
  kp : PySem.W.keepIn K (.ref f) = true
section
variable {P : Program} {w : World} {K : PySem.W.Frag} {mg : Str → Option Value} {base : Heap}
theorem Fun.ok {x qual : Str} {st : Stmt} {f : Addr} {fd : FuncData} {N ps : List Str} {k : Nat} {sp : Sp} (F : Fun K x qual st f fd) (S : FnScope N ps (defScope st)) (len : ∀ vs H Q E, sp vs H Q E → vs.length = ps.length)
    (hbody : ∀ (cdv : Value) (A : Around) (outer : List Env) (s : Shared) (H : Hp) (vs : List V) (Q : VK) (E : XK), Room k (A.deeper (envOfC qual (defScope st) s.heap.objs.size f cdv)) → sp vs H Q E →
      ∃ t, PSs (cxOf CX0 P w K mg base N qual (defScope st) f cdv A outer s H E).nox (defBody st) t ∧ t { nx := fun _ H' => Q .non H', rt := Q } (start N vs) H) : FnOk P w K mg base CX0 (k + 1) f fd ps sp := by
  obtain ⟨oc, od, kV, doc, pm, an, cdv, ct, osl, rfl, lk, hcd⟩ := F.ex
  refine fn_of lk hcd S len fun A outer s H vs Q E hr hsp => ?_
  obtain ⟨t, h, q⟩ := hbody cdv A outer s H vs Q E hr hsp
  exact ⟨t, h.nox, q⟩
theorem Fun.binds {x qual : Str} {st : Stmt} {f : Addr} {fd : FuncData} {ps : List Str} (F : Fun K x qual st f fd)
    (h : ∀ (kV doc pm : Value) (an : Option Addr) (cdv ct : Value) (us : List Value), us.length = ps.length → bindArgs (PySem.W.fnOf x qual (defArgs st) (defBody st) (defScope st) .none kV doc pm an cdv ct) ⟨us, []⟩ = pure (ps.zip us)) : Binds K fd ps [] := by
  obtain ⟨oc, od, kV, doc, pm, an, cdv, ct, osl, rfl, lk, hcd⟩ := F.ex
  exact .all (h kV doc pm an cdv ct)
theorem fun_mk {x qual : Str} {st : Stmt} {f : Addr} {oc : Value} {od an : Option Addr} {osl : Array (Option Value)} {kV doc pm cdv ct : Value} (l : K.lookup f = some ⟨oc, od, .func (PySem.W.fnOf x qual (defArgs st) (defBody st) (defScope st) .none kV doc pm an cdv ct), osl⟩)
    (c : PySem.W.codeIn K cdv qual = true) (k : PySem.W.keepIn K (.ref f) = true) : Fun K x qual st f (PySem.W.fnOf x qual (defArgs st) (defBody st) (defScope st) .none kV doc pm an cdv ct) := ⟨⟨oc, od, kV, doc, pm, an, cdv, ct, osl, rfl, l, c⟩, k⟩
end
section
variable {X : Cx}
theorem pv (i : Nat) {x : Str} {pos : Pos} (hN : X.N[i]? = some x := by rfl) (hv : Vis X.env.scope x := by first | exact Or.inl rfl | exact Or.inr (Or.inl rfl) | exact Or.inr (Or.inr rfl)) (hd : (x == ("__debug__" : Str)) = false := by decide)
    (hcd : (x == ("__classdict__" : Str)) = false := by decide) : PE X (.Name x pos) (tVar i) := pe_var hN hv hd hcd
end
def Same (H H' : Hp) : Prop := ∀ b o, H b = some o → H' b = some o
theorem Same.refl (H : Hp) : Same H H := fun _ _ h => h
theorem Same.trans {H H1 H2 : Hp} (a : Same H H1) (b : Same H1 H2) : Same H H2 := fun c o h => b c o (a c o h)
theorem Same.free {H H' : Hp} (e : Same H H') {l : Addr} (h : H' l = Option.none) : H l = Option.none := by
  cases q : H l with
  | none => rfl
  | some o =>
    rw [e l o q] at h
    cases h
theorem Same.seq {K : PySem.W.Frag} {H H' : Hp} {a : Addr} {xs : List V} (e : Same H H') (h : SqL K H a xs) : SqL K H' a xs := by
  rcases h with (h | ⟨o, h⟩) | h
  · exact .inl (.inl (e _ _ h))
  · exact .inl (.inr ⟨o, e _ _ h⟩)
  · exact .inr h
end L2
set_option Elab.async false
set_option linter.all false
set_option maxRecDepth 100000
namespace L2
open PySem PySem.Spec PyProof.Rows
theorem Inv.track {X : Cx} {pins : List (Addr × Obj)} {σ : St} {H : Hp} {s : Shared} {D : Addr} {o : HO} (I : Inv X pins σ H s) (hn : H D = none) (hD : X.s₀.heap.objs.size ≤ D) (hL : D ≠ X.env.locals)
    (hc : ∀ x c, X.env.cells.lookup x = some c → c ≠ D) (hp : ∀ p ∈ X.pn ++ pins, p.1 ≠ D) (new : ObjOk X.prog X.w (upd H D o) s.heap D o) : Inv X pins σ (upd H D o) s := by
  have ne : ∀ b u, H b = some u → b ≠ D := fun b u e => ne_of_none e hn
  refine ⟨I.ok, I.os, I.bare, ⟨I.base.keep, I.base.slot, fun b ob e n hx => ?_, I.base.there, fun b xs e => ?_, fun b ob u e => ?_, fun b ps e => ?_⟩, I.loc, I.cell, ?_, fun x c e => ?_, fun p q => ?_, fun b u e => ?_, I.len⟩
  · have : b ≠ D := Nat.ne_of_lt (Nat.lt_of_lt_of_le (Heap.lt_size e) hD)
    rw [upd_ne this]; exact I.base.free b ob e n hx
  · have z := I.base.tups b xs e
    rw [upd_ne (ne _ _ z)]; exact z
  · have z := I.base.frzs b ob u e
    rw [upd_ne (ne _ _ z)]; exact z
  · obtain ⟨more, z⟩ := I.base.tbls b ps e
    exact ⟨more, by rw [upd_ne (ne _ _ z)]; exact z⟩
  · rw [upd_ne (Ne.symm hL)]; exact I.free
  · rw [upd_ne (hc x c e)]; exact I.freeC x c e
  · obtain ⟨h1, h2, h3⟩ := I.pin p q
    exact ⟨h1, by rw [upd_ne (hp p q)]; exact h2, h3⟩
  · by_cases hb : b = D
    · subst hb; rw [upd_same] at e; cases e; exact new
    · rw [upd_ne hb] at e
      exact (I.hok b u e).stay (fun _ _ _ q => q) (fun c q => by rw [upd_ne (ne _ _ q)]; exact q) fun c xs q => by rw [upd_ne (ne _ _ q)]; exact q
def cloOf (cells : List (Str × Addr)) : List (Str × NameKind) → List (Str × Addr) → List (Str × Addr)
  | [], acc => acc
  | (n, k) :: r, acc => cloOf cells r (if (k == NameKind.free) = true then (n, (cells.lookup n).getD 0) :: acc else acc)
theorem clo_run {env : Env} : ∀ (names : List (Str × NameKind)) (acc : List (Str × Addr)), (∀ y ∈ names, y.2 = .free → ∃ c, env.cells.lookup y.1 = some c) →
    (forIn names acc fun (x : Str × NameKind) (r : List (Str × Addr)) => (if (x.2 == NameKind.free) = true then do
        let c ← cellOf env x.1
        pure (ForInStep.yield ((x.1, c) :: r)) else pure (ForInStep.yield r) : Sem (ForInStep (List (Str × Addr))))) = pure (cloOf env.cells names acc)
  | [], acc, _ => rfl
  | (n, k) :: r, acc, h => by
    have ih := fun acc' => clo_run (env := env) r acc' fun y hy => h y (List.mem_cons_of_mem _ hy)
    rw [List.forIn_cons]
    by_cases hk : k = .free
    · subst hk
      obtain ⟨c, hc⟩ := h (n, .free) List.mem_cons_self rfl
      have hc' : env.cells.lookup n = some c := hc
      have e : cellOf env n = pure c := by
        unfold cellOf
        rw [hc']
      show (if (NameKind.free == NameKind.free) = true then _ else _) >>= _ = _
      rw [if_pos (by decide), e]
      simp only [pure_bind]
      rw [ih]
      simp only [cloOf, hc', Option.getD_some]
      rfl
    · have hb : (k == NameKind.free) = false := by simpa using hk
      show (if (k == NameKind.free) = true then _ else _) >>= _ = _
      rw [hb, if_neg Bool.false_ne_true]
      simp only [pure_bind]
      rw [ih]
      simp only [cloOf, hb, Bool.false_eq_true, if_false]
theorem clo_eq {scope : Scope} {env : Env} (h : ∀ y ∈ scope.names, y.2 = .free → ∃ c, env.cells.lookup y.1 = some c) : closureFor scope env = pure (cloOf env.cells scope.names []) := by
  unfold closureFor
  have e := clo_run (env := env) scope.names [] h
  simp only [bind_pure]
  exact e
theorem clo_sub {cells : List (Str × Addr)} : ∀ (names : List (Str × NameKind)) (acc : List (Str × Addr)), (∀ y ∈ names, y.2 = .free → ∃ c, cells.lookup y.1 = some c) → (∀ y c, acc.lookup y = some c → cells.lookup y = some c) →
    ∀ y c, (cloOf cells names acc).lookup y = some c → cells.lookup y = some c
  | [], _, _, ha => ha
  | (n, k) :: r, acc, h, ha => by
    refine clo_sub r _ (fun y hy => h y (List.mem_cons_of_mem _ hy)) fun y c e => ?_
    by_cases hk : (k == NameKind.free) = true
    · rw [if_pos hk] at e
      obtain ⟨c', hc⟩ := h (n, k) List.mem_cons_self (by simpa using hk)
      have hc' : cells.lookup n = some c' := hc
      rw [hc', Option.getD_some] at e
      rw [List.lookup_cons] at e
      by_cases hy : (y == n) = true
      · rw [hy] at e
        have : y = n := by simpa using hy
        subst this
        rw [hc']; exact e
      · have hy' : (y == n) = false := by simpa using hy
        rw [hy'] at e
        exact ha y c e
    · rw [if_neg hk] at e
      exact ha y c e
theorem clo_has {cells : List (Str × Addr)} : ∀ (names : List (Str × NameKind)) (acc : List (Str × Addr)) (y : Str), ((y, NameKind.free) ∈ names ∨ ∃ c, acc.lookup y = some c) → ∃ c, (cloOf cells names acc).lookup y = some c
  | [], acc, y, h => by
    rcases h with h | h
    · cases h
    · exact h
  | (n, k) :: r, acc, y, h => by
    refine clo_has r _ y ?_
    rcases h with h | ⟨c, h⟩
    · rcases List.mem_cons.mp h with e | h
      · cases e
        refine .inr ⟨(cells.lookup n).getD 0, ?_⟩
        rw [if_pos (by decide), List.lookup_cons]
        simp
      · exact .inl h
    · refine .inr ?_
      split
      · rw [List.lookup_cons]
        cases y == n with
        | true => exact ⟨_, rfl⟩
        | false => exact ⟨c, h⟩
      · exact ⟨c, h⟩
theorem relabel_lookup (env : Env) : ∀ (names : List (Str × NameKind)) (y : Str),
    (names.map fun (n, k) => if (k == NameKind.free && env.scope.kind == .function && env.kindOf n == some .cell) then (n, NameKind.cell) else (n, k)).lookup y
      = (names.lookup y).map fun k => if (k == NameKind.free && env.scope.kind == .function && env.kindOf y == some .cell) = true then NameKind.cell else k
  | [], _ => rfl
  | (n, k) :: r, y => by
    have ih := relabel_lookup env r y
    show List.lookup y ((if (k == NameKind.free && env.scope.kind == .function && env.kindOf n == some .cell) = true then (n, NameKind.cell) else (n, k)) :: _) = _
    by_cases hy : (y == n) = true
    · have : y = n := by simpa using hy
      subst this
      by_cases hc : (k == NameKind.free && env.scope.kind == .function && env.kindOf y == some .cell) = true
      · rw [if_pos hc]; simp only [List.lookup_cons, hy, Option.map_some, hc, if_true]
      · rw [if_neg hc]; simp only [List.lookup_cons, hy, Option.map_some, hc]; simp
    · have hy' : (y == n) = false := by simpa using hy
      by_cases hc : (k == NameKind.free && env.scope.kind == .function && env.kindOf n == some .cell) = true
      · rw [if_pos hc]; simp only [List.lookup_cons, hy']; exact ih
      · rw [if_neg hc]; simp only [List.lookup_cons, hy']; exact ih
def cxComp (X : Cx) (scope : Scope) (N' : List Str) (s₂ : Shared) (H₂ : Hp) (C : Addr) (fp : List Addr) : Cx :=
  { X with N := N', s₀ := s₂, H₀ := H₂, env := compEnvC scope (cloOf X.env.cells scope.names []) C X.env, outer := X.stack, ex := fp, fn := fun _ => false, pn := [], xe := fun _ _ => False }
def compNs (x : Str) (fr : List (Str × Nat)) : List Str := x :: fr.map (·.1)
def compRest (σ : St) (fr : List (Str × Nat)) : St := fr.map fun p => σ.getD p.2 none
structure Blk (X : Cx) (scope : Scope) (x : Str) (fr : List (Str × Nat)) : Prop where
  nocell : (scope.names.all fun y => y.2 != .cell) = true
  kind : scope.kind = .function
  names : (scope.names.all fun y => y.2 != .local || scope.names.lookup y.1 == some .local) = true
  here : scope.names.lookup x = some .local
  free : (scope.names.all fun y => y.2 != .free || X.env.scope.names.lookup y.1 == some .cell) = true
  seen : (fr.all fun p => scope.names.lookup p.1 == some .free && X.N[p.2]? == some p.1) = true
  nd : (compNs x fr).Nodup
section
variable {X : Cx} {scope : Scope} {x : Str} {fr : List (Str × Nat)} {pins : List (Addr × Obj)} {σ : St} {H : Hp} {s : Shared}
theorem Blk.cell (B : Blk X scope x fr) : ∀ y ∈ scope.names, y.2 ≠ .cell := fun y hy => by
  have := List.all_eq_true.mp B.nocell y hy
  simpa using this
theorem Blk.loc (B : Blk X scope x fr) : ∀ y ∈ scope.names, y.2 = .local → scope.names.lookup y.1 = some .local := fun y hy e => by
  have := List.all_eq_true.mp B.names y hy
  rw [e] at this
  simpa using this
theorem Blk.frees (B : Blk X scope x fr) : ∀ y ∈ scope.names, y.2 = .free → X.env.kindOf y.1 = some .cell := fun y hy e => by
  have := List.all_eq_true.mp B.free y hy
  rw [e] at this
  have h : X.env.scope.names.lookup y.1 = some .cell := by simpa using this
  exact h
theorem Blk.clos (B : Blk X scope x fr) (ok : X.Ok) : ∀ y ∈ scope.names, y.2 = .free → ∃ c, X.env.cells.lookup y.1 = some c := fun y hy e => ok.has y.1 (.inl (B.frees y hy e))
theorem Blk.sub (B : Blk X scope x fr) (ok : X.Ok) : ∀ y c, (cloOf X.env.cells scope.names []).lookup y = some c → X.env.cells.lookup y = some c :=
  clo_sub scope.names [] (B.clos ok) fun y c e => by simp at e
theorem Blk.kinds (B : Blk X scope x fr) {y : Str} (h : (relabel scope X.env).names.lookup y = some .cell ∨ (relabel scope X.env).names.lookup y = some .free) : (y, NameKind.free) ∈ scope.names := by
  have e : (relabel scope X.env).names.lookup y = _ := relabel_lookup X.env scope.names y
  rw [e] at h
  cases q : scope.names.lookup y with
  | none => rw [q] at h; simp at h
  | some k =>
    have hm := PySem.mem_of_lookup q
    rw [q] at h
    have hk : k = .free := by
      by_cases hk : k = .free
      · exact hk
      · have hb : (k == NameKind.free) = false := by simpa using hk
        have hc : k ≠ .cell := B.cell _ hm
        rw [Option.map_some, hb, Bool.false_and, Bool.false_and, if_neg Bool.false_ne_true] at h
        rcases h with h | h
        · exact absurd (Option.some.inj h) hc
        · exact Option.some.inj h
    subst hk
    exact hm
theorem Blk.sees (B : Blk X scope x fr) (hk : X.env.scope.kind = .function) {y : Str} (h : scope.names.lookup y = some .free) : (relabel scope X.env).names.lookup y = some .cell := by
  have e : (relabel scope X.env).names.lookup y = _ := relabel_lookup X.env scope.names y
  rw [e, h]
  have h2 : X.env.kindOf y = some .cell := B.frees _ (PySem.mem_of_lookup h) rfl
  simp [hk, h2]
theorem inv_comp (I : Inv X pins σ H s) (B : Blk X scope x fr) {C : Addr} {fp : List Addr} {h₁ : Heap} {tk : Nat} {o : Option V} (hC : s.heap.objs.size ≤ C) (hfp : ∀ b ∈ fp, FpOk X pins H b) (hlt : ∀ b ∈ fp, b < s.heap.objs.size)
    (old : ∀ b ob, s.heap.get? b = some ob → h₁.get? b = some ob) (hns : h₁.Ns C fun _ => none) : Inv (cxComp X scope (compNs x fr) s H C fp) [] (none :: compRest σ fr) H { s with heap := h₁, toks := tk } := by
  have neC : ∀ b, b < s.heap.objs.size → b ≠ C := fun b hb => Nat.ne_of_lt (Nat.lt_of_lt_of_le hb hC)
  have cl : ∀ y c, X.env.cells.lookup y = some c → c < s.heap.objs.size := fun y c e => by
    obtain ⟨v, o, ho, _⟩ := I.cell y c e
    exact Heap.lt_size ho
  refine ⟨⟨I.ok.mod, B.kind, I.ok.glob, I.ok.blt, hC, fun y z c h1 h2 => I.ok.inj y z c (B.sub I.ok _ _ h1) (B.sub I.ok _ _ h2), fun y hy => clo_has _ _ _ (.inl (B.kinds hy)), fun y c h _ => (Bool.false_ne_true h).elim, I.ok.hd, I.ok.frames, .inl rfl,
    fun b hb => ⟨neC b (hlt b hb), fun y c e => (hfp b hb).2.2.2.2.1 y c (B.sub I.ok _ _ e)⟩, I.bs, Nat.le_trans I.ok.bsz I.sz, fun b ob e hb => ?_, fun b hb hs => ?_, I.stack, I.stkFree⟩,
    rfl, I.bare, Un.kept old, ⟨_, hns, fun i y v h1 h2 h3 => ?_⟩, fun y c e => ?_, I.hok.fresh hC, fun y c e => I.freeC y c (B.sub I.ok _ _ e), fun p hp => ?_, I.hok.kept old, ?_⟩
  · rcases (hfp b hb).2.2.2.1 with z | z
    · exact I.ok.noex b ob e z
    · have h1 : b < X.base.objs.size := Heap.lt_size e
      have h2 := I.ok.bsz
      exact absurd (Nat.lt_of_lt_of_le h1 h2) (Nat.not_lt.mpr z)
  · have z := I.stkSub b hs
    rcases List.mem_cons.mp z with z | z
    · exact (hfp b hb).2.1 z
    · exact (hfp b hb).2.2.1 z
  · cases i with
    | zero => simp at h2
    | succ i =>
      have h1' : (fr.map (·.1))[i]? = some y := by
        have z : (x :: fr.map (·.1))[i + 1]? = some y := h1
        rw [List.getElem?_cons_succ] at z
        exact z
      have h2' : (compRest σ fr)[i]? = some (some v) := by simpa using h2
      rw [List.getElem?_map] at h1'
      unfold compRest at h2'
      rw [List.getElem?_map] at h2'
      cases e : fr[i]? with
      | none => rw [e] at h1'; cases h1'
      | some p =>
        rw [e] at h1' h2'
        have e1 : p.1 = y := by simpa using h1'
        have e2 : σ.getD p.2 none = some v := by simpa using h2'
        have hs := List.all_eq_true.mp B.seen p (List.mem_of_getElem? e)
        rw [Bool.and_eq_true] at hs
        have hs1 : scope.names.lookup p.1 = some .free := by simpa using hs.1
        have hs2 : X.N[p.2]? = some p.1 := by simpa using hs.2
        rw [e1] at hs1 hs2
        have hk : X.env.kindOf y = some .cell := B.frees _ (PySem.mem_of_lookup hs1) rfl
        have e3 : σ[p.2]? = some (some v) := by
          rw [List.getD_eq_getElem?_getD] at e2
          cases q : σ[p.2]? with
          | none => rw [q] at e2; simp at e2
          | some z => rw [q] at e2; simp at e2; rw [e2]
        obtain ⟨m, hn, hl⟩ := I.loc
        obtain ⟨u, r, l⟩ := hl p.2 y v hs2 e3 (.inr (.inl hk))
        refine ⟨u, r, .inr ⟨.inl (B.sees I.ok.kind hs1), ?_⟩⟩
        rcases l with ⟨z, _⟩ | ⟨_, c, ec, z⟩
        · rw [hk] at z; cases z
        · obtain ⟨c', hc'⟩ := clo_has (cells := X.env.cells) scope.names [] y (.inl (PySem.mem_of_lookup hs1))
          have := B.sub I.ok _ _ hc'
          rw [ec] at this
          cases this
          obtain ⟨ob, ho, hd⟩ := z
          exact ⟨c, hc', ob, old _ _ ho, hd⟩
  · obtain ⟨v, ob, ho, hd⟩ := I.cell y c (B.sub I.ok _ _ e)
    exact ⟨v, ob, old _ _ ho, hd⟩
  · exact absurd (show p ∈ ([] : List (Addr × Obj)) from hp) (by simp)
  · show _ = (compNs x fr).length
    simp [compNs, compRest]
end
end L2
set_option Elab.async false
set_option linter.all false
set_option maxRecDepth 100000
namespace L2
open PySem PySem.Spec PyProof.Rows
def PIf (X : Cx) (ifs : List Expr) (t : TT) : Prop :=
  ∀ (pins : List (Addr × Obj)) (s : Shared) (σ : St) (H : Hp) (Q : Bool → Hp → Prop), Inv X pins σ H s → t σ H Q →
    wpAny (model X.prog X.w) X.A (forIn ifs true fun c r => if r = true then do let ok ← isTrue c X.env (eval c X.env); pure (ForInStep.yield ok) else pure (ForInStep.yield r)) (TP X pins σ Q) X.xe s
def tYes : TT := fun _ H Q => Q true H
theorem pif_nil {X : Cx} : PIf X [] tYes := fun _ _ _ H _ I h => wpAny_tests_nil ⟨H, I, h⟩
section
variable {X : Cx}
theorem anyE {α : Type} {M : Model} {A : Around} {t : Sem α} {Q : α → Shared → Prop} {E : Value → Shared → Prop} {s : Shared} (h : wpAny M A t Q (fun _ _ => False) s) : wpAny M A t Q E s := wpAny_mono h (fun _ _ x => x) fun _ _ x => x.elim
theorem comp_loop {prog : Program} {w : World} {A : Around} {R : Result → Shared → Prop} {s : Shared} {elt target iter : Expr} {ifs : List Expr} {scope : Scope} {pos : Pos} {it acc : Value} {env : Env} (J : Nat → Shared → Prop)
    (turn : ∀ n s, J n s → wpAny (model prog w) A (pyNext it) (fun r s₁ => match r with
      | none => R (.ok .next) s₁
      | some v => wpAny (model prog w) A (letOwnedTupleGo target it v) (fun _ s₂ => wpAny (model prog w) A (assign target env v) (fun _ s₃ =>
          wpAny (model prog w) A (forIn ifs true fun c r => if r = true then do let ok ← isTrue c env (eval c env); pure (ForInStep.yield ok) else pure (ForInStep.yield r)) (fun ok s₄ =>
            if ok = true then wpAny (model prog w) A (eval elt env) (fun y s₅ =>
              wpAny (model prog w) A (call (.builtin "list.append") [acc, y]) (fun _ s₆ => ∃ m, m < n ∧ J m s₆) (fun _ _ => False) s₅) (fun _ _ => False) s₄
            else ∃ m, m < n ∧ J m s₄) (fun _ _ => False) s₃) (fun _ _ => False) s₂) (fun _ _ => False) s₁) (fun _ _ => False) s)
    (n : Nat) (h : J n s) : codeAny (model prog w) A (.compLoop (.ListComp elt [⟨target, iter, ifs, 0⟩] scope pos) 0 it acc env) R s := by
  refine codeAny_loop rfl J (fun k s' hJ => ?_) n h
  show wpAny (model prog w) A ((compTurn (.ListComp elt [⟨target, iter, ifs, 0⟩] scope pos) 0 it acc env).onRaise (fun x => do noteFrame x env; theTreesLotGoes x)) _ _ s'
  refine wpAny_noted ?_
  rw [compTurn_list]
  refine wpAny_bind (wpAny_standAt (wpAny_bind (wpAny_mono (turn k s' hJ) (fun r s₁ h₁ => ?_) fun _ _ z => z.elim)))
  cases r with
  | none => exact wpAny_pure h₁
  | some v =>
    refine wpAny_bind (wpAny_mono h₁ (fun _ s₂ h₂ => wpAny_bind (wpAny_mono h₂ (fun _ s₃ h₃ => wpAny_bind (wpAny_mono h₃ (fun ok s₄ h₄ => ?_) fun _ _ z => z.elim)) fun _ _ z => z.elim)) fun _ _ z => z.elim)
    cases ok with
    | false => exact wpAny_pure ⟨rfl, h₄⟩
    | true =>
      exact wpAny_bind (wpAny_bind (wpAny_mono h₄ (fun y s₅ h₅ => wpAny_bind (wpAny_mono h₅ (fun _ s₆ h₆ => wpAny_pure (wpAny_pure ⟨rfl, h₆⟩)) fun _ _ z => z.elim)) fun _ _ z => z.elim))
end
end L2
set_option Elab.async false
set_option linter.all false
set_option maxRecDepth 100000
namespace L2
open PySem PySem.Spec PyProof.Rows
def tyN (H : Hp) : V → String
  | .non => "NoneType"
  | .bl _ => "bool"
  | .int _ => "int"
  | .str _ => "str"
  | .ref a => match H a with
    | some (.lst _) => "list"
    | some (.tup _) => "tuple"
    | some (.dK _) => "dict"
    | some (.frz _ (.lst _)) => "list"
    | _ => "?"
  | _ => "?"
def tyIs (T n : String) : Bool := T == n || (T == "bool" && n == "int")
def tyKnown : List String := ["NoneType", "bool", "int", "str", "list", "tuple", "dict"]
def tyAsked : List String := ["bool", "int", "str", "list", "tuple", "dict"]
theorem kit_known (K : PySem.W.Frag) : ∀ T ∈ tyKnown, ∀ n ∈ tyAsked, PySem.W.kitOne K (.type T) (.type n) = some (tyIs T n) := by
  intro T hT n hn
  simp only [tyKnown, tyAsked, List.mem_cons, List.not_mem_nil, or_false] at hT hn
  rcases hT with rfl | rfl | rfl | rfl | rfl | rfl | rfl <;> rcases hn with rfl | rfl | rfl | rfl | rfl | rfl <;> kernel_rfl
theorem tyN_of {K : PySem.W.Frag} {H : Hp} {x : V} (h : tyN H x ∈ tyKnown) : TyOf K H x (.type (tyN H x)) := by
  have no : ¬ ("?" ∈ tyKnown) := by decide
  cases x with
  | non => exact .non
  | bl b => exact .bl b
  | int i => exact .int i
  | str z => exact .str z
  | ref a =>
    unfold tyN at h ⊢
    dsimp only at h ⊢
    cases e : H a with
    | none => rw [e] at h; exact absurd h no
    | some o =>
      rw [e] at h
      cases o with
      | lst xs => exact .lst e
      | tup xs => exact .tup e
      | dK kvs => exact .dK e
      | frz ob u =>
        cases u with
        | lst xs => exact .frz e
        | _ => exact absurd h no
      | _ => exact absurd h no
  | _ => exact absurd h no
def rIsi (xs : List V) (H : Hp) (Q : VK) : Prop := ∃ x n, xs = [x, .ty n] ∧ tyN H x ∈ tyKnown ∧ n ∈ tyAsked ∧ Q (.bl (tyIs (tyN H x) n)) H
section
variable {X : Cx}
theorem call_isi : CallR X (.builtin "isinstance") rIsi := by
  intro pins s σ H xs us Q I r h
  obtain ⟨x, n, rfl, h1, h2, q⟩ := h
  obtain ⟨u, v, rfl, ru, rv⟩ := vals2 r
  cases rv
  exact isinst_ok I ru (tyN_of h1) (kit_known X.K _ h1 _ h2) fun tk => ⟨.bl _, H, I.tok tk, rfl, q⟩
end
end L2
set_option Elab.async false
set_option linter.all false
set_option maxRecDepth 100000
namespace L2
open PySem PySem.Spec PyProof.Rows
section
variable {X : Cx}
theorem boolsAre_of {bs : List Bool} : ∀ {us : List Value}, Vals (bs.map V.bl) us → LSm.BoolsAre us bs := by
  induction bs with
  | nil => intro us r; rw [List.map_nil] at r; cases r; exact .nil
  | cons b bs ih =>
    intro us r
    rw [List.map_cons] at r
    cases r with
    | cons r1 r2 =>
      cases r1
      exact .cons b (ih r2)
def rAll (K : PySem.W.Frag) (xs : List V) (H : Hp) (Q : VK) : Prop := ∃ (p : Addr) (bs : List Bool), xs = [.ref p] ∧ SqL K H p (bs.map V.bl) ∧ Q (.bl (bs.all id)) H
theorem call_all (hc : X.calm = true) : CallR X (.builtin "all") (rAll X.K) := by
  intro pins s σ H xs us Q I r h
  obtain ⟨p, bs, rfl, hq, q⟩ := h
  obtain ⟨u, rfl, rx⟩ := vals1 r
  cases rx
  obtain ⟨its, r', pl, hz⟩ := I.list hq
  have hb := boolsAre_of r'
  have hl := pl.isList
  have hlt : p < s.heap.objs.size := by obtain ⟨_, e, _⟩ := hl; exact Heap.lt_size e
  refine call_all_walk (wpAny_pyIter_list hl ?_)
  refine ⟨s.heap.objs.size, [s.heap.objs.size, p], [s.heap.objs.size], its.toArray.size, _, _, fun i => (bs[i]?).getD true, rfl, Walks.list (A := X.A.in1) (I.ok.hd hc) _ p (Nat.ne_of_lt hlt) its.toArray,
    ⟨⟨_, Heap.get?_push_size _ rfl, rfl, rfl⟩, hl.push _⟩, fun i v s' Q' E' hP hQ => ?_, fun h' tk hk => ?_⟩
  · obtain ⟨b, e, rfl⟩ := hb.get i v (by simpa using hP)
    simp only [e, Option.getD_some] at hQ
    exact wpAny_truthy_bool hQ
  · have e : ((List.range its.toArray.size).all fun i => (bs[i]?).getD true) = bs.all id := by
      rw [List.size_toArray, hb.length]; exact LSm.range_all bs
    rw [e]
    exact ⟨.bl (bs.all id), H, I.kept (t' := tk) (LSm.kept_iter hk), rfl, q⟩
mutual
inductive DataV (K : PySem.W.Frag) (H : Hp) : V → PyData → Prop
  | non : DataV K H .non .none
  | bl (b : Bool) : DataV K H (.bl b) (.bool b)
  | int (i : Int) : DataV K H (.int i) (.int i)
  | str (x : Str) : DataV K H (.str x) (.str x)
  | lst {a : Addr} {xs : List V} {ds : List PyData} : SqL K H a xs → DataVs K H xs ds → DataV K H (.ref a) (.list ds)
  | tup {a : Addr} {xs : List V} {ds : List PyData} : SqT K H a xs → DataVs K H xs ds → DataV K H (.ref a) (.tuple ds)
inductive DataVs (K : PySem.W.Frag) (H : Hp) : List V → List PyData → Prop
  | nil : DataVs K H [] []
  | cons {x : V} {xs : List V} {d : PyData} {ds : List PyData} : DataV K H x d → DataVs K H xs ds → DataVs K H (x :: xs) (d :: ds)
end
mutual
theorem DataV.reads {pins : List (Addr × Obj)} {s : Shared} {σ : St} {H : Hp} (I : Inv X pins σ H s) : ∀ {x : V} {d : PyData}, DataV X.K H x d → ∀ {u : Value}, RelV x u → ∃ as, Reads s.heap u d as
  | _, _, .non, _, r => by cases r; exact ⟨_, .none⟩
  | _, _, .bl b, _, r => by cases r; exact ⟨_, .bool b⟩
  | _, _, .int i, _, r => by obtain ⟨t, rfl⟩ := r; exact ⟨_, .int i t⟩
  | _, _, .str z, _, r => by obtain ⟨t, rfl⟩ := r; exact ⟨_, .str z t⟩
  | _, _, .lst hq hd, _, r => by
    cases r
    obtain ⟨its, rv, pl, _⟩ := I.list hq
    obtain ⟨as, ha⟩ := DataVs.reads I hd rv
    obtain ⟨o, n, e, c, _, d⟩ := pl
    exact ⟨_, .list e c d ha⟩
  | _, _, .tup hq hd, _, r => by
    cases r
    obtain ⟨its, rv, pl, _⟩ := I.tuple hq
    obtain ⟨as, ha⟩ := DataVs.reads I hd rv
    obtain ⟨o, e, c, n, d⟩ := pl
    exact ⟨_, .tuple e c d ha⟩
theorem DataVs.reads {pins : List (Addr × Obj)} {s : Shared} {σ : St} {H : Hp} (I : Inv X pins σ H s) : ∀ {xs : List V} {ds : List PyData}, DataVs X.K H xs ds → ∀ {us : List Value}, Vals xs us → ∃ as, ReadsAll s.heap us ds as
  | _, _, .nil, _, r => by cases r; exact ⟨_, .nil⟩
  | _, _, .cons h t, _, r => by
    cases r with
    | cons r1 r2 =>
      obtain ⟨as, ha⟩ := DataV.reads I h r1
      obtain ⟨bs, hb⟩ := DataVs.reads I t r2
      exact ⟨_, .cons ha hb⟩
end
def rEqD (K : PySem.W.Frag) : R2 := fun x y H Q => ∃ da db, DataV K H x da ∧ DataV K H y db ∧ SeqAt.shaped da = true ∧ SeqAt.shaped db = true ∧ Q (.bl (PyData.eqv da db)) H
def rNeD (K : PySem.W.Frag) : R2 := fun x y H Q => ∃ da db, DataV K H x da ∧ DataV K H y db ∧ SeqAt.shaped da = true ∧ SeqAt.shaped db = true ∧ Q (.bl (!PyData.eqv da db)) H
theorem op_eqD (hu : X.A.units + 64 < cLine) : OpR X (compareOp .Eq) (rEqD X.K) := by
  intro pins s σ H x y v u Q I rx ry h
  obtain ⟨da, db, ha, hb, sa, sb, q⟩ := h
  obtain ⟨as, ra⟩ := ha.reads I rx
  obtain ⟨bs, rb⟩ := hb.reads I ry
  exact eq_dataH ra rb sa sb hu ⟨.bl _, H, I, rfl, q⟩
theorem op_neD (hu : X.A.units + 64 < cLine) : OpR X (compareOp .NotEq) (rNeD X.K) := by
  intro pins s σ H x y v u Q I rx ry h
  obtain ⟨da, db, ha, hb, sa, sb, q⟩ := h
  obtain ⟨as, ra⟩ := ha.reads I rx
  obtain ⟨bs, rb⟩ := hb.reads I ry
  exact ne_dataH ra rb sa sb hu ⟨.bl _, H, I, rfl, q⟩
theorem op_mulB : OpR X (binaryOp .Mult) (rI IntMulOk fun i j => .int (i * j)) := opI fun _ _ _ _ _ _ _ hc q => mul_int q hc
def rLen (K : PySem.W.Frag) (xs : List V) (H : Hp) (Q : VK) : Prop := (∃ p ys, xs = [.ref p] ∧ (SqL K H p ys ∨ SqT K H p ys) ∧ Q (.int ys.length) H) ∨ (∃ z, xs = [.str z] ∧ z.length ≤ sizeLine ∧ Q (.int z.length) H)
theorem call_lenU : CallR X (.builtin "len") (rLen X.K) := call_len_seq.or call_len_str
end
end L2
set_option Elab.async false
set_option linter.all false
set_option maxRecDepth 100000
namespace L2
open PySem PySem.Spec PyProof.Rows
section
variable {σ : St} {H : Hp} {Q : VK} {D : Ends}
variable {K : PySem.W.Frag}
end
structure Top (K : PySem.W.Frag) (mg : Str → Option Value) (x : Str) (st : Stmt) : Prop where
  ex : ∃ (f : Addr) (fd : FuncData), Fun K x x st f fd ∧ mg x = some (.ref f)
structure Def (P : Program) (w : World) (K : PySem.W.Frag) (mg : Str → Option Value) (base : Heap) (CX : CXT) (k : Nat) (x : Str) (ps : List Str) (sp : Sp) : Prop where
  ex : ∃ (f : Addr) (fd : FuncData), FnOk P w K mg base CX k f fd ps sp ∧ mg x = some (.ref f) ∧ PySem.W.keepIn K (.ref f) = true ∧ Binds K fd ps []
section
variable {P : Program} {w : World} {K : PySem.W.Frag} {mg : Str → Option Value} {base : Heap}
theorem Top.mk' {x : Str} {st : Stmt} {h : Heap} {f : Addr} {oc : Value} {od an : Option Addr} {osl : Array (Option Value)} {kV doc pm cdv ct : Value} (X : K.In h) (G : h.Ns mainGlobals mg) (a : PySem.W.nsIn K mainGlobals x = some (some (.ref f)))
    (l : K.lookup f = some ⟨oc, od, .func (PySem.W.fnOf x x (defArgs st) (defBody st) (defScope st) .none kV doc pm an cdv ct), osl⟩) (c : PySem.W.codeIn K cdv x = true) (k : PySem.W.keepIn K (.ref f) = true) : Top K mg x st :=
  ⟨⟨f, _, fun_mk l c k, PySem.W.mg_of X G a⟩⟩
theorem Top.def {x : Str} {st : Stmt} {N ps : List Str} {k : Nat} {sp : Sp} (T : Top K mg x st) (S : FnScope N ps (defScope st)) (len : ∀ vs H Q E, sp vs H Q E → vs.length = ps.length)
    (hb : ∀ (kV doc pm : Value) (an : Option Addr) (cdv ct : Value) (us : List Value), us.length = ps.length → bindArgs (PySem.W.fnOf x x (defArgs st) (defBody st) (defScope st) .none kV doc pm an cdv ct) ⟨us, []⟩ = pure (ps.zip us))
    (hbody : ∀ (f : Addr) (cdv : Value) (A : Around) (outer : List Env) (s : Shared) (H : Hp) (vs : List V) (Q : VK) (E : XK), Room k (A.deeper (envOfC x (defScope st) s.heap.objs.size f cdv)) → sp vs H Q E →
      ∃ t, PSs (cxOf CX0 P w K mg base N x (defScope st) f cdv A outer s H E).nox (defBody st) t ∧ t { nx := fun _ H' => Q .non H', rt := Q } (start N vs) H) : Def P w K mg base CX0 (k + 1) x ps sp := by
  obtain ⟨f, fd, F, m⟩ := T.ex
  exact ⟨⟨f, fd, F.ok S len (hbody f), m, F.kp, F.binds hb⟩⟩
theorem pe_def {X : Cx} {k : Nat} {x : Str} {ps : List Str} {sp : Sp} {p pos : Pos} {e : Expr} {es : List Expr} {t : TA} (D : Def X.prog X.w X.K X.mg X.base CX0 k x ps sp) (hr : Room k X.A) (ha : PA X (e :: es) t) (hg : Gl X x := by rfl)
    (hdb : (x == ("__debug__" : Str)) = false := by decide) (he : starEach (e :: es) X.env = (false, eval e X.env) :: starEach es X.env := by rfl) (hpl : (backTo pos (starEach es X.env)).any (·.1) = false := by rfl) :
    PE X (.Call (.Name x p) (e :: es) [] pos) (tCall sp [] E0 t) := by
  obtain ⟨f, fd, F, m, kp, b⟩ := D.ex
  exact pe_call F hr hg m kp b .nil pass0 ha hdb he hpl
end
open PySem.W in
theorem bits_weight : ∀ (ns : List Int) (n : Int), n ∈ ns → Builtin.Int.intBits n ≤ WData.weightAll (ns.map WData.int)
  | m :: r, n, h => by
    rw [List.map_cons]
    have e : WData.weightAll (WData.int m :: r.map WData.int) = WData.weight (.int m) + 1 + WData.weightAll (r.map WData.int) := by simp only [WData.weightAll]
    rw [e]
    rcases List.mem_cons.mp h with rfl | h
    · have : Builtin.Int.intBits n = WData.weight (.int n) := by simp only [WData.weight, Builtin.Int.intBits]
      omega
    · have := bits_weight r n h
      omega
open PySem.W in
theorem bits_script {ns : List Int} (h : WData.layableAll [WData.list (ns.map WData.int)] = true) : ∀ n ∈ ns, Builtin.Int.intBits n ≤ 1048576 := fun n hn => by
  have h1 : (WData.list (ns.map WData.int)).layable = true := PySem.W.layableW_arg h _ (by simp)
  have h2 := (PySem.W.layableW_iff.mp h1).2.2
  have h3 : WData.weight (.list (ns.map WData.int)) = WData.weightAll (ns.map WData.int) := by simp only [WData.weight]
  have h4 := bits_weight ns n hn
  have h5 : (2 : Nat) ^ 20 = 1048576 := by decide
  omega
open PySem.W PySem.Calls in
theorem attachB {l : OpenLaw} {n : Nat} {q : Program} {loose : List Str} {XP : (Str → Option Value) → Heap → Prop} {YP : World → Heap → Prop} {d : DefRec}
    (hn : l.most = some n) (hdf : d.params.defaults = [])
    (call : ∀ (w : World) (s₀ s₁ : Shared) (mg mb : Str → Option Value) (fa a : Addr) (vs : List Value) (ns : List Int),
      Ground q loose [] XP w s₀ mg mb s₁.heap → YP w s₁.heap → mg d.name = some (.ref fa) →
      s₁.heap.get? a = some { cls := .type "list", data := .seq vs.toArray } → IntsAre vs ns → ns.length ≤ n → (∀ k ∈ ns, Builtin.Int.intBits k ≤ 1048576) → s₁.gens = #[] →
      codeAny (model l.prog w) callerA (.call (.ref fa) ⟨[.ref a], []⟩) (fun r s' => r = .ok (.ret (.bool true)) ∧ OldK s₁.heap s'.heap ∧ s'.os = s₁.os ∧ AllBare s'.gens) s₁) :
    WalkO q loose XP YP l.row.toRowW d [] (fun f vs => PySem.call f vs) := by
  intro w s₀ s₁ mg mb G Y fa o pm cd doc dV kV ho hd hcd hD hmg hg args vals as' hpre hlay hrd hwl hlo
  obtain rfl : dV = .none := Dflts.none hD hdf
  obtain ⟨a, vs, ns, rfl, rfl, hobj, hints, hlen⟩ := Att.script_of hn hpre hwl
  refine enter_call (codeAny_mono (call w s₀ s₁ mg mb fa a vs ns G Y hmg hobj hints hlen (bits_script hlay) hg) fun r s' hq => ?_)
  obtain ⟨rfl, h2, h3, h4⟩ := hq
  exact ⟨.inl ⟨.bool true, .bool true, [], rfl, fun _ => rfl, .bool true, Att.post_true l _, fun _ => ⟨List.Pairwise.nil, fun _ hm => (nomatch hm)⟩⟩, h2, h3, h4⟩
def spLaw (K : PySem.W.Frag) : Sp := fun vs H Q _ => ∃ (a : Addr) (ns : List Int), vs = [.ref a] ∧ SqL K H a (ns.map V.int) ∧ ns.length ≤ 63 ∧ (∀ k ∈ ns, Builtin.Int.intBits k ≤ 1048576) ∧ ∀ H', Q (.bl true) H'
theorem walk_law {l : PySem.W.OpenLaw} {k : Nat} {q : Program} {loose : List Str} {XP : (Str → Option Value) → Heap → Prop} {YP : World → Heap → Prop} {d : DefRec} {K : Params → PySem.W.Frag} {x : Str} {st : Stmt}
    (hn : l.most = some 63) (hdf : d.params.defaults = []) (hr : Room k callerA) (hY : ∀ (w : World) (h : Heap), YP w h → (K w.params).In h)
    (hb : ∀ (kV doc pm : Value) (an : Option Addr) (cdv ct u : Value), bindArgs (PySem.W.fnOf d.name d.name (defArgs st) (defBody st) (defScope st) .none kV doc pm an cdv ct) ⟨[u], []⟩ = pure [(x, u)])
    (F : ∀ (w : World) (mg : Str → Option Value) (h : Heap), (K w.params).In h → h.Ns mainGlobals mg → Top (K w.params) mg d.name st ∧
      ∀ (f : Addr) (fd : FuncData), Fun (K w.params) d.name d.name st f fd → ∀ base : Heap, (K w.params).In base → base.Ns mainGlobals mg → FnOk l.prog w (K w.params) mg base CX0 k f fd [x] (spLaw (K w.params))) :
    PySem.W.WalkO q loose XP YP l.row.toRowW d [] (fun f vs => PySem.call f vs) := by
  refine attachB hn hdf fun w s₀ s₁ mg mb fa a vs ns G Y hmg hobj hints hlen hbits hg => ?_
  have KX := hY w _ Y
  obtain ⟨T, FF⟩ := F w mg _ KX G.T.g
  obtain ⟨f, fd, Ff, m⟩ := T.ex
  have e := m.symm.trans hmg
  cases e
  have hbd : ∀ (s : Shared) (u : Value), BindsTo s fd ⟨[u], []⟩ [(x, u)] := by
    obtain ⟨oc, od, kV, doc, pm, an, cdv, ct, osl, rfl, lk, hcd⟩ := Ff.ex
    exact fun s u => .of_eq (hb kV doc pm an cdv ct u)
  exact law_call KX G.T.g G.T.b G.T.builtins G.T.nolimit hg hobj hints (Nat.le_trans hlen (by decide)) hr (FF _ fd Ff) hbd (fun H hO hS => ⟨a, ns, rfl, hS, hlen, hbits, fun _ => rfl⟩) fun H e s' h => h
end L2
set_option Elab.async false
set_option linter.all false
set_option maxRecDepth 100000
namespace L2
open PySem PySem.Spec PyProof.Rows
section
variable {σ : St} {H : Hp} {Q : VK} {K : PySem.W.Frag} {fr : List (Str × Nat)}
instance : Inhabited V := ⟨.non⟩
end
section
variable {σ : St} {H : Hp} {Q : VK} {K : PySem.W.Frag} {i j : Int}
end
section
variable {σ : St} {H : Hp} {K : PySem.W.Frag}
end
theorem same_upd {H : Hp} {p : Addr} {o : HO} (h : H p = none) : Same H (upd H p o) := fun b u e => by rw [upd_ne (ne_of_none e h)]; exact e
theorem pe_ty {X : Cx} {x : Str} {n : String} {pos : Pos} (hm : X.mg x = none) (hv : bootBuiltins x = some (.type n)) (hg : Gl X x := by rfl) (hn : x ≠ "__name__" := by decide) (hd : (x == ("__debug__" : Str)) = false := by decide) : PE X (.Name x pos) (tC (.ty n)) :=
  pe_bltn hg hm hv (show RelV (.ty n) (.type n) from rfl) hn hd
end L2
set_option Elab.async false
set_option linter.all false
set_option maxRecDepth 100000
namespace L2
open PySem PySem.Spec PyProof.Rows
section
variable {X : Cx}
end
end L2
set_option Elab.async false
set_option linter.all false
set_option maxRecDepth 100000
namespace L2
open PySem PySem.Spec PyProof.Rows
theorem lri_nolen : typeLookup (.type "list_reverseiterator") "__len__" = pure none := by
  rw [typeLookup_type, builtinLookup_eq_fast]; kernel_rfl
theorem lri_hint : typeLookup (.type "list_reverseiterator") "__length_hint__" = pure (some (.builtin "list_reverseiterator.__length_hint__")) := by
  rw [typeLookup_type, builtinLookup_eq_fast]; kernel_rfl
section
variable {P : Program} {w : World} {B : Around} {R : Result → Shared → Prop} {E : Value → Shared → Prop} {t : Shared} {i₀ : Addr} {fp wr : List Addr} {n : Nat} {p : Nat → Value → Prop} {st : Nat → Shared → Prop}
abbrev GenSame : Array GenState → Array GenState → Prop := fun a b => b = a
def Hints (P : Program) (w : World) (B : Around) (i₀ : Addr) (st : Nat → Shared → Prop) : Prop :=
  ∀ (t₁ : Shared) (Q' : Bool → Shared → Prop) (E' : Value → Shared → Prop), st 0 t₁ → (∀ k, t₁.toks ≤ k → Q' false { t₁ with toks := k }) → wpAny (model P w) B (Builtin.List.listLengthHint (.ref i₀)) Q' E' t₁
theorem hints_rev (ty : ∀ j t, st j t → t.TypeIs (.ref i₀) "list_reverseiterator") : Hints P w B i₀ st := by
  intro t₁ Q' E' h q
  unfold Builtin.List.listLengthHint
  refine wpAny_bind (wpAny_specialOf (ty 0 _ h) lri_nolen ?_)
  show wpAny _ B (specialOf (Value.ref i₀) (Str.ofString "__length_hint__") >>= _) _ _ _
  refine wpAny_bind (wpAny_specialOf (ty 0 _ h) lri_hint ?_)
  generalize hid : ("list_reverseiterator.__length_hint__" : String) = idx
  wp_delta
  rw [show splitId idx = some ("list_reverseiterator", "__length_hint__") from by subst hid; decide +kernel]
  subst hid
  refine wpAny_bind (wpAny_isInstance (b := true) (ty 0 _ h) (by rw [isSubtype_type]; kernel_rfl) ?_)
  exact wpAny_pure (q _ (Nat.le_refl _))
theorem ext_it (W : WalksS P w B.in1 i₀ fp wr GenSame n p st) {T : String} (hT : T = "list_reverseiterator" ∨ T = "range_iterator") (ty : ∀ j t, st j t → t.TypeIs (.ref i₀) T) (hh : Hints P w B.in1 i₀ st) (l₀ : Addr) (res : Value) (c₀ : Nat)
    (h0 : st 0 t) (hl : l₀ ∉ fp) (hi : i₀ ∈ fp) (ho : t.heap.get? l₀ = some { cls := .type "list", data := .seq #[] c₀ })
    (hR : ∀ t' acc c, Moved (l₀ :: wr) GenSame t t' → t'.heap.get? l₀ = some { cls := .type "list", dict := none, data := .seq acc c, slots := #[] } → ItemsOf p acc n → R (.ok (.ret res)) t') (hn : n ≤ sizeLine) :
    wpAny (model P w) B.in1 (Builtin.List.listExtendWith (.ref l₀) (.ref i₀) res) (fun fin t' => match fin with | .done f => R (.ok f) t' | .again c' => c'.quiet = true ∧ codeAny (model P w) B c' R t') (fun e t' => R (.error e) t') t := by
  have hne : l₀ ≠ i₀ := fun e => hl (e ▸ hi)
  have e1 : Builtin.List.listSameRef (.ref l₀) (.ref i₀) = false := by simp [Builtin.List.listSameRef, hne]
  unfold Builtin.List.listExtendWith
  refine wpAny_bind (wpAny_typeOf (ty 0 _ h0) ?_)
  rcases hT with rfl | rfl
  all_goals
    rw [if_neg (by rw [e1]; decide)]
    refine wpAny_bind (W.self 0 _ _ _ h0 ?_)
    refine wpAny_bind (wpAny_holding (hh _ _ _ h0 fun k hk => ?_))
    rw [if_neg (by decide)]
    have h1 := W.frame 0 t t.heap k h0 hk fun b _ o e => e
    refine wpAny_pure ⟨plainId_quiet F.plain_extend_loop _, codeAny_extend_loopS W hn _ hl _ n 0 _ _ _ rfl (Nat.zero_le _) h1 ho (ItemsOf.nil p) fun t' acc c hm hs hacc => ?_⟩
    exact hR t' acc c ⟨hm.heap, hm.gens, hm.drawn, hm.os, Nat.le_trans hk hm.toks⟩ hs hacc
theorem init_it (W : WalksS P w B.in1 i₀ fp wr GenSame n p st) {T : String} (hT : T = "list_reverseiterator" ∨ T = "range_iterator") (ty : ∀ j t, st j t → t.TypeIs (.ref i₀) T) (hh : Hints P w B.in1 i₀ st) (l₀ : Addr)
    (h0 : st 0 t) (hl : l₀ ∉ fp) (hi : i₀ ∈ fp) (ho : t.heap.get? l₀ = some { cls := .type "list", data := .seq #[] })
    (hR : ∀ t' acc c, Moved (l₀ :: wr) GenSame t t' → t'.heap.get? l₀ = some { cls := .type "list", dict := none, data := .seq acc c, slots := #[] } → ItemsOf p acc n → R (.ok (.ret .none)) t') (hn : n ≤ sizeLine) :
    wpAny (model P w) B.in1 (Builtin.«list.__init__» ⟨[.ref l₀, .ref i₀], []⟩) (fun fin t' => match fin with | .done f => R (.ok f) t' | .again c' => c'.quiet = true ∧ codeAny (model P w) B c' R t') (fun e t' => R (.error e) t') t := by
  show wpAny _ B.in1 (do let old ← Builtin.List.listItems (.ref l₀); Builtin.List.listUpdate (.ref l₀) (fun _ => #[]); letGo old.toList.reverse; Builtin.List.listExtendWith (.ref l₀) (.ref i₀) .none) _ _ t
  refine wpAny_bind ?_
  unfold Builtin.List.listItems
  refine wpAny_bind (wpAny_seqItems ho rfl (wpAny_pure ?_))
  show wpAny _ B.in1 (updateSeq l₀ (fun _ => #[]) >>= fun _ => letGo (#[] : Array Value).toList.reverse >>= fun _ => Builtin.List.listExtendWith (.ref l₀) (.ref i₀) .none) _ _ t
  refine wpAny_bind (wpAny_updateSeq ho rfl ?_)
  have h2 := Heap.get?_update_self (Obj.mapSeq (fun _ => (#[] : Array Value))) ho rfl
  have oth : ∀ b o, b ≠ l₀ → t.heap.get? b = some o → (t.heap.update l₀ (Obj.mapSeq (fun _ => (#[] : Array Value)))).get? b = some o :=
    fun b o hb e => (Heap.get?_update_other _ _ (Ne.symm hb)).trans e
  refine wpAny_bind (wpAny_letGo ?_)
  refine ext_it W hT ty hh l₀ .none _ (W.frame 0 t _ t.toks h0 (Nat.le_refl _) fun b hb o e => oth b o (fun z => hl (z ▸ hb)) e) hl hi h2 (fun t' acc c hm hs hacc => ?_) hn
  exact hR t' acc c ⟨fun b o hb e => hm.heap b o hb (oth b o (fun z => hb (z ▸ List.mem_cons_self)) e), hm.gens, hm.drawn, hm.os, hm.toks⟩ hs hacc
theorem list_it {Q : Value → Shared → Prop} (W : WalksS P w B.in1.in1 i₀ fp wr GenSame n p st) {T : String} (hT : T = "list_reverseiterator" ∨ T = "range_iterator") (ty : ∀ j t, st j t → t.TypeIs (.ref i₀) T) (hh : Hints P w B.in1.in1 i₀ st)
    (h0 : st 0 t) (hfp : ∀ b ∈ fp, b < t.heap.objs.size) (hi : i₀ ∈ fp)
    (hQ : ∀ h' k acc c, (∀ b o, b ∉ wr → t.heap.get? b = some o → h'.get? b = some o) → h'.get? t.heap.objs.size = some { cls := .type "list", dict := none, data := .seq acc c, slots := #[] } → ItemsOf p acc n → Q (.ref t.heap.objs.size) { t with heap := h', toks := k }) (hn : n ≤ sizeLine) :
    wpAny (model P w) B (call (.type "list") [.ref i₀]) Q E t := by
  have hl : t.heap.objs.size ∉ fp := fun z => Nat.lt_irrefl _ (hfp _ z)
  refine callType_codes (Q₁ := fun v t₁ => v = .ref t.heap.objs.size ∧ t₁ = { t with heap := t.heap.push { cls := .type "list", data := .seq #[] } }) F.called_list (F.typeCall_list_1 _) F.entry_list_init (code_list_new _ ⟨rfl, rfl⟩) fun v t₁ h₁ => ?_
  obtain ⟨rfl, rfl⟩ := h₁
  have ho : (t.heap.push { cls := .type "list", data := .seq #[] }).get? t.heap.objs.size = some { cls := .type "list", data := .seq #[] } := Heap.get?_push_size _ rfl
  refine ⟨⟨_, ho, rfl⟩, F.args_list_init_2 _ _, init_it W hT ty hh _ (W.frame 0 t _ t.toks h0 (Nat.le_refl _) fun b _ o e => Heap.get?_push_of_some _ e) hl hi ho (fun t' acc c hm hs hacc => ?_) hn⟩
  have e1 : t'.gens = t.gens := hm.gens
  have e2 : t'.drawn = t.drawn := hm.drawn
  have e3 : t'.os = t.os := hm.os
  obtain ⟨h', g', d', k', os'⟩ := t'
  subst e1 e2 e3
  refine ⟨rfl, hQ h' k' acc c (fun b o hb e => hm.heap b o (fun z => ?_) (Heap.get?_push_of_some _ e)) hs hacc⟩
  rcases List.mem_cons.mp z with z | z
  · rw [z] at e; exact absurd (Heap.lt_size e) (Nat.lt_irrefl _)
  · exact hb z
end
section
variable {P : Program} {w : World} {A : Around} {E : Value → Shared → Prop} {s : Shared}
end
section
variable {X : Cx}
abbrev eCall (x : Str) (p : Pos) (es : List Expr) (pos : Pos) : Expr := .Call (.Name x p) es [] pos
theorem lay_list {pins : List (Addr × Obj)} {s : Shared} {σ : St} {H : Hp} {Q : VK} {ys : List V} (I : Inv X pins σ H s) (hz : ys.length ≤ sizeLine) (q : ∀ l, H l = none → Q (.ref l) (upd H l (.lst ys)))
    {l : Addr} (hl : s.heap.objs.size ≤ l) {h' : Heap} {k c : Nat} {acc : Array Value} (kp : ∀ b o, s.heap.get? b = some o → h'.get? b = some o) (ho : h'.get? l = some { cls := .type "list", dict := none, data := .seq acc c, slots := #[] }) (rv : Vals ys acc.toList) :
    EP X pins σ Q (.ref l) { s with heap := h', toks := k } :=
  ⟨.ref l, _, I.laid kp hl (show ObjOk X.prog X.w _ h' _ (.lst ys) from ⟨hz, acc.toList, c, rv, by simpa using ho⟩), rfl, q _ (I.hok.fresh hl)⟩
def rListRev (K : PySem.W.Frag) : List V → Hp → VK → Prop := fun xs H Q => ∃ p ys, xs = [.ref p] ∧ SqL K H p ys ∧ ∀ l, H l = none → Q (.ref l) (upd H l (.lst ys.reverse))
theorem vals_get : ∀ {ys : List V} {its : List Value}, ys.length = its.length → (∀ (j : Nat) (y : V) (v : Value), ys[j]? = some y → its[j]? = some v → RelV y v) → Vals ys its
  | [], [], _, _ => .nil
  | y :: ys, v :: its, hl, h => .cons (h 0 y v rfl rfl) (vals_get (by simpa using hl) fun j a b h1 h2 => h (j + 1) a b (by simpa using h1) (by simpa using h2))
  | [], _ :: _, hl, _ => by simp at hl
  | _ :: _, [], hl, _ => by simp at hl
theorem pe_listRev {a : Expr} {ta : TA} {p p' pos pos' : Pos} (hc : X.calm = true) (hg : Gl X "list") (hm : X.mg "list" = none) (hg' : Gl X "reversed") (hm' : X.mg "reversed" = none) (ha : PA X [a] ta)
    (hs : starEach [a] X.env = [(false, eval a X.env)] := by rfl) (hs' : starEach [eCall "reversed" p' [a] pos'] X.env = [(false, eval (eCall "reversed" p' [a] pos') X.env)] := by rfl) :
    PE X (eCall "list" p [eCall "reversed" p' [a] pos'] pos) (tCB (rListRev X.K) ta) := by
  intro pins s σ H Q I h
  have hn : X.A.handled = none := I.ok.hd hc
  refine wpAny_Call_Name_kw (ld_blt I hg hm boot_list ?_)
  refine PyProof.Rows.callWith_type1 ?_ hs' rfl
  rw [hs']
  refine Calls.spliced_cons ?_
  refine wpAny_Call_Name_kw (ld_blt I hg' hm' boot_reversed ?_)
  refine PyProof.Rows.callWith_type1 (thn (ha pos' pins s σ H _ I h) fun us s1 ⟨vs, H1, I1, r1, q1⟩ => ?_) hs rfl
  obtain ⟨l, ys, e, hq, q⟩ := q1
  subst e
  cases r1 with
  | cons r rr =>
    cases rr
    cases r
    obtain ⟨its, rv, pl, hz⟩ := I1.list hq
    have hlen : ys.length = its.toArray.size := by rw [List.size_toArray]; exact rv.length
    refine call_reversed_list pl.isList ?_
    refine Calls.spliced_nil ?_
    obtain ⟨ob, hob, _⟩ := pl.isList
    have hlt : l < s1.heap.objs.size := Heap.lt_size hob
    have W := (Walks.listRev (prog := X.prog) (w := X.w) (A := X.A.in1.in1) hn s1.heap.objs.size l (Nat.ne_of_lt hlt) its.toArray).toS
    refine list_it (B := X.A) (t := { s1 with heap := s1.heap.push (revObj l ((its.toArray.size : Int) - 1)) }) W (.inl rfl) (fun j t st => st.2.1.typeIs) (hints_rev fun j t st => st.2.1.typeIs)
      ⟨Nat.zero_le _, ⟨_, Heap.get?_push_size _ rfl, rfl, by simp [revObj]⟩, pl.isList.at fun o e => Heap.get?_push_of_some _ e⟩ (fun b hb => ?_) (by simp) (fun h' k acc c kp ho hacc => ?_) (by omega)
    · have : (s1.heap.push (revObj l ((its.toArray.size : Int) - 1))).objs.size = s1.heap.objs.size + 1 := Heap.size_push _ _
      show b < (s1.heap.push (revObj l ((its.toArray.size : Int) - 1))).objs.size
      rcases List.mem_cons.mp hb with e | hb
      · rw [e, Heap.size_push]; exact Nat.lt_succ_self _
      · rw [List.mem_singleton.mp hb, Heap.size_push]; exact Nat.lt_succ_of_lt hlt
    · refine lay_list I1 (by rw [List.length_reverse]; exact hz) q (show s1.heap.objs.size ≤ (s1.heap.push _).objs.size by rw [Heap.size_push]; exact Nat.le_succ _) (fun b o e => kp b o ?_ (Heap.get?_push_of_some _ e)) ho (vals_get ?_ fun j y v h1 h2 => ?_)
      · intro z
        have := List.mem_singleton.mp z
        rw [this] at e
        exact absurd (Heap.lt_size e) (Nat.lt_irrefl _)
      · rw [List.length_reverse, Array.length_toList (xs := acc), hacc.1, hlen]
      · have h2' : acc[j]? = some v := by rw [← Array.getElem?_toList]; exact h2
        have h3 := hacc.2 j v h2'
        have hj : j < ys.length := by
          have := (Array.getElem?_eq_some_iff.mp h2').1
          rw [hacc.1] at this; omega
        rw [List.getElem?_reverse hj] at h1
        rw [← hlen, ← Array.getElem?_toList] at h3
        obtain ⟨v', h4, h5⟩ := rv.get h1
        have h3' : its[ys.length - 1 - j]? = some v := by simpa using h3
        rw [h3'] at h4; cases h4
        exact h5
end
end L2
set_option Elab.async false
set_option linter.all false
set_option maxRecDepth 100000
namespace L2
open PySem PySem.Spec PyProof.Rows
section
variable {prog : Program} {w : World} {A : Around} {E : Value → Shared → Prop} {s : Shared}
theorem pull_list {it t : Addr} {items : Array Value} (hne : t ≠ it) : ∀ (n i : Nat) (s : Shared) (Q : List Value → Shared → Prop), s.heap.IsListIter it t i → s.heap.IsList t items → i + n ≤ items.size →
    (∀ h' : Heap, h'.IsListIter it t (i + n) → Heap.SameBut it s.heap h' → Q ((items.toList.drop i).take n) { s with heap := h' }) → wpAny (model prog w) A (draw (.ref it) n) Q E s
  | 0, i, s, Q, hit, _, _, hQ => by
    show wpAny _ _ (pure []) Q E s
    exact wpAny_pure (by simpa using hQ s.heap hit (Heap.SameBut.refl ..))
  | n + 1, i, s, Q, hit, ht, hle, hQ => by
    have hlt : i < items.size := by omega
    show wpAny _ _ (pyNext (.ref it) >>= _) Q E s
    refine wpAny_bind (wpAny_pyNext_list_item hit ht (x := items[i]) (by simp [hlt]) fun h1 hit1 hs1 => ?_)
    refine wpAny_bind (wpAny_holding (pull_list hne n (i + 1) _ _ hit1 (ht.extBut hs1.extBut hne) (by omega) fun h2 hit2 hs2 => wpAny_pure ?_))
    have hd : items.toList.drop i = items[i] :: items.toList.drop (i + 1) := by simp [List.drop_eq_getElem_cons, hlt]
    have := hQ h2 (by rw [show i + (n + 1) = i + 1 + n by omega]; exact hit2) (hs1.trans hs2)
    rw [hd, List.take_succ_cons] at this
    exact this
theorem unpackItems_lst {t : Addr} {items : Array Value} {Q : List Value → Shared → Prop} (hh : A.handled = none) (ht : s.heap.IsList t items)
    (hQ : ∀ h', Heap.ExtBut s.heap.objs.size s.heap h' → Q items.toList { s with heap := h' }) : wpAny (model prog w) A (unpackItems (.ref t) items.size none) Q E s := by
  have hlt : t ≠ s.heap.objs.size := by obtain ⟨o, ho, _⟩ := ht; exact Nat.ne_of_lt (Heap.lt_size ho)
  unfold unpackItems
  refine wpAny_bind ?_
  · unfold notIterableAtAll
    refine wpAny_bind (wpAny_specialOf ht.typeIs slot_list_iter.lookup ?_)
    refine wpAny_pure ?_
    simp only [Bool.false_eq_true, if_false]
    refine wpAny_bind (wpAny_holding (wpAny_pyIter_list ht ?_))
    refine wpAny_bind (wpAny_holding (pull_list hlt items.size 0 _ _ ⟨_, Heap.get?_push_size _ rfl, rfl, rfl⟩ (ht.push _) (by omega) fun h1 hit1 hs1 => ?_))
    have hall : List.take items.size (List.drop 0 items.toList) = items.toList := by
      rw [List.drop_zero]; exact List.take_of_length_le (by simp)
    rw [hall]
    rw [if_neg (by simp)]
    have ht1 : h1.IsList t items := (ht.push _).extBut hs1.extBut hlt
    refine wpAny_bind (wpAny_holding (wpAny_pyNext_list_end hh hit1 ht1 (by simp) fun h2 he2 => ?_))
    simp only [Option.isSome_none, Bool.false_eq_true, if_false]
    refine wpAny_pure (hQ h2 fun b o hb e => he2 b o hb (hs1.extBut b o hb (Heap.get?_push_of_some _ e)))
theorem assign_Tuple_lst {env : Env} {elts : List Expr} {x1} {pos : Pos} {t : Addr} {items : Array Value} {Q : Unit → Shared → Prop} (hh : A.handled = none) (ht : s.heap.IsList t items)
    (hn : (assignEach elts env).length = items.size) (hstar : (assignEach elts env).findIdx? (·.1) = none)
    (h : ∀ h', Heap.ExtBut s.heap.objs.size s.heap h' → wpAny (model prog w) A (assignInOrder ((assignEach elts env).map (·.2)) items.toList) Q E { s with heap := h' }) :
    wpAny (model prog w) A (assign (.Tuple elts x1 pos) env (.ref t)) Q E s := by
  rw [assign_Tuple]
  refine wpAny_bind (wpAny_standAt ?_)
  unfold unpack
  rw [hn, hstar]
  exact wpAny_bind (wpAny_holding (unpackItems_lst hh ht h))
end
variable {X : Cx}
def gTupL (K : PySem.W.Frag) (n : Nat) (t : TGs) : TG := fun v σ H Q => ∃ a xs, v = .ref a ∧ (SqT K H a xs ∨ SqL K H a xs) ∧ xs.length = n ∧ t xs σ H Q
theorem pg_tupL {es : List Expr} {k : Nat} {pos : Pos} {t : TGs} {n : Nat} (hc : X.calm = true) (h : PGs X es t)
    (hn : (assignEach es X.env).length = n := by rfl) (hst : (assignEach es X.env).findIdx? (·.1) = none := by rfl) : PG X (.Tuple es k pos) (gTupL X.K n t) := by
  intro pins s σ H v u Q I r hw
  obtain ⟨a, xs, e1, hq, hl, hw⟩ := hw
  subst e1
  cases r
  rcases hq with hq | hq
  · obtain ⟨its, rv, ht, hz⟩ := I.tuple hq
    refine assign_Tuple_tuple (I.ok.hd hc) ht (by simp [hn, ← hl, rv.length]) hst fun h' hx => ?_
    have I1 : Inv X pins σ H { s with heap := h' } := I.kept (t' := s.toks) fun b o e => hx b o (Nat.ne_of_lt (Heap.lt_size e)) e
    exact h pins _ σ H xs _ Q I1 (by simpa using rv) hw
  · obtain ⟨its, rv, ht, hz⟩ := I.list hq
    refine assign_Tuple_lst (I.ok.hd hc) ht.isList (by simp [hn, ← hl, rv.length]) hst fun h' hx => ?_
    have I1 : Inv X pins σ H { s with heap := h' } := I.kept (t' := s.toks) fun b o e => hx b o (Nat.ne_of_lt (Heap.lt_size e)) e
    exact h pins _ σ H xs _ Q I1 (by simpa using rv) hw
end L2
set_option Elab.async false
set_option linter.all false
set_option maxRecDepth 100000
namespace L2
open PySem PySem.Spec PyProof.Rows
structure Flown (P : Program) (w : World) (outer : List Env) (H : Hp) (s : Shared) (E : XK) (ea t : Addr) (cls : Value) (B : Heap) (H' : Hp) (s' : Shared) : Prop where
  os : s'.os = s.os
  bare : AllBare s'.gens
  fly : Heap.FlyingW B outer ea cls (.ref t) s'.heap
  keep : ∀ b o, s.heap.get? b = some o → H b = none → b ∉ frs outer → B.get? b = some o
  there : ∀ b o, s.heap.get? b = some o → b ∉ frs outer → ∃ o', B.get? b = some o'
  slot : ∀ b o, s.heap.get? b = some o → b ∈ frs outer → H b = none → ∃ sl, s'.heap.get? b = some { o with slots := sl }
  free : ∀ b o, s.heap.get? b = some o → H b = none → H' b = none
  tups : ∀ b xs, H b = some (.tup xs) → H' b = some (.tup xs)
  frzs : ∀ b o u, H b = some (.frz o u) → H' b = some (.frz o u)
  tbls : ∀ b ps, H b = some (.tbl ps) → ∃ more, H' b = some (.tbl (ps ++ more))
  hok : HOk P w H' B
  wish : E cls none H'
def CXW (P : Program) (w : World) : CXT := fun outer H s E e s' => ∃ ea t cls B H', e = .ref ea ∧ Flown P w outer H s E ea t cls B H' s'
def RaiseOk (X : Cx) (cls : Value) (W : Hp → Prop) : Prop := ∀ (pins : List (Addr × Obj)) (σ : St) (H : Hp) (s : Shared) (e : Addr) (h' : Heap) (vs : List Value), Inv X pins σ H s → Heap.MadeExcOf s.heap h' e cls vs → W H → X.xe (.ref e) { s with heap := h' }
def tRaise (W : Hp → Prop) (t : TA) : TS := fun _ σ H => t σ H fun vs H1 => vs.length ≤ 100 ∧ W H1
theorem exc_obj {K : PySem.W.Frag} {h₀ : Heap} {C : Addr} {bmB : List Value} {newId : String} (X : K.In h₀) (q : PySem.W.excIn K C bmB newId = true) :
    ∃ bm N nm q bs hdct sn sub ab col dd k0 k1 k2 k3 k5 mN, h₀.get? C = some (excClassObj nm q C N bs bm hdct sn sub ab col dd k0 k1 k2 k3 k5 newId) ∧ h₀.Ns N mN ∧ mN "__init__" = none ∧ OwnTail h₀ bmB bm := by
  unfold PySem.W.excIn at q
  split at q
  · rename_i dd cd sl ho
    split at q
    · rename_i C' bm k0 k1 k2 k3 n k5 hm hs
      simp only [Bool.and_eq_true, beq_iff_eq, Bool.not_eq_true'] at q
      obtain ⟨⟨⟨⟨⟨rfl, rfl⟩, hdel⟩, ht⟩, hok⟩, hni⟩ := q
      obtain ⟨nm, bs, mro, ns, qn, hd, sn, sub, ab, col, del⟩ := cd
      dsimp only at hm hdel hok hni
      subst hm hdel
      have hsl : sl = #[k0, k1, k2, k3, some (.builtin n), k5] := by
        obtain ⟨l⟩ := sl
        simp only at hs
        rw [hs]
      subst hsl
      exact ⟨bm, ns, nm, qn, bs, hd, sn, sub, ab, col, dd, k0, k1, k2, k3, k5, _, X _ _ ho, .of_isNs (PySem.W.isNs_of_in X hok), PySem.W.nsMap_none_of_in X hok hni, PySem.W.tail_of_in X ht⟩
    · cases q
  · cases q
section
variable {X : Cx}
theorem ps_raise {x : Str} {C : Addr} {Bn newId initId : String} {bm : List Value} {np cpos pos : Pos} {e : Expr} {es : List Expr} {t : TA} {W : Hp → Prop} (hc : X.calm = true) (hg : Gl X x) (hm : X.mg x = some (.ref C)) (hq : PySem.W.excIn X.K C bm newId = true)
    (FB : ExcBaseFacts Bn newId initId bm) (hx : RaiseOk X (.ref C) W) (ha : PA X (e :: es) t) (hdb : (x == ("__debug__" : Str)) = false := by decide)
    (he : starEach (e :: es) X.env = (false, eval e X.env) :: starEach es X.env := by rfl) (hpl : (backTo cpos (starEach es X.env)).any (·.1) = false := by rfl) :
    PS X (.Raise (some (.Call (.Name x np) (e :: es) [] cpos)) none pos) (tRaise W t) := by
  intro pins s σ H D I h
  obtain ⟨tl, N, nm, q, bs, hdct, sn, sub, ab, col, dd, k0, k1, k2, k3, k5, mN, hC, hN, hni, T⟩ := exc_obj I.mod.kin hq
  refine wpAny_Raise_call_subT (C := C) (nm := nm) (q := q) (N := N) (bs := bs) (bm := tl) (hdct := hdct) (sn := sn) (sub := sub) (ab := ab) (col := col) (dd := dd) (k0 := k0) (k1 := k1) (k2 := k2) (k3 := k3) (k5 := k5)
    FB (mN := mN) (T.hasType FB.hasBase) (I.ok.hd hc) (by rw [he]; show (false || (backTo cpos (starEach es X.env)).any (·.1)) = false; rw [hpl]; rfl) hni (ld_glob I hg hm ⟨rfl, ?_⟩ hdb)
  have hp := ha cpos pins s σ H _ I h
  rw [he] at hp ⊢
  refine Calls.evalArgs_plain (wpAny_mono hp (fun vs s₂ h₂ => ?_) fun _ _ y => y)
  obtain ⟨us, H1, I1, r1, hl, w1⟩ := h₂
  exact ⟨rfl, by rw [← r1.length]; exact Nat.le_trans hl (by simp only [sizeLine]; omega), I1.bk _ _ hC, hN.keeps I1.bk, T.keeps I1.bk, fun h' e' hm' => hx pins σ H1 s₂ e' h' vs I1 hm' w1⟩
theorem raiseOk_leave {P : Program} {w : World} {K : PySem.W.Frag} {mg : Str → Option Value} {base : Heap} {N : List Str} {qual : Str} {scope : Scope} {f : Addr} {cd : Value} {A : Around} {outer : List Env} {s₀ : Shared} {H₀ : Hp} {E : XK} {cls : Value}
    (hk : scope.kind = .function) (hex : (envOfC qual scope s₀.heap.objs.size f cd).frame = some s₀.heap.objs.size) : RaiseOk (cxOf (CXW P w) P w K mg base N qual scope f cd A outer s₀ H₀ E) cls (fun H' => E cls none H') := by
  intro pins σ H s e h' vs I hx hw
  have noA : ∀ b : Addr, b ∉ (cxOf (CXW P w) P w K mg base N qual scope f cd A outer s₀ H₀ E).ex := fun b z => absurd (show b ∈ ([] : List Addr) from z) (by simp)
  have hst := I.stack
  have frL : (cxOf (CXW P w) P w K mg base N qual scope f cd A outer s₀ H₀ E).stack = envOfC qual scope s₀.heap.objs.size f cd :: outer := rfl
  rw [frL] at hst
  have hfr := I.ok.frames
  have hin : ∀ env ∈ (envOfC qual scope s₀.heap.objs.size f cd :: outer), ∀ b, env.frame = some b → b ∈ frs (envOfC qual scope s₀.heap.objs.size f cd :: outer) := fun env he b hb => List.mem_filterMap.mpr ⟨env, he, hb⟩
  have noH : ∀ b ∈ frs (envOfC qual scope s₀.heap.objs.size f cd :: outer), H b = none := fun b hb => I.stkFree b hb
  show wpAny _ _ (leaving _ (.ref e)) _ _ _
  refine wpAny_leaves_madeW (base := PySem.W.hideAll s.heap (frs (envOfC qual scope s₀.heap.objs.size f cd :: outer))) hfr hex (fun b o q => PySem.W.of_hideAll _ q) (PySem.W.funFrames_hide hst hin) hx fun h2 t x1 x2 x3 x4 => ?_
  have sub : ∀ b ∈ frs outer, b ∈ frs (envOfC qual scope s₀.heap.objs.size f cd :: outer) := fun b hb => by
    obtain ⟨env, he, hf⟩ := List.mem_filterMap.mp hb
    exact hin env (List.mem_cons_of_mem _ he) b hf
  have out : ∀ b o, s₀.heap.get? b = some o → b ∉ frs outer → b ∉ frs (envOfC qual scope s₀.heap.objs.size f cd :: outer) := fun b o q hb hm => by
    obtain ⟨env, he, hf⟩ := List.mem_filterMap.mp hm
    rcases List.mem_cons.mp he with rfl | he
    · rw [hex] at hf
      cases hf
      exact absurd (Heap.lt_size q) (Nat.lt_irrefl _)
    · exact hb (List.mem_filterMap.mpr ⟨env, he, hf⟩)
  refine ⟨e, t, cls, _, H, rfl, ⟨I.os, I.bare, x1, fun b o q n hb => ?_, fun b o q hb => ?_, fun b o q hb n => ?_, fun b o q n => ?_, I.base.tups, I.base.frzs, I.base.tbls, fun b u q => ?_, hw⟩⟩
  · exact PySem.W.hideAll_get _ (I.base.keep b o q n hb (noA b)) (out b o q hb)
  · obtain ⟨o', q'⟩ := I.base.there b o q (noA b)
    exact ⟨o', PySem.W.hideAll_get _ q' (out b o q hb)⟩
  · obtain ⟨sl, q'⟩ := I.base.slot b o q n hb (noA b)
    obtain ⟨_, o2, q2, hd⟩ := hst.mem (sub b hb)
    rw [q'] at q2
    cases q2
    obtain ⟨sl', q3⟩ := x4 b _ (hx.keeps b _ q') hd
    exact ⟨sl', q3⟩
  · exact I.base.free b o q n (noA b)
  · refine (I.hok b u q).stay (fun c v hc q' => PySem.W.hideAll_get _ q' fun hm => ?_) (fun _ q' => q') fun _ _ q' => q'
    have hn := noH c hm
    rcases hc with z | z
    · rw [z, q] at hn; cases hn
    · rw [z] at hn; cases hn
theorem goes_ok {M : Model} {A : Around} {E : Value → Shared → Prop} {pins : List (Addr × Obj)} {σ : St} {H : Hp} {s : Shared} {i : Nat} {x : Str} {pos : Pos} {Q : Unit → Shared → Prop} (I : Inv X pins σ H s) (hN : X.N.Nodup) (hi : X.N[i]? = some x) (hk : X.env.scope.names.lookup x = some .local)
    (h : ∀ s', Inv X pins (σ.set i none) H s' → Q () s') : wpAny M A (do bindName X.env x .none; unbindBehindTheSuite X.env x pos) Q E s := by
  obtain ⟨m, hn, hl⟩ := id I.loc
  have hk' : X.env.kindOf x = some .local := hk
  have hcls : (X.env.scope.kind == .class || (X.env.scope.kind == .module && X.env.locals != X.env.globals)) = false := by rw [I.ok.kind]; rfl
  have hiσ : i < σ.length := by rw [I.len]; exact (List.getElem?_eq_some_iff.mp hi).1
  have cne := I.cne
  refine wpAny_bind (wpAny_bindName (wpAny_storeName_local hk' hn (fun h₁ hn₁ hs₁ => ?_) hcls))
  unfold unbindBehindTheSuite
  refine wpAny_onRaise ?_
  unfold unbindName
  refine wpAny_bind (wpAny_point (wpAny_bind ?_))
  unfold deleteName
  simp only [hk', hcls]
  rw [if_neg (by decide)]
  refine wpAny_bind (wpAny_nsDel_keeps hn₁ fun h₂ v hn₂ hs₂ => ?_)
  simp only [if_true, Option.isSome_some, Bool.not_true, Bool.false_eq_true, if_false]
  have hs : Heap.SameBut X.env.locals s.heap h₂ := hs₁.trans hs₂
  obtain ⟨oL, _, _, hoL, _⟩ := id hn
  refine wpAny_pure (wpAny_point (h _ ⟨I.ok, I.os, I.bare, ⟨fun b o e n hb hx => ?_, fun b o e n hb hx => ?_, I.base.free, fun b o e hx => ?_, I.base.tups, I.base.frzs, I.base.tbls⟩, ⟨_, hn₂, fun j y v' e1 e2 e3 => ?_⟩, fun y c e => ?_, I.free, I.freeC, fun p hp => ?_, fun b ob e => ?_, by simpa using I.len⟩))
  · exact (hs.2 b (Nat.ne_of_lt (Nat.lt_of_lt_of_le (Heap.lt_size e) I.ok.above))).trans (I.base.keep b o e n hb hx)
  · obtain ⟨sl, e1⟩ := I.base.slot b o e n hb hx
    exact ⟨sl, (hs.2 b (Nat.ne_of_lt (Nat.lt_of_lt_of_le (Heap.lt_size e) I.ok.above))).trans e1⟩
  · obtain ⟨o', e1⟩ := I.base.there b o e hx
    exact ⟨o', (hs.2 b (Nat.ne_of_lt (Nat.lt_of_lt_of_le (Heap.lt_size e) I.ok.above))).trans e1⟩
  · by_cases hj : j = i
    · subst hj
      rw [List.getElem?_set_self hiσ] at e2
      cases e2
    · rw [List.getElem?_set_ne (Ne.symm hj)] at e2
      obtain ⟨u', r', q⟩ := hl j y v' e1 e2 e3
      refine ⟨u', r', ?_⟩
      rcases q with ⟨k, e⟩ | ⟨k, c, e, z⟩
      · refine .inl ⟨k, ?_⟩
        have : y ≠ x := fun e => hj (nodup_ix hN e1 (e ▸ hi))
        simp [this, e]
      · exact .inr ⟨k, c, e, z.sameBut hs (cne y c e)⟩
  · obtain ⟨w', z⟩ := I.cell y c e
    exact ⟨w', z.sameBut hs (cne y c e)⟩
  · obtain ⟨e, n, ne, nf, d⟩ := I.pin p hp
    exact ⟨(hs.2 p.1 ne).trans e, n, ne, nf, d⟩
  · refine (I.hok b ob e).stay (fun c w' hc q => (hs.2 c ?_).trans q) (fun _ q => q) fun _ _ q => q
    rintro rfl
    rcases hc with rfl | hc
    · rw [I.free] at e; cases e
    · rw [I.free] at hc; cases hc
theorem ObjOk.is {P : Program} {w : World} {H : Hp} {h : Heap} {a : Addr} {o : HO} (x : ObjOk P w H h a o) : ∃ u, h.get? a = some u := by
  induction o with
  | lst xs => obtain ⟨z, its, n, r, e⟩ := x; exact ⟨_, e⟩
  | tup xs => obtain ⟨z, its, r, ob, e, c⟩ := x; exact ⟨_, e⟩
  | dK kvs => obtain ⟨z, y, vs, r, ob, es, ep, e, c⟩ := x; exact ⟨_, e⟩
  | dT kvs => obtain ⟨z, y, xs, r, ob, es, ep, e, c⟩ := x; exact ⟨_, e⟩
  | set S n => obtain ⟨ob, es, ep, t, e, c⟩ := x; exact ⟨_, e⟩
  | ins C dx fs => obtain ⟨_, _, _, e, _⟩ := x; exact ⟨_, e⟩
  | own _ => exact x
  | xd fs => obtain ⟨_, ⟨_, _, _, e, _⟩, _⟩ := x; exact ⟨_, e⟩
  | rng lo hi => obtain ⟨_, _, _, e⟩ := x; exact ⟨_, e⟩
  | frz ob u => obtain ⟨e, _⟩ := x; exact ⟨_, e⟩
  | tbl ps => exact ⟨_, x⟩
  | met f y => exact ⟨_, x⟩
  | ext φ => obtain ⟨_, e, _⟩ := x; exact e
theorem Flown.inv {pins : List (Addr × Obj)} {σ : St} {H H' : Hp} {s s' : Shared} {E : XK} {ea t : Addr} {cls : Value} {B h2 : Heap} (fl : Flown X.prog X.w X.stack H s E ea t cls B H' s') (I : Inv X pins σ H s) (f2 : Heap.FlyingW B X.stack ea cls (.ref t) h2) (sm : s'.heap.UpToSlots h2) :
    Inv X pins σ H' { s' with heap := h2 } := by
  refine I.call' (ch := []) fl.os ⟨fun b o q n hb _ => f2.1 b o (fl.keep b o q n hb), fun b o q n hb _ => ?_, fun b o q n _ => fl.free b o q n, fun b o q _ => ?_, fl.tups, fl.frzs, fl.tbls⟩ (fl.hok.kept f2.1) fl.bare (fun b z => absurd z (by simp))
  · obtain ⟨sl, q1⟩ := fl.slot b o q hb n
    obtain ⟨_, o2, q2, hd⟩ := fl.fly.2.2.1.mem hb
    rw [q1] at q2
    cases q2
    obtain ⟨sl', q3⟩ := sm b _ q1 hd
    exact ⟨sl', q3⟩
  · by_cases hb : b ∈ frs X.stack
    · obtain ⟨sl, q1⟩ := fl.slot b o q hb (I.stkFree b hb)
      obtain ⟨_, o2, q2, hd⟩ := fl.fly.2.2.1.mem hb
      rw [q1] at q2
      cases q2
      obtain ⟨sl', q3⟩ := sm b _ q1 hd
      exact ⟨_, q3⟩
    · obtain ⟨o', q1⟩ := fl.there b o q hb
      exact ⟨o', f2.1 b o' q1⟩
end
def Cx.mkd (X : Cx) (e : Addr) : Cx := { X with A := X.A.mark (some (.ref e)), calm := false, xe := fun _ _ => False }
def Cx.inX (X : Cx) (e : Addr) (oe : Obj) : Cx := { X with A := X.A.mark (some (.ref e)), calm := false, pn := (e, oe) :: X.pn, xe := fun _ _ => False }
section
variable {X : Cx} {pins : List (Addr × Obj)} {σ : St} {H : Hp} {s : Shared} {e : Addr} {oe : Obj}
theorem Cx.Ok.mkd (ok : X.Ok) : (X.mkd e).Ok := ⟨ok.mod, ok.kind, ok.glob, ok.blt, ok.above, ok.inj, ok.has, ok.cab, fun h => absurd (show false = true from h) Bool.false_ne_true, ok.frames, ok.stk, ok.exf, ok.bs, ok.bsz, ok.noex, ok.exfs, ok.funs, ok.frf⟩
theorem Inv.mkd (I : Inv X pins σ H s) : Inv (X.mkd e) pins σ H s := ⟨I.ok.mkd, I.os, I.bare, I.base, I.loc, I.cell, I.free, I.freeC, I.pin, I.hok, I.len⟩
theorem Cx.Ok.inX (ok : X.Ok) : (X.inX e oe).Ok := ⟨ok.mod, ok.kind, ok.glob, ok.blt, ok.above, ok.inj, ok.has, ok.cab, fun h => absurd (show false = true from h) Bool.false_ne_true, ok.frames, ok.stk, ok.exf, ok.bs, ok.bsz, ok.noex, ok.exfs, ok.funs, ok.frf⟩
theorem Inv.inX (I : Inv X pins σ H s) (h1 : s.heap.get? e = some oe) (h2 : H e = none) (h3 : e ≠ X.env.locals) (h4 : e ∉ X.fs) (h5 : ∀ v, oe.data ≠ .cell v) : Inv (X.inX e oe) pins σ H s :=
  ⟨I.ok.inX, I.os, I.bare, I.base, I.loc, I.cell, I.free, I.freeC, fun p hp => by
    rcases List.mem_cons.mp (show p ∈ (e, oe) :: (X.pn ++ pins) from hp) with rfl | hp
    · exact ⟨h1, h2, h3, h4, h5⟩
    · exact I.pin p hp, I.hok, I.len⟩
def Ends.drop (D : Ends) (i : Nat) : Ends := { nx := fun σ H => D.nx (σ.set i none) H, rt := D.rt, bk := fun σ H => D.bk (σ.set i none) H, ct := fun σ H => D.ct (σ.set i none) H }
end
end L2
set_option Elab.async false
set_option linter.all false
set_option maxRecDepth 100000
namespace L2
open PySem PySem.Spec PyProof.Rows PySem.W Builtin Builtin.ObjectAttr Builtin.Getset_descriptor
section
variable {prog : Program} {w : World} {A : Around} {E : Value → Shared → Prop} {K : PySem.W.Frag} {a D : Addr} {o : Obj} {h : Heap} {g : Array GenState} {d : Drawn} {t : Nat} {os : OsState}
structure ExcK (K : PySem.W.Frag) (D : Addr) : Prop where
  ga : findIn K (.ref D) "__getattribute__" = some (some (.builtin "BaseException.__getattribute__"))
  gn : findIn K (.ref D) "__getattr__" = some none
  ca : findIn K (.ref D) "__class__" = some (some (.builtin "object.__class__"))
  sub : subIn K (.ref D) (.type "BaseException") = some true
  mro : mroIn K D (.type "object") = some true
  gs : specialIn K (.builtin "object.__class__") "__get__" = some (some (.builtin "getset_descriptor.__get__"))
  tk : takesIn K (.builtin "object.__class__") = some true
  cls : (clsIn K D).isSome = true
theorem exc_type (hx : h.get? a = some o) (hc : o.cls = .ref D) (M : Model) : Looks M h (typeOf (.ref a)) (.ref D) := hc ▸ (Looks.ld hx).andThen .now
theorem exc_class_get {R : Result → Shared → Prop} {tp : Value} (X : K.In h) (hx : h.get? a = some o) (hc : o.cls = .ref D) (Z : ExcK K D) (hq : R (.ok (.ret (.ref D))) ⟨h, g, d, t, os⟩) :
    codeAny (model prog w) A (.call (.builtin "getset_descriptor.__get__") ⟨[.builtin "object.__class__", .ref a, tp], []⟩) R ⟨h, g, d, t, os⟩ := by
  have L0 := exc_type hx hc (model prog w)
  have L1 := looks_mroIn (M := model prog w) X Z.mro
  refine codeAny_call_builtin KF.slot_gs.plain KF.entry_gs (KF.slot_gs.check _ _ _ _ _ _ _ _ KF.type_class (KF.args_gs _ _ _) ?_)
  unfold Builtin.«getset_descriptor.__get__» descrGet
  rw [dga_obj]
  refine wpAny_bind (wpAny_pure ?_)
  unfold descrGetter descrCheckInstance descrNameAndClass isInstance
  simp only [KF.owner_class]
  repeat lk
  refine ⟨Code.quiet_builtin _ (by decide +kernel), codeAny_builtin KF.entry_class ?_⟩
  unfold Builtin.«object.__class__» shownTypeOf
  repeat lk
  exact hq
theorem exc_class_entry {tk : Tok} {Q : PySem.Fin → Shared → Prop} (X : K.In h) (hx : h.get? a = some o) (hc : o.cls = .ref D) (Z : ExcK K D) (hq : Q (.done (.ret (.ref D))) ⟨h, g, d, t, os⟩) :
    wpAny (model prog w) A (Builtin.«object.__getattribute__» ⟨[.ref a, .str "__class__" tk], []⟩) Q E ⟨h, g, d, t, os⟩ := by
  have L0 := exc_type hx hc (model prog w)
  have L2 := looks_findIn (M := model prog w) X Z.ca
  have L3 := looks_specialIn (M := model prog w) X Z.gs
  have L4 := looks_takesIn (M := model prog w) X Z.tk
  unfold Builtin.«object.__getattribute__» find
  repeat (first | with_reducible refine wpAny_call (exc_class_get X hx hc Z ?_) | lk)
  exact hq
theorem exc_class_attr {Q : Option Value → Shared → Prop} (X : K.In h) (hx : h.get? a = some o) (hc : o.cls = .ref D) (Z : ExcK K D) (hq : Q (some (.ref D)) ⟨h, g, d, t + 1, os⟩) :
    wpAny (model prog w) A (getAttr? (.ref a) "__class__") Q E ⟨h, g, d, t, os⟩ := by
  have L0 := exc_type hx hc (model prog w)
  have L1 := looks_findIn (M := model prog w) X Z.ga
  have L2 := looks_findIn (M := model prog w) X Z.gn
  unfold getAttr? getAttrBy? getAttrBy
  refine wpAny_bind (wpAny_mkText (wpAny_bind (wpAny_attempt (wpAny_holding (wpAny_bind (L0.at (wpAny_bind (L1.at ?_))))))))
  show wpAny _ _ (getAttrByItsOwn _ _ _ _ _ _) _ _ _
  unfold getAttrByItsOwn hookBefore
  rw [if_pos (show onTheHeap (Value.ref D) = true from rfl)]
  refine wpAny_bind (L2.at ?_)
  have hck : ∀ {Q' : Unit → Shared → Prop} {E' : Value → Shared → Prop} {A' : Around} {nv : Value} {t' : Nat}, Q' () ⟨h, g, d, t', os⟩ → wpAny (model prog w) A' (checkBuiltinCall "BaseException.__getattribute__" ⟨[.ref a, nv], []⟩) Q' E' ⟨h, g, d, t', os⟩ := fun {Q' E' A' nv t'} q' => by
    have L5 := looks_subIn (M := model prog w) X Z.sub
    have hk : builtinKind "BaseException.__getattribute__" = some .slot := by decide +kernel
    have hsplit : splitId "BaseException.__getattribute__" = some ("BaseException", "__getattribute__") := by decide +kernel
    have ha := F.args_bexc_ga (.ref a) nv
    have LI : Looks (model prog w) h (isInstance (.ref a) (.type "BaseException")) true := L0.andThen L5
    simp only [checkBuiltinCall, hk, hsplit]
    refine wpAny_bind ?_
    repeat (first | with_reducible refine Looks.at (by assumption) ?_ | wp_step)
    exact q'
  have f3 := F.attr_ValueError.ga.bind (.ref a)
  refine wpAny_bind (wpAny_attempt (wpAny_holding ?_))
  show wpAny _ _ (boundAndCalled _ _ _) _ _ _
  unfold boundAndCalled
  rw [f3]
  refine wpAny_bind (wpAny_pure ?_)
  refine wpAny_call (codeAny_call_builtin F.attr_ValueError.ga.plain F.entry_bexc_ga (hck (exc_class_entry X hx hc Z ?_)))
  exact handed_on rfl (wpAny_pure hq)
theorem kitx_exc (Z : ExcK K D) (hc : o.cls = .ref D) : KitX K (.ref a) (.ref D) (fun h => h.get? a = some o) where
  ty := fun M _ _ hx => exc_type hx hc M
  it := fun _ _ X _ => by
    obtain ⟨cd, hcd⟩ := Option.isSome_iff_exists.mp Z.cls
    unfold clsIn at hcd
    split at hcd
    · rename_i c' d' cd' sl' ho
      intro A' Q' E' s' k q
      unfold isType loadHead
      exact wpAny_bind (wpAny_loadPart (k _ _ (X _ _ ho)) (wpAny_pure q))
    · cases hcd
  ne := fun h tp dd its n sl X htp => by
    obtain ⟨cd, hcd⟩ := Option.isSome_iff_exists.mp Z.cls
    refine Bool.eq_false_iff.mpr fun q => ?_
    have e : D = tp := Value.ref.inj (beq_iff_eq.mp q)
    subst e
    unfold clsIn at hcd
    split at hcd
    · rename_i c' d' cd' sl' ho
      have z := (X _ _ ho).symm.trans htp
      cases z
    · cases hcd
  ca := fun {_ _ _ _ _ s} X hx k => by
    obtain ⟨h, g, d, t, os⟩ := s
    exact exc_class_attr X hx hc Z k
end
section
variable {X : Cx} {e : Addr} {oe : Obj} {D : Addr}
end
end L2
set_option Elab.async false
set_option linter.all false
set_option maxRecDepth 100000
namespace Mir
open PySem L2
class Zc where
  e : Addr
instance (priority := 10) zc0 : Zc := ⟨0⟩
variable [Zc]
noncomputable def cIf {α : Type} (c : Prop) (a b : α) : α := @ite α c (Classical.propDecidable c) a b
theorem cIf_pos {α : Type} {c : Prop} {a b : α} (h : c) : cIf c a b = a := by unfold cIf; rw [if_pos h]
theorem cIf_neg {α : Type} {c : Prop} {a b : α} (h : ¬ c) : cIf c a b = b := by unfold cIf; rw [if_neg h]
theorem cIf_true {α : Type} {a b : α} : cIf True a b = a := cIf_pos trivial
theorem cIf_eq {α : Type} {c : Prop} {a : Option α} {x : α} (h : cIf c a none = some x) : c ∧ a = some x := by
  by_cases hc : c
  · rw [cIf_pos hc] at h; exact ⟨hc, h⟩
  · rw [cIf_neg hc] at h; cases h
abbrev D := PyData
def KeyD : Key → D → Prop
  | .inl i, c => c = .int i
  | .inr x, c => c = .str x
mutual
inductive Rep (H : Hp) : V → D → Prop
  | non : Rep H .non .none
  | bl (b : Bool) : Rep H (.bl b) (.bool b)
  | int (i : Int) : Rep H (.int i) (.int i)
  | str (x : Str) : Rep H (.str x) (.str x)
  | lst {a : Addr} {xs : List V} {ds : List D} : Rd H a (.lst xs) → Reps H xs ds → Rep H (.ref a) (.list ds)
  | tup {a : Addr} {xs : List V} {ds : List D} : H a = some (.tup xs) → Reps H xs ds → Rep H (.ref a) (.tuple ds)
  | dct {a : Addr} {kvs : List (Key × V)} {es : List (D × D)} : Rd H a (.dK kvs) → RepKs H kvs es → Rep H (.ref a) (.dict es)
inductive Reps (H : Hp) : List V → List D → Prop
  | nil : Reps H [] []
  | cons {x : V} {xs : List V} {d : D} {ds : List D} : Rep H x d → Reps H xs ds → Reps H (x :: xs) (d :: ds)
inductive RepKs (H : Hp) : List (Key × V) → List (D × D) → Prop
  | nil : RepKs H [] []
  | cons {k : Key} {x : V} {kvs : List (Key × V)} {c d : D} {es : List (D × D)} : KeyD k c → Rep H x d → RepKs H kvs es → RepKs H ((k, x) :: kvs) ((c, d) :: es)
end
theorem rd_same {H H' : Hp} (e : Same H H') {a : Addr} {u : HO} (h : Rd H a u) : Rd H' a u := by
  rcases h with h | ⟨o, h⟩
  · exact .inl (e _ _ h)
  · exact .inr ⟨o, e _ _ h⟩
mutual
theorem Rep.mono {H H' : Hp} (e : Same H H') : ∀ {v : V} {d : D}, Rep H v d → Rep H' v d
  | _, _, .non => .non
  | _, _, .bl b => .bl b
  | _, _, .int i => .int i
  | _, _, .str x => .str x
  | _, _, .lst h r => .lst (rd_same e h) (Reps.mono e r)
  | _, _, .tup h r => .tup (e _ _ h) (Reps.mono e r)
  | _, _, .dct h r => .dct (rd_same e h) (RepKs.mono e r)
theorem Reps.mono {H H' : Hp} (e : Same H H') : ∀ {v : List V} {d : List D}, Reps H v d → Reps H' v d
  | _, _, .nil => .nil
  | _, _, .cons a b => .cons (Rep.mono e a) (Reps.mono e b)
theorem RepKs.mono {H H' : Hp} (e : Same H H') : ∀ {v : List (Key × V)} {d : List (D × D)}, RepKs H v d → RepKs H' v d
  | _, _, .nil => .nil
  | _, _, .cons k a b => .cons k (Rep.mono e a) (RepKs.mono e b)
end
theorem Reps.length {H : Hp} : ∀ {v : List V} {d : List D}, Reps H v d → v.length = d.length
  | _, _, .nil => rfl
  | _, _, .cons _ b => by simp [Reps.length b]
theorem Reps.get {H : Hp} : ∀ {v : List V} {d : List D} (i : Nat), Reps H v d → ∀ c, d[i]? = some c → ∃ x, v[i]? = some x ∧ Rep H x c
  | _, _, _, .nil, c, e => by simp at e
  | _, _, 0, .cons a _, c, e => by simp at e; subst e; exact ⟨_, rfl, a⟩
  | _, _, i + 1, .cons _ b, c, e => by
    obtain ⟨x, h1, h2⟩ := Reps.get i b c (by simpa using e)
    exact ⟨x, by simpa using h1, h2⟩
theorem Reps.append {H : Hp} : ∀ {v w : List V} {d c : List D}, Reps H v d → Reps H w c → Reps H (v ++ w) (d ++ c)
  | _, _, _, _, .nil, r => r
  | _, _, _, _, .cons a b, r => .cons a (Reps.append b r)
theorem Reps.take {H : Hp} : ∀ {v : List V} {d : List D} (n : Nat), Reps H v d → Reps H (v.take n) (d.take n)
  | _, _, 0, _ => .nil
  | _, _, _ + 1, .nil => .nil
  | _, _, n + 1, .cons a b => .cons a (Reps.take n b)
theorem Reps.drop {H : Hp} : ∀ {v : List V} {d : List D} (n : Nat), Reps H v d → Reps H (v.drop n) (d.drop n)
  | _, _, 0, r => r
  | _, _, _ + 1, .nil => .nil
  | _, _, n + 1, .cons _ b => Reps.drop n b
theorem Reps.set {H : Hp} {x : V} {c : D} (r : Rep H x c) : ∀ {v : List V} {d : List D} (i : Nat), Reps H v d → Reps H (v.set i x) (d.set i c)
  | _, _, _, .nil => .nil
  | _, _, 0, .cons _ b => .cons r b
  | _, _, i + 1, .cons a b => .cons a (Reps.set r i b)
theorem Reps.eraseIdx {H : Hp} : ∀ {v : List V} {d : List D} (i : Nat), Reps H v d → Reps H (v.eraseIdx i) (d.eraseIdx i)
  | _, _, _, .nil => .nil
  | _, _, 0, .cons _ b => b
  | _, _, i + 1, .cons a b => .cons a (Reps.eraseIdx i b)
theorem Reps.dropLast {H : Hp} {v : List V} {d : List D} (r : Reps H v d) : Reps H v.dropLast d.dropLast := by
  rw [List.dropLast_eq_take, List.dropLast_eq_take, r.length]; exact r.take _
theorem Reps.reverse {H : Hp} : ∀ {v : List V} {d : List D}, Reps H v d → Reps H v.reverse d.reverse
  | _, _, .nil => .nil
  | _, _, .cons a b => by rw [List.reverse_cons, List.reverse_cons]; exact (Reps.reverse b).append (.cons a .nil)
theorem Reps.flat {H : Hp} {v : List V} {d : List D} (r : Reps H v d) : ∀ k, Reps H (List.replicate k v).flatten (List.replicate k d).flatten
  | 0 => .nil
  | k + 1 => by
    rw [List.replicate_succ, List.replicate_succ, List.flatten_cons, List.flatten_cons]; exact r.append (Reps.flat r k)
inductive Sl where
  | no | fz (d : D) | own (d : D) | io (d : D) | ro (d : D) | ex
def Sl.isOwn : Sl → Bool
  | .own _ => true
  | .io _ => true
  | _ => false
def Sl.isRef : Sl → Bool
  | .own _ => true
  | .io _ => true
  | .ro _ => true
  | _ => false
theorem Sl.ref_of {s : Sl} (h : s.isOwn = true) : s.isRef = true := by cases s <;> first | rfl | cases h
abbrev Rho := List Sl
inductive Kd where
  | fz | new | at (i : Nat) | ro
abbrev RV := D × Kd
inductive Own (B H : Hp) (p : Addr) : D → Prop
  | lst {xs : List V} {ds : List D} : H p = some (.lst xs) → Reps B xs ds → Own B H p (.list ds)
  | dct {kvs : List (Key × V)} {es : List (D × D)} : H p = some (.dK kvs) → RepKs B kvs es → Own B H p (.dict es)
theorem Own.there {B H : Hp} {p : Addr} {d : D} (h : Own B H p d) : ∃ o, H p = some o := by cases h with
  | lst h _ => exact ⟨_, h⟩
  | dct h _ => exact ⟨_, h⟩
theorem Own.ne_none {B H : Hp} {p : Addr} {d : D} (h : Own B H p d) : H p ≠ none := by
  obtain ⟨o, e⟩ := h.there; rw [e]; simp
theorem Own.mono {B H B' H' : Hp} {p : Addr} {d : D} (h : Own B H p d) (e : Same B B') (k : ∀ o, H p = some o → H' p = some o) : Own B' H' p d := by cases h with
  | lst h r => exact .lst (k _ h) (r.mono e)
  | dct h r => exact .dct (k _ h) (r.mono e)
theorem Own.rep {B H : Hp} {p : Addr} {d : D} (h : Own B H p d) (e : Same B H) : Rep H (.ref p) d := by cases h with
  | lst h r => exact .lst (.inl h) (r.mono e)
  | dct h r => exact .dct (.inl h) (r.mono e)
theorem Own.frozen {B H B' : Hp} {p : Addr} {d : D} (h : Own B H p d) (e : Same B B') (k : ∀ o, H p = some o → B' p = some o) : Rep B' (.ref p) d := by cases h with
  | lst h r => exact .lst (.inl (k _ h)) (r.mono e)
  | dct h r => exact .dct (.inl (k _ h)) (r.mono e)
structure Fr where
  B : Hp
  H : Hp
  io : List (Nat × Addr)
  Z : Addr → Prop
def SlotOk (B H : Hp) (σ : St) (i : Nat) : Sl → Prop
  | .no => True
  | .ex => True
  | .fz d => ∃ v, σ[i]? = some (some v) ∧ Rep B v d
  | .own d => ∃ p, σ[i]? = some (some (.ref p)) ∧ B p = none ∧ Own B H p d
  | .io d => ∃ p, σ[i]? = some (some (.ref p)) ∧ B p = none ∧ Own B H p d
  | .ro d => ∃ p, σ[i]? = some (some (.ref p)) ∧ Own B H p d
structure Rel (F : Fr) (B H : Hp) (σ : St) (ρ : Rho) : Prop where
  sub : Same B H
  sB : Same F.B B
  sH : ∀ q o, F.H q = some o → (∀ x ∈ F.io, x.2 ≠ q) → H q = some o
  nB : ∀ q, F.H q ≠ none → F.B q = none → B q = none
  len : ρ.length = σ.length
  slot : ∀ (i : Nat) (s : Sl), ρ[i]? = some s → SlotOk B H σ i s
  dist : ∀ (i j : Nat) (s t : Sl) (p : Addr), ρ[i]? = some s → s.isOwn = true → ρ[j]? = some t → t.isRef = true → σ[i]? = some (some (.ref p)) → σ[j]? = some (some (.ref p)) → i = j
  ownN : ∀ (i : Nat) (d : D) (p : Addr), ρ[i]? = some (.own d) → σ[i]? = some (some (.ref p)) → F.H p = none
  fx : ∀ x ∈ F.io, σ[x.1]? = some (some (.ref x.2)) ∧ ∃ d, ρ[x.1]? = some (.io d)
  ioN : ∀ (i : Nat) (d : D), ρ[i]? = some (.io d) → ∃ p, (i, p) ∈ F.io
  tupB : ∀ q xs, H q = some (.tup xs) → B q = some (.tup xs)
  exv : ∀ i : Nat, ρ[i]? = some .ex → σ[i]? = some (some (.ref Zc.e))
  nz : ∀ q o u, H q = some (.frz o u) → F.Z q
structure Ext (σ : St) (ρ : Rho) (B H : Hp) (ρ' : Rho) (B' H' : Hp) : Prop where
  sB : Same B B'
  keep : ∀ q o, H q = some o → (∀ (i : Nat) (s : Sl), ρ[i]? = some s → s.isOwn = true → σ[i]? ≠ some (some (.ref q))) → H' q = some o ∧ (B q = none → B' q = none)
  own : ∀ (i : Nat) (s' : Sl), ρ'[i]? = some s' → s'.isOwn = true → ∃ s, ρ[i]? = some s ∧ s.isOwn = true
  ref : ∀ (i : Nat) (s' : Sl), ρ'[i]? = some s' → s'.isRef = true → ∃ s, ρ[i]? = some s ∧ s.isRef = true
  live : ∀ q, H' q = none → H q = none
theorem Ext.refl (σ : St) (ρ : Rho) (B H : Hp) : Ext σ ρ B H ρ B H := ⟨Same.refl _, fun _ _ h _ => ⟨h, id⟩, fun _ s h e => ⟨s, h, e⟩, fun _ s h e => ⟨s, h, e⟩, fun _ h => h⟩
theorem Ext.trans {σ : St} {ρ ρ1 ρ2 : Rho} {B H B1 H1 B2 H2 : Hp} (a : Ext σ ρ B H ρ1 B1 H1) (b : Ext σ ρ1 B1 H1 ρ2 B2 H2) : Ext σ ρ B H ρ2 B2 H2 := by
  refine ⟨a.sB.trans b.sB, fun q o h n => ?_, fun i s h e => ?_, fun i s h e => ?_, fun q h => a.live q (b.live q h)⟩
  · obtain ⟨h1, h2⟩ := a.keep q o h n
    obtain ⟨h3, h4⟩ := b.keep q o h1 fun i s e1 e2 => by
      obtain ⟨s', e3, e4⟩ := a.own i s e1 e2
      exact n i s' e3 e4
    exact ⟨h3, fun z => h4 (h2 z)⟩
  · obtain ⟨s1, h1, e1⟩ := b.own i s h e
    exact a.own i s1 h1 e1
  · obtain ⟨s1, h1, e1⟩ := b.ref i s h e
    exact a.ref i s1 h1 e1
def slD : Sl → D
  | .own d => d
  | .io d => d
  | .ro d => d
  | .fz d => d
  | .no => .none
  | .ex => .none
def Val (F : Fr) (B H : Hp) (σ : St) (ρ : Rho) (v : V) (r : RV) : Prop := match r.2 with
  | .fz => Rep B v r.1
  | .new => ∃ p, v = .ref p ∧ B p = none ∧ F.H p = none ∧ Own B H p r.1 ∧ ∀ (i : Nat) (s : Sl), ρ[i]? = some s → s.isRef = true → σ[i]? ≠ some (some (.ref p))
  | .at i => ∃ s, ρ[i]? = some s ∧ s.isOwn = true ∧ slD s = r.1 ∧ σ[i]? = some (some v)
  | .ro => ∃ p, v = .ref p ∧ Own B H p r.1 ∧ ∀ (i : Nat) (s : Sl), ρ[i]? = some s → s.isOwn = true → σ[i]? ≠ some (some (.ref p))
def View (B H : Hp) (v : V) (d : D) : Prop := Rep B v d ∨ ∃ p, v = .ref p ∧ Own B H p d
theorem View.rep {B H : Hp} {v : V} {d : D} (h : View B H v d) (e : Same B H) : Rep H v d := by
  rcases h with h | ⟨p, rfl, h⟩
  · exact h.mono e
  · exact h.rep e
theorem View.list {B H : Hp} {v : V} {ds : List D} (h : View B H v (.list ds)) (e : Same B H) : ∃ p xs, v = .ref p ∧ Rd H p (.lst xs) ∧ Reps B xs ds := by
  rcases h with h | ⟨p, rfl, h⟩
  · cases h with
    | lst h r => exact ⟨_, _, rfl, rd_same e h, r⟩
  · cases h with
    | lst h r => exact ⟨_, _, rfl, .inl h, r⟩
theorem View.tuple {B H : Hp} {v : V} {ds : List D} (h : View B H v (.tuple ds)) (e : Same B H) : ∃ p xs, v = .ref p ∧ H p = some (.tup xs) ∧ Reps B xs ds := by
  rcases h with h | ⟨p, rfl, h⟩
  · cases h with
    | tup h r => exact ⟨_, _, rfl, e _ _ h, r⟩
  · cases h
theorem View.dict {B H : Hp} {v : V} {es : List (D × D)} (h : View B H v (.dict es)) (e : Same B H) : ∃ p kvs, v = .ref p ∧ Rd H p (.dK kvs) ∧ RepKs B kvs es := by
  rcases h with h | ⟨p, rfl, h⟩
  · cases h with
    | dct h r => exact ⟨_, _, rfl, rd_same e h, r⟩
  · cases h with
    | dct h r => exact ⟨_, _, rfl, .inl h, r⟩
theorem View.int {B H : Hp} {v : V} {i : Int} (h : View B H v (.int i)) : v = .int i := by
  rcases h with h | ⟨p, rfl, h⟩
  · cases h; rfl
  · cases h
theorem View.bool {B H : Hp} {v : V} {b : Bool} (h : View B H v (.bool b)) : v = .bl b := by
  rcases h with h | ⟨p, rfl, h⟩
  · cases h; rfl
  · cases h
theorem View.str {B H : Hp} {v : V} {x : Str} (h : View B H v (.str x)) : v = .str x := by
  rcases h with h | ⟨p, rfl, h⟩
  · cases h; rfl
  · cases h
theorem View.none {B H : Hp} {v : V} (h : View B H v .none) : v = .non := by
  rcases h with h | ⟨p, rfl, h⟩
  · cases h; rfl
  · cases h
section
variable {F : Fr} {B H B' H' : Hp} {σ : St} {ρ ρ' : Rho} {v : V} {r : RV}
theorem Rel.ownAt (R : Rel F B H σ ρ) {i : Nat} {s : Sl} (h : ρ[i]? = some s) (e : s.isOwn = true) : ∃ p, σ[i]? = some (some (.ref p)) ∧ B p = Option.none ∧ Own B H p (slD s) := by
  have := R.slot i s h
  cases s with
  | own d => exact this
  | io d => exact this
  | _ => cases e
theorem Val.view (R : Rel F B H σ ρ) (h : Val F B H σ ρ v r) : View B H v r.1 := by
  obtain ⟨d, k⟩ := r
  cases k with
  | fz => exact .inl h
  | new => obtain ⟨p, rfl, _, _, o, _⟩ := h; exact .inr ⟨p, rfl, o⟩
  | «at» i =>
    obtain ⟨s, h1, h2, h3, h4⟩ := h
    obtain ⟨p, e1, e2, e3⟩ := R.ownAt h1 h2
    rw [h4] at e1
    cases e1
    exact .inr ⟨p, rfl, h3 ▸ e3⟩
  | ro => obtain ⟨p, rfl, o, _⟩ := h; exact .inr ⟨p, rfl, o⟩
theorem Rel.freezeNew (R : Rel F B H σ ρ) {d : D} (h : Val F B H σ ρ v (d, .new)) : ∃ B', Rel F B' H σ ρ ∧ Rep B' v d ∧ Same B B' ∧ ∀ q, v ≠ .ref q → B' q = B q := by
  obtain ⟨p, rfl, hB, hF, o, nn⟩ := h
  obtain ⟨ob, hp⟩ := o.there
  have e : Same B (upd B p ob) := same_upd hB
  have ne : ∀ (i : Nat) (s : Sl) (q : Addr), ρ[i]? = some s → s.isRef = true → σ[i]? = some (some (.ref q)) → q ≠ p := fun i s q h1 h2 h3 z => nn i s h1 h2 (z ▸ h3)
  refine ⟨upd B p ob, ⟨?_, R.sB.trans e, R.sH, ?_, R.len, ?_, R.dist, R.ownN, R.fx, R.ioN, (fun q xs h => e _ _ (R.tupB q xs h)), R.exv, R.nz⟩, ?_, e, fun q hq => upd_ne fun z => hq (z ▸ rfl)⟩
  · intro q u hq
    by_cases z : q = p
    · subst z; rw [upd_same] at hq; cases hq; exact hp
    · rw [upd_ne z] at hq; exact R.sub q u hq
  · intro q h1 h2
    have z : q ≠ p := fun z => h1 (z ▸ hF)
    rw [upd_ne z]; exact R.nB q h1 h2
  · intro i s hs
    have q := R.slot i s hs
    cases s with
    | no => trivial
    | ex => trivial
    | fz d => obtain ⟨x, h1, h2⟩ := q; exact ⟨x, h1, h2.mono e⟩
    | own d => obtain ⟨q, h1, h2, h3⟩ := q; exact ⟨q, h1, by rw [upd_ne (ne i _ q hs rfl h1)]; exact h2, h3.mono e fun _ z => z⟩
    | io d => obtain ⟨q, h1, h2, h3⟩ := q; exact ⟨q, h1, by rw [upd_ne (ne i _ q hs rfl h1)]; exact h2, h3.mono e fun _ z => z⟩
    | ro d => obtain ⟨q, h1, h3⟩ := q; exact ⟨q, h1, h3.mono e fun _ z => z⟩
  · exact o.frozen e fun u h => by rw [upd_same, ← h, hp]
theorem get_set {i j : Nat} {s t : Sl} (h : (ρ.set i s)[j]? = some t) : (j = i ∧ t = s ∧ i < ρ.length) ∨ (j ≠ i ∧ ρ[j]? = some t) := by
  by_cases z : j = i
  · subst z
    have hl : j < ρ.length := by
      have := List.getElem?_eq_some_iff.mp h
      obtain ⟨hh, _⟩ := this
      simpa using hh
    rw [List.getElem?_set_self hl] at h
    exact .inl ⟨rfl, (Option.some.inj h).symm, hl⟩
  · rw [List.getElem?_set_ne (fun e => z e.symm)] at h
    exact .inr ⟨z, h⟩
theorem ex_set {ρ : Rho} {i j : Nat} {s : Sl} (hs : s ≠ .ex) (h : (ρ.set i s)[j]? = some .ex) : ρ[j]? = some .ex ∧ j ≠ i := by
  rcases get_set h with ⟨_, z, _⟩ | ⟨hj, h⟩
  · exact absurd z.symm hs
  · exact ⟨h, hj⟩
theorem Rel.freezeAt (R : Rel F B H σ ρ) {i : Nat} {d : D} (hi : ρ[i]? = some (.own d)) (hv : σ[i]? = some (some v)) : ∃ B', Rel F B' H σ (ρ.set i (.fz d)) ∧ Rep B' v d ∧ Ext σ ρ B H (ρ.set i (.fz d)) B' H := by
  obtain ⟨p, h1, hB, o⟩ := R.slot i _ hi
  rw [hv] at h1
  cases h1
  have hF := R.ownN i d p hi hv
  obtain ⟨ob, hp⟩ := o.there
  have e : Same B (upd B p ob) := same_upd hB
  have rp : Rep (upd B p ob) (.ref p) d := o.frozen e fun u h => by rw [upd_same, ← h, hp]
  have ne : ∀ (j : Nat) (s : Sl) (q : Addr), j ≠ i → ρ[j]? = some s → s.isRef = true → σ[j]? = some (some (.ref q)) → q ≠ p := fun j s q hj h1 h2 h3 z => hj (R.dist i j _ s p hi rfl h1 h2 hv (z ▸ h3)).symm
  refine ⟨upd B p ob, ⟨?_, R.sB.trans e, R.sH, ?_, by rw [List.length_set]; exact R.len, ?_, ?_, ?_, ?_, ?_, (fun q xs h => e _ _ (R.tupB q xs h)), (fun j h => R.exv j (ex_set (by simp) h).1), R.nz⟩, rp, ⟨e, ?_, ?_, ?_, fun _ h => h⟩⟩
  · intro q u hq
    by_cases z : q = p
    · subst z; rw [upd_same] at hq; cases hq; exact hp
    · rw [upd_ne z] at hq; exact R.sub q u hq
  · intro q h1 h2
    have z : q ≠ p := fun z => h1 (z ▸ hF)
    rw [upd_ne z]; exact R.nB q h1 h2
  · intro j s hs
    rcases get_set hs with ⟨rfl, rfl, _⟩ | ⟨hj, hs⟩
    · exact ⟨_, hv, rp⟩
    · have q := R.slot j s hs
      cases s with
      | no => trivial
      | ex => trivial
      | fz d => obtain ⟨x, h1, h2⟩ := q; exact ⟨x, h1, h2.mono e⟩
      | own d => obtain ⟨q, h1, h2, h3⟩ := q; exact ⟨q, h1, by rw [upd_ne (ne j _ q hj hs rfl h1)]; exact h2, h3.mono e fun _ z => z⟩
      | io d => obtain ⟨q, h1, h2, h3⟩ := q; exact ⟨q, h1, by rw [upd_ne (ne j _ q hj hs rfl h1)]; exact h2, h3.mono e fun _ z => z⟩
      | ro d => obtain ⟨q, h1, h3⟩ := q; exact ⟨q, h1, h3.mono e fun _ z => z⟩
  · intro a b s t q h1 h2 h3 h4 h5 h6
    rcases get_set h1 with ⟨rfl, rfl, _⟩ | ⟨ha, h1⟩
    · cases h2
    · rcases get_set h3 with ⟨rfl, rfl, _⟩ | ⟨hb, h3⟩
      · cases h4
      · exact R.dist a b s t q h1 h2 h3 h4 h5 h6
  · intro j c q h1 h2
    rcases get_set h1 with ⟨rfl, h, _⟩ | ⟨_, h1⟩
    · cases h
    · exact R.ownN j c q h1 h2
  · intro x hx
    obtain ⟨h1, c, h2⟩ := R.fx x hx
    refine ⟨h1, c, ?_⟩
    by_cases z : i = x.1
    · subst z; rw [hi] at h2; cases h2
    · rw [List.getElem?_set_ne z]; exact h2
  · intro j c h1
    rcases get_set h1 with ⟨rfl, h, _⟩ | ⟨_, h1⟩
    · cases h
    · exact R.ioN j c h1
  · intro q u hq hn
    refine ⟨hq, fun z => ?_⟩
    rw [upd_ne (show q ≠ p from fun y => hn i _ hi rfl (by rw [y]; exact hv))]; exact z
  · intro j s h1 h2
    rcases get_set h1 with ⟨rfl, rfl, _⟩ | ⟨_, h1⟩
    · cases h2
    · exact ⟨s, h1, h2⟩
  · intro j s h1 h2
    rcases get_set h1 with ⟨rfl, rfl, _⟩ | ⟨_, h1⟩
    · cases h2
    · exact ⟨s, h1, h2⟩
theorem Rel.free (R : Rel F B H σ ρ) {p : Addr} (hp : H p = none) : B p = none ∧ F.H p = none ∧ ∀ (i : Nat) (s : Sl), ρ[i]? = some s → s.isRef = true → σ[i]? ≠ some (some (.ref p)) := by
  have hB : B p = none := R.sub.free hp
  have nn : ∀ (i : Nat) (s : Sl), ρ[i]? = some s → s.isRef = true → σ[i]? ≠ some (some (.ref p)) := fun i s h1 h2 h3 => by
    have q := R.slot i s h1
    cases s with
    | own d => obtain ⟨q, e1, _, e3⟩ := q; rw [h3] at e1; cases e1; exact e3.ne_none hp
    | io d => obtain ⟨q, e1, _, e3⟩ := q; rw [h3] at e1; cases e1; exact e3.ne_none hp
    | ro d => obtain ⟨q, e1, e3⟩ := q; rw [h3] at e1; cases e1; exact e3.ne_none hp
    | no => cases h2
    | ex => cases h2
    | fz d => cases h2
  refine ⟨hB, ?_, nn⟩
  cases q : F.H p with
  | none => rfl
  | some u =>
    by_cases z : ∃ x ∈ F.io, x.2 = p
    · obtain ⟨x, hx, rfl⟩ := z
      obtain ⟨h1, d, h2⟩ := R.fx x hx
      exact absurd h1 (nn _ _ h2 rfl)
    · have := R.sH p u q fun x hx y => z ⟨x, hx, y⟩
      rw [hp] at this; cases this
theorem Rel.grow (R : Rel F B H σ ρ) (eB : Same B B') (eH : Same H H') (sub : Same B' H') (nb : ∀ q, H q ≠ none → B q = none → B' q = none) (tB : ∀ q xs, H' q = some (.tup xs) → B' q = some (.tup xs)) (nf : ∀ q o u, H' q = some (.frz o u) → H q ≠ none) : Rel F B' H' σ ρ := by
  have lv : ∀ q, F.H q ≠ none → H q ≠ none := fun q h z => h (R.free z).2.1
  refine ⟨sub, R.sB.trans eB, fun q u h1 h2 => eH _ _ (R.sH q u h1 h2), fun q h1 h2 => nb q (lv q h1) (R.nB q h1 h2), R.len, fun i s hs => ?_, R.dist, R.ownN, R.fx, R.ioN, tB, R.exv, fun q o u h => by
    cases y : H q with
    | none => exact absurd y (nf q o u h)
    | some x =>
      have := eH q x y
      rw [h] at this
      cases this
      exact R.nz q o u y⟩
  have q := R.slot i s hs
  cases s with
  | no => trivial
  | ex => trivial
  | fz d => obtain ⟨x, h1, h2⟩ := q; exact ⟨x, h1, h2.mono eB⟩
  | own d => obtain ⟨q, h1, h2, h3⟩ := q; exact ⟨q, h1, nb q h3.ne_none h2, h3.mono eB fun _ z => eH _ _ z⟩
  | io d => obtain ⟨q, h1, h2, h3⟩ := q; exact ⟨q, h1, nb q h3.ne_none h2, h3.mono eB fun _ z => eH _ _ z⟩
  | ro d => obtain ⟨q, h1, h3⟩ := q; exact ⟨q, h1, h3.mono eB fun _ z => eH _ _ z⟩
theorem Ext.grow (eB : Same B B') (eH : Same H H') (nb : ∀ q, H q ≠ none → B q = none → B' q = none) : Ext σ ρ B H ρ B' H' :=
  ⟨eB, fun q u h _ => ⟨eH _ _ h, fun z => nb q (by rw [h]; simp) z⟩, fun _ s h z => ⟨s, h, z⟩, fun _ s h z => ⟨s, h, z⟩, fun q h => eH.free h⟩
theorem Rel.lay (R : Rel F B H σ ρ) {p : Addr} {o : HO} (hp : H p = none) (no : (∀ xs, o ≠ .tup xs) ∧ ∀ a u, o ≠ .frz a u) : Rel F B (upd H p o) σ ρ ∧ Ext σ ρ B H ρ B (upd H p o) := by
  have e : Same H (upd H p o) := same_upd hp
  refine ⟨R.grow (Same.refl _) e (R.sub.trans e) (fun _ _ z => z) (fun q xs h => ?_) (fun q a u h y => ?_), Ext.grow (Same.refl _) e fun _ _ z => z⟩
  · by_cases z : q = p
    · subst z; rw [upd_same] at h; cases h; exact absurd rfl (no.1 xs)
    · rw [upd_ne z] at h; exact R.tupB q xs h
  · by_cases z : q = p
    · subst z; rw [upd_same] at h; cases h; exact no.2 _ _ rfl
    · rw [upd_ne z, y] at h; cases h
theorem Rel.layT (R : Rel F B H σ ρ) {p : Addr} {xs : List V} (hp : H p = none) : Rel F (upd B p (.tup xs)) (upd H p (.tup xs)) σ ρ ∧ Ext σ ρ B H ρ (upd B p (.tup xs)) (upd H p (.tup xs)) ∧ Same B (upd B p (.tup xs)) := by
  have hB := (R.free hp).1
  have eH : Same H (upd H p (.tup xs)) := same_upd hp
  have eB : Same B (upd B p (.tup xs)) := same_upd hB
  have nb : ∀ q, H q ≠ none → B q = none → upd B p (.tup xs) q = none := fun q h z => by rw [upd_ne (show q ≠ p from fun y => h (by rw [y]; exact hp))]; exact z
  refine ⟨R.grow eB eH (fun q u h => ?_) nb (fun q ys h => ?_) (fun q a u h y => ?_), Ext.grow eB eH nb, eB⟩
  · by_cases z : q = p
    · subst z; rw [upd_same] at h ⊢; exact h
    · rw [upd_ne z] at h ⊢; exact R.sub q u h
  · by_cases z : q = p
    · subst z; rw [upd_same] at h ⊢; exact h
    · rw [upd_ne z] at h ⊢; exact R.tupB q ys h
  · by_cases z : q = p
    · subst z; rw [upd_same] at h; cases h
    · rw [upd_ne z, y] at h; cases h
end
end Mir
set_option Elab.async false
set_option linter.all false
set_option maxRecDepth 100000
namespace Mir
open PySem L2
variable [Zc]
abbrev PM := Rho → Option (RV × Rho)
def ME (t : TE) (m : PM) : Prop :=
  ∀ (F : Fr) (B H : Hp) (σ : St) (ρ : Rho) (r : RV) (ρ' : Rho) (Q : VK), Rel F B H σ ρ → m ρ = some (r, ρ') →
    (∀ v B' H', Ext σ ρ B H ρ' B' H' → Rel F B' H' σ ρ' → Val F B' H' σ ρ' v r → (∀ p, r.2 = .new → v = .ref p → H p = none) → Q v H') → t σ H Q
def MT (t : TT) (m : Rho → Option (Bool × Rho)) : Prop :=
  ∀ (F : Fr) (B H : Hp) (σ : St) (ρ : Rho) (b : Bool) (ρ' : Rho) (Q : Bool → Hp → Prop), Rel F B H σ ρ → m ρ = some (b, ρ') →
    (∀ B' H', Ext σ ρ B H ρ' B' H' → Rel F B' H' σ ρ' → Q b H') → t σ H Q
def Vl (F : Fr) (B H : Hp) (σ : St) (ρ : Rho) : List V → List RV → Prop
  | [], [] => True
  | v :: vs, r :: rs => (Val F B H σ ρ v r ∧ r.2 ≠ .new) ∧ Vl F B H σ ρ vs rs
  | _, _ => False
def MA (t : TA) (m : Rho → Option (List RV × Rho)) : Prop :=
  ∀ (F : Fr) (B H : Hp) (σ : St) (ρ : Rho) (rs : List RV) (ρ' : Rho) (Q : List V → Hp → Prop), Rel F B H σ ρ → m ρ = some (rs, ρ') →
    (∀ vs B' H', Ext σ ρ B H ρ' B' H' → Rel F B' H' σ ρ' → Vl F B' H' σ ρ' vs rs → Q vs H') → t σ H Q
def sv (m : PM) : PM := fun ρ => match m ρ with
  | some ((d, .new), ρ') => some ((d, .fz), ρ')
  | x => x
theorem sv_kind {m : PM} {ρ ρ' : Rho} {r : RV} (h : sv m ρ = some (r, ρ')) : r.2 ≠ .new := by
  unfold sv at h
  split at h
  · cases h; simp
  · rename_i hx
    intro e
    obtain ⟨d, k⟩ := r
    cases (show k = .new from e)
    exact hx d ρ' h
theorem ME.sv {t : TE} {m : PM} (h : ME t m) : ME t (sv m) := by
  intro F B H σ ρ r ρ' Q R e q
  unfold Mir.sv at e
  split at e
  · rename_i d ρ1 e1
    cases e
    refine h F B H σ ρ _ _ Q R e1 fun v B' H' E R' V' N => ?_
    obtain ⟨B2, R2, rp, s2, k2⟩ := R'.freezeNew V'
    refine q v B2 H' ⟨E.sB.trans s2, fun q o h1 h2 => ?_, E.own, E.ref, E.live⟩ R2 rp (fun _ z => by cases z)
    obtain ⟨h3, h4⟩ := E.keep q o h1 h2
    refine ⟨h3, fun z => ?_⟩
    rw [k2 q fun y => by
      have := N q rfl y
      rw [h1] at this; cases this]
    exact h4 z
  · exact h F B H σ ρ r ρ' Q R e q
def refr (ρ : Rho) (r : RV) : Option RV := match r.2 with
  | .at i => match ρ[i]? with
    | some (.own d) => some (d, .at i)
    | some (.io d) => some (d, .at i)
    | some (.fz d) => some (d, .fz)
    | _ => none
  | _ => some r
section
variable {F : Fr} {B H B' H' : Hp} {σ : St} {ρ ρ' : Rho} {v : V} {r r' : RV}
theorem Val.next (E : Ext σ ρ B H ρ' B' H') (R' : Rel F B' H' σ ρ') (h : Val F B H σ ρ v r) (nn : r.2 ≠ .new) (e : refr ρ' r = some r') : Val F B' H' σ ρ' v r' ∧ r'.2 ≠ .new := by
  obtain ⟨d, k⟩ := r
  cases k with
  | fz => cases e; exact ⟨Rep.mono E.sB h, nn⟩
  | new => exact absurd rfl nn
  | «at» i =>
    obtain ⟨s, h1, h2, h3, h4⟩ := h
    have e' : (match ρ'[i]? with
      | some (.own d) => some (d, Kd.at i)
      | some (.io d) => some (d, Kd.at i)
      | some (.fz d) => some (d, Kd.fz)
      | _ => none) = some r' := e
    cases q : ρ'[i]? with
    | none => rw [q] at e'; cases e'
    | some s' =>
      rw [q] at e'
      cases s' with
      | own c => cases e'; exact ⟨⟨_, q, rfl, rfl, h4⟩, by simp⟩
      | io c => cases e'; exact ⟨⟨_, q, rfl, rfl, h4⟩, by simp⟩
      | fz c =>
        cases e'
        obtain ⟨x, y1, y2⟩ := R'.slot i _ q
        rw [h4] at y1; cases y1
        exact ⟨y2, by simp⟩
      | no => cases e'
      | ex => cases e'
      | ro c => cases e'
  | ro =>
    cases e
    obtain ⟨p, rfl, o, n⟩ := h
    obtain ⟨ob, hp⟩ := o.there
    refine ⟨⟨p, rfl, o.mono E.sB fun u hu => (E.keep p u hu n).1, fun i s h1 h2 => ?_⟩, nn⟩
    obtain ⟨s0, h3, h4⟩ := E.own i s h1 h2
    exact n i s0 h3 h4
end
def ResOk (B H : Hp) (res : D × Bool) (k : VK → Prop) : Prop := match res with
  | (d, false) => ∃ v, Rep B v d ∧ ∀ Q : VK, Q v H → k Q
  | (.list ds, true) => ∃ vs, Reps B vs ds ∧ ∀ Q : VK, (∀ p, H p = none → Q (.ref p) (upd H p (.lst vs))) → k Q
  | (.tuple ds, true) => ∃ vs, Reps B vs ds ∧ ∀ Q : VK, (∀ p, H p = none → Q (.ref p) (upd H p (.tup vs))) → k Q
  | (.dict es, true) => ∃ kvs, RepKs B kvs es ∧ ∀ Q : VK, (∀ p, H p = none → Q (.ref p) (upd H p (.dK kvs))) → k Q
  | _ => False
def resK : D × Bool → RV
  | (d, false) => (d, .fz)
  | (.tuple ds, true) => (.tuple ds, .fz)
  | (d, true) => (d, .new)
theorem res_end {F : Fr} {B H : Hp} {σ : St} {ρ : Rho} {res : D × Bool} {k : VK → Prop} {Q : VK} (R : Rel F B H σ ρ) (h : ResOk B H res k)
    (q : ∀ v B' H', Ext σ ρ B H ρ B' H' → Rel F B' H' σ ρ → Val F B' H' σ ρ v (resK res) → (∀ p, (resK res).2 = .new → v = .ref p → H p = none) → Q v H') : k Q := by
  obtain ⟨d, b⟩ := res
  cases b with
  | false =>
    obtain ⟨v, rp, hk⟩ := h
    exact hk Q (q v B H (Ext.refl _ _ _ _) R rp fun p z => by cases z)
  | true =>
    cases d with
    | list ds =>
      obtain ⟨vs, rp, hk⟩ := h
      refine hk Q fun p hp => ?_
      obtain ⟨R', E⟩ := R.lay (o := .lst vs) hp ⟨(fun _ z => by cases z), fun _ _ z => by cases z⟩
      obtain ⟨hB, hF, nn⟩ := R.free hp
      exact q _ B _ E R' ⟨p, rfl, hB, hF, .lst upd_same rp, nn⟩ fun q _ z => by cases z; exact hp
    | dict es =>
      obtain ⟨kvs, rp, hk⟩ := h
      refine hk Q fun p hp => ?_
      obtain ⟨R', E⟩ := R.lay (o := .dK kvs) hp ⟨(fun _ z => by cases z), fun _ _ z => by cases z⟩
      obtain ⟨hB, hF, nn⟩ := R.free hp
      exact q _ B _ E R' ⟨p, rfl, hB, hF, .dct upd_same rp, nn⟩ fun q _ z => by cases z; exact hp
    | tuple ds =>
      obtain ⟨vs, rp, hk⟩ := h
      refine hk Q fun p hp => ?_
      obtain ⟨R', E, e⟩ := R.layT (xs := vs) hp
      exact q _ _ _ E R' (show Rep _ _ _ from .tup upd_same (rp.mono e)) fun q z => by cases z
    | none => exact h.elim
    | bool _ => exact h.elim
    | int _ => exact h.elim
    | str _ => exact h.elim
def mC (d : D) : PM := fun ρ => some ((d, .fz), ρ)
theorem me_c {v : V} {d : D} (h : ∀ B, Rep B v d) : ME (tC v) (mC d) := by
  intro F B H σ ρ r ρ' Q R e q
  cases e
  exact q v B H (Ext.refl _ _ _ _) R (h B) fun p z => by cases z
theorem me_int {i : Int} : ME (tC (.int i)) (mC (.int i)) := me_c fun _ => .int i
theorem me_bl {b : Bool} : ME (tC (.bl b)) (mC (.bool b)) := me_c fun _ => .bl b
theorem me_non : ME (tC .non) (mC .none) := me_c fun _ => .non
theorem me_str {x : Str} : ME (tC (.str x)) (mC (.str x)) := me_c fun _ => .str x
def mVar (i : Nat) : PM := fun ρ => match ρ[i]? with
  | some (.fz d) => some ((d, .fz), ρ)
  | some (.own d) => some ((d, .at i), ρ)
  | some (.io d) => some ((d, .at i), ρ)
  | some (.ro d) => some ((d, .ro), ρ)
  | _ => none
theorem me_var {i : Nat} : ME (tVar i) (mVar i) := by
  intro F B H σ ρ r ρ' Q R e q
  unfold mVar at e
  cases hs : ρ[i]? with
  | none => rw [hs] at e; cases e
  | some s =>
    rw [hs] at e
    have sl := R.slot i s hs
    cases s with
    | no => cases e
    | ex => cases e
    | fz d =>
      cases e
      obtain ⟨v, h1, h2⟩ := sl
      exact ⟨v, h1, q v B H (Ext.refl _ _ _ _) R h2 fun p z => by cases z⟩
    | own d =>
      cases e
      obtain ⟨p, h1, h2, h3⟩ := sl
      exact ⟨_, h1, q _ B H (Ext.refl _ _ _ _) R ⟨_, hs, rfl, rfl, h1⟩ fun p z => by cases z⟩
    | io d =>
      cases e
      obtain ⟨p, h1, h2, h3⟩ := sl
      exact ⟨_, h1, q _ B H (Ext.refl _ _ _ _) R ⟨_, hs, rfl, rfl, h1⟩ fun p z => by cases z⟩
    | ro d =>
      cases e
      obtain ⟨p, h1, h3⟩ := sl
      refine ⟨_, h1, q _ B H (Ext.refl _ _ _ _) R ⟨p, rfl, h3, fun j s h4 h5 h6 => ?_⟩ fun p z => by cases z⟩
      have := R.dist j i s _ p h4 h5 hs rfl h6 h1
      subst this
      rw [hs] at h4; cases h4; cases h5
def OpJ (r : R2) (g : D → D → Option (D × Bool)) : Prop :=
  ∀ (B H : Hp) (x y : V) (c d : D) (res : D × Bool), Same B H → View B H x c → View B H y d → g c d = some res → ResOk B H res fun Q => r x y H Q
def mOp (g : D → D → Option (D × Bool)) (a b : PM) : PM := fun ρ => (sv a ρ).bind fun x => (sv b x.2).bind fun y => (refr y.2 x.1).bind fun r => (g r.1 y.1.1).map fun res => (resK res, y.2)
theorem me_op {r : R2} {g : D → D → Option (D × Bool)} {ta tb : TE} {a b : PM} (J : OpJ r g) (ha : ME ta a) (hb : ME tb b) : ME (tOp r ta tb) (mOp g a b) := by
  intro F B H σ ρ r0 ρ' Q R e q
  obtain ⟨x, e1, e⟩ := Option.bind_eq_some_iff.mp e
  obtain ⟨y, e2, e⟩ := Option.bind_eq_some_iff.mp e
  obtain ⟨r', e3, e⟩ := Option.bind_eq_some_iff.mp e
  obtain ⟨res, e4, e⟩ := Option.map_eq_some_iff.mp e
  cases e
  refine ha.sv F B H σ ρ x.1 x.2 _ R e1 fun v B1 H1 E1 R1 V1 N1 => ?_
  refine hb.sv F B1 H1 σ x.2 y.1 y.2 _ R1 e2 fun u B2 H2 E2 R2 V2 N2 => ?_
  obtain ⟨V3, n3⟩ := V1.next E2 R2 (sv_kind e1) e3
  refine res_end R2 (J B2 H2 v u r'.1 y.1.1 res R2.sub (V3.view R2) (V2.view R2) e4) fun w B3 H3 E3 R3 V4 N4 => ?_
  refine q w B3 H3 (E1.trans (E2.trans E3)) R3 V4 fun p z1 z2 => ?_
  exact E1.live p (E2.live p (N4 p z1 z2))
end Mir
set_option Elab.async false
set_option linter.all false
set_option maxRecDepth 100000
namespace Mir
open PySem L2
variable [Zc]
theorem Ext.fresh {σ : St} {ρ ρ' : Rho} {B H B' H' : Hp} (E : Ext σ ρ B H ρ' B' H') {p : Addr} (h : H' p = none) : H p = none := E.live p h
def UnJ (r : V → Hp → VK → Prop) (g : D → Option (D × Bool)) : Prop := ∀ (B H : Hp) (x : V) (c : D) (res : D × Bool), Same B H → View B H x c → g c = some res → ResOk B H res fun Q => r x H Q
def mUn (g : D → Option (D × Bool)) (a : PM) : PM := fun ρ => (sv a ρ).bind fun x => (g x.1.1).map fun res => (resK res, x.2)
theorem me_un {r : V → Hp → VK → Prop} {g : D → Option (D × Bool)} {ta : TE} {a : PM} (J : UnJ r g) (ha : ME ta a) : ME (tUn r ta) (mUn g a) := by
  intro F B H σ ρ r0 ρ' Q R e q
  obtain ⟨x, e1, e⟩ := Option.bind_eq_some_iff.mp e
  obtain ⟨res, e4, e⟩ := Option.map_eq_some_iff.mp e
  cases e
  refine ha.sv F B H σ ρ x.1 x.2 _ R e1 fun v B1 H1 E1 R1 V1 N1 => ?_
  exact res_end R1 (J B1 H1 v x.1.1 res R1.sub (V1.view R1) e4) fun w B3 H3 E3 R3 V4 N4 => q w B3 H3 (E1.trans E3) R3 V4 fun p z1 z2 => E1.live p (N4 p z1 z2)
def asB : RV × Rho → Option (Bool × Rho)
  | ((.bool b, _), ρ) => some (b, ρ)
  | _ => none
theorem asB_eq {x : RV × Rho} {b : Bool} {ρ : Rho} (h : asB x = some (b, ρ)) : x.1.1 = .bool b ∧ x.2 = ρ := by
  obtain ⟨⟨d, k⟩, ρ0⟩ := x
  cases d with
  | bool c => cases h; exact ⟨rfl, rfl⟩
  | _ => cases h
def mTest (a : PM) : Rho → Option (Bool × Rho) := fun ρ => (sv a ρ).bind asB
theorem mt_test {ta : TE} {a : PM} (ha : ME ta a) : MT (tTest ta) (mTest a) := by
  intro F B H σ ρ b ρ' Q R e q
  obtain ⟨x, e1, e⟩ := Option.bind_eq_some_iff.mp e
  obtain ⟨h1, h2⟩ := asB_eq e
  refine ha.sv F B H σ ρ x.1 x.2 _ R e1 fun v B1 H1 E1 R1 V1 N1 => ?_
  have := V1.view R1
  rw [h1] at this
  rw [h2] at E1 R1
  exact ⟨b, this.bool, q B1 H1 E1 R1⟩
theorem mt_tB {ta : TE} {a : PM} (ha : ME ta a) : MT (tB ta) (mTest a) := mt_test ha
def mAnd (a b : Rho → Option (Bool × Rho)) : Rho → Option (Bool × Rho) := fun ρ => (a ρ).bind fun x => if x.1 = true then b x.2 else some (false, x.2)
def mOr (a b : Rho → Option (Bool × Rho)) : Rho → Option (Bool × Rho) := fun ρ => (a ρ).bind fun x => if x.1 = true then some (true, x.2) else b x.2
def mNot (a : Rho → Option (Bool × Rho)) : Rho → Option (Bool × Rho) := fun ρ => (a ρ).map fun x => (!x.1, x.2)
section
variable {ta tb : TT} {a b : Rho → Option (Bool × Rho)}
theorem mt_and (ha : MT ta a) (hb : MT tb b) : MT (tAnd ta tb) (mAnd a b) := by
  intro F B H σ ρ c ρ' Q R e q
  obtain ⟨x, e1, e⟩ := Option.bind_eq_some_iff.mp e
  refine ha F B H σ ρ x.1 x.2 _ R e1 fun B1 H1 E1 R1 => ?_
  by_cases h : x.1 = true
  · rw [if_pos h] at e ⊢
    exact hb F B1 H1 σ x.2 c ρ' Q R1 e fun B2 H2 E2 R2 => q B2 H2 (E1.trans E2) R2
  · rw [if_neg h] at e ⊢
    cases e
    exact q B1 H1 E1 R1
theorem mt_or (ha : MT ta a) (hb : MT tb b) : MT (tOr ta tb) (mOr a b) := by
  intro F B H σ ρ c ρ' Q R e q
  obtain ⟨x, e1, e⟩ := Option.bind_eq_some_iff.mp e
  refine ha F B H σ ρ x.1 x.2 _ R e1 fun B1 H1 E1 R1 => ?_
  by_cases h : x.1 = true
  · rw [if_pos h] at e ⊢
    cases e
    exact q B1 H1 E1 R1
  · rw [if_neg h] at e ⊢
    exact hb F B1 H1 σ x.2 c ρ' Q R1 e fun B2 H2 E2 R2 => q B2 H2 (E1.trans E2) R2
theorem mt_not (ha : MT ta a) : MT (tNot ta) (mNot a) := by
  intro F B H σ ρ c ρ' Q R e q
  obtain ⟨x, e1, e⟩ := Option.map_eq_some_iff.mp e
  cases e
  exact ha F B H σ ρ x.1 x.2 _ R e1 fun B1 H1 E1 R1 => q B1 H1 E1 R1
end
section
variable {ta tb : TE} {a b : PM}
def mAndV (a b : PM) : PM := fun ρ => (mTest a ρ).bind fun x => if x.1 = true then b x.2 else some ((.bool false, .fz), x.2)
def mOrV (a b : PM) : PM := fun ρ => (mTest a ρ).bind fun x => if x.1 = true then some ((.bool true, .fz), x.2) else b x.2
def mNotV (a : PM) : PM := fun ρ => (mTest a ρ).map fun x => ((.bool !x.1, .fz), x.2)
theorem me_andV (ha : ME ta a) (hb : ME tb b) : ME (tAndV ta tb) (mAndV a b) := by
  intro F B H σ ρ c ρ' Q R e q
  obtain ⟨x, e1, e⟩ := Option.bind_eq_some_iff.mp e
  refine mt_test ha F B H σ ρ x.1 x.2 (fun c H1 => if c = true then tb σ H1 Q else Q (.bl false) H1) R e1 fun B1 H1 E1 R1 => ?_
  by_cases h : x.1 = true
  · rw [if_pos h] at e ⊢
    exact hb F B1 H1 σ x.2 c ρ' Q R1 e fun v B2 H2 E2 R2 V2 N2 => q v B2 H2 (E1.trans E2) R2 V2 fun p z1 z2 => E1.live p (N2 p z1 z2)
  · rw [if_neg h] at e ⊢
    cases e
    exact q _ B1 H1 E1 R1 (.bl false) fun p z => by cases z
def mIfE (c : Rho → Option (Bool × Rho)) (a b : PM) : PM := fun ρ => (c ρ).bind fun x => if x.1 = true then a x.2 else b x.2
end
def mNil : Rho → Option (List RV × Rho) := fun ρ => some ([], ρ)
def mCons (a : PM) (m : Rho → Option (List RV × Rho)) : Rho → Option (List RV × Rho) := fun ρ => (sv a ρ).bind fun x => (m x.2).bind fun y => (refr y.2 x.1).map fun r => (r :: y.1, y.2)
theorem ma_nil : MA tNil mNil := by
  intro F B H σ ρ rs ρ' Q R e q
  cases e
  exact q [] B H (Ext.refl _ _ _ _) R trivial
theorem ma_cons {ta : TE} {tr : TA} {a : PM} {m : Rho → Option (List RV × Rho)} (ha : ME ta a) (hr : MA tr m) : MA (tCons ta tr) (mCons a m) := by
  intro F B H σ ρ rs ρ' Q R e q
  obtain ⟨x, e1, e⟩ := Option.bind_eq_some_iff.mp e
  obtain ⟨y, e2, e⟩ := Option.bind_eq_some_iff.mp e
  obtain ⟨r, e3, e⟩ := Option.map_eq_some_iff.mp e
  cases e
  refine ha.sv F B H σ ρ x.1 x.2 _ R e1 fun v B1 H1 E1 R1 V1 N1 => ?_
  refine hr F B1 H1 σ x.2 y.1 y.2 _ R1 e2 fun vs B2 H2 E2 R2 V2 => ?_
  exact q (v :: vs) B2 H2 (E1.trans E2) R2 ⟨V1.next E2 R2 (sv_kind e1) e3, V2⟩
def WVal (B : Hp) (σ : St) (v : V) (r : RV) : Prop := match r.2 with
  | .fz => Rep B v r.1
  | .at i => σ[i]? = some (some v)
  | _ => True
def WVl (B : Hp) (σ : St) : List V → List RV → Prop
  | [], [] => True
  | v :: vs, r :: rs => WVal B σ v r ∧ WVl B σ vs rs
  | _, _ => False
theorem Vl.weak {F : Fr} {B H : Hp} {σ : St} {ρ : Rho} : ∀ {vs : List V} {rs : List RV}, Vl F B H σ ρ vs rs → WVl B σ vs rs
  | [], [], _ => trivial
  | v :: vs, r :: rs, ⟨⟨h, n⟩, t⟩ => by
    refine ⟨?_, Vl.weak t⟩
    obtain ⟨d, k⟩ := r
    cases k with
    | fz => exact h
    | «at» i => obtain ⟨_, _, _, _, e⟩ := h; exact e
    | new => trivial
    | ro => trivial
theorem WVl.mono {B B' : Hp} {σ : St} (e : Same B B') : ∀ {vs : List V} {rs : List RV}, WVl B σ vs rs → WVl B' σ vs rs
  | [], [], _ => trivial
  | v :: vs, r :: rs, ⟨h, t⟩ => by
    refine ⟨?_, WVl.mono e t⟩
    obtain ⟨d, k⟩ := r
    cases k with
    | fz => exact Rep.mono e h
    | «at» i => exact h
    | new => trivial
    | ro => trivial
def fzOne (r : RV) (ρ : Rho) : Option (D × Rho) := match r.2 with
  | .fz => some (r.1, ρ)
  | .at i => match ρ[i]? with
    | some (.own d) => some (d, ρ.set i (.fz d))
    | some (.fz d) => some (d, ρ)
    | _ => none
  | _ => none
def fzAll : List RV → Rho → Option (List D × Rho)
  | [], ρ => some ([], ρ)
  | r :: rs, ρ => (fzOne r ρ).bind fun x => (fzAll rs x.2).map fun y => (x.1 :: y.1, y.2)
section
variable {F : Fr} {B H : Hp} {σ : St} {ρ ρ' : Rho}
theorem Rel.frz (R : Rel F B H σ ρ) {v : V} {r : RV} {d : D} (w : WVal B σ v r) (e : fzOne r ρ = some (d, ρ')) : ∃ B', Rel F B' H σ ρ' ∧ Rep B' v d ∧ Ext σ ρ B H ρ' B' H := by
  obtain ⟨c, k⟩ := r
  cases k with
  | fz => cases e; exact ⟨B, R, w, Ext.refl _ _ _ _⟩
  | new => cases e
  | ro => cases e
  | «at» i =>
    have e' : (match ρ[i]? with
      | some (.own d) => some (d, ρ.set i (.fz d))
      | some (.fz d) => some (d, ρ)
      | _ => none) = some (d, ρ') := e
    cases q : ρ[i]? with
    | none => rw [q] at e'; cases e'
    | some s =>
      rw [q] at e'
      cases s with
      | own c => cases e'; exact R.freezeAt q w
      | fz c =>
        cases e'
        obtain ⟨x, h1, h2⟩ := R.slot i _ q
        have w' : σ[i]? = some (some v) := w
        rw [w'] at h1; cases h1
        exact ⟨B, R, h2, Ext.refl _ _ _ _⟩
      | no => cases e'
      | ex => cases e'
      | io c => cases e'
      | ro c => cases e'
theorem Rel.frzL : ∀ {rs : List RV} {vs : List V} {ds : List D} {B : Hp} {ρ ρ' : Rho}, Rel F B H σ ρ → WVl B σ vs rs → fzAll rs ρ = some (ds, ρ') → ∃ B', Rel F B' H σ ρ' ∧ Reps B' vs ds ∧ Ext σ ρ B H ρ' B' H
  | [], [], ds, B, ρ, ρ', R, _, e => by cases e; exact ⟨B, R, .nil, Ext.refl _ _ _ _⟩
  | r :: rs, v :: vs, ds, B, ρ, ρ', R, ⟨w, ws⟩, e => by
    obtain ⟨x, e1, e⟩ := Option.bind_eq_some_iff.mp e
    obtain ⟨y, e2, e⟩ := Option.map_eq_some_iff.mp e
    cases e
    obtain ⟨B1, R1, rp, E1⟩ := R.frz w e1
    obtain ⟨B2, R2, rps, E2⟩ := Rel.frzL R1 (ws.mono E1.sB) e2
    exact ⟨B2, R2, .cons (rp.mono E2.sB) rps, E1.trans E2⟩
  | [], _ :: _, _, _, _, _, _, h, _ => h.elim
  | _ :: _, [], _, _, _, _, _, h, _ => h.elim
end
noncomputable def mTup (m : Rho → Option (List RV × Rho)) : PM := fun ρ => (m ρ).bind fun x => (fzAll x.1 x.2).bind fun y => cIf (y.1.length ≤ sizeLine) (some ((.tuple y.1, .fz), y.2)) none
noncomputable def mLst (m : Rho → Option (List RV × Rho)) : PM := fun ρ => (m ρ).bind fun x => (fzAll x.1 x.2).bind fun y => cIf (y.1.length ≤ sizeLine) (some ((.list y.1, .new), y.2)) none
theorem me_tup {t : TA} {m : Rho → Option (List RV × Rho)} (h : MA t m) : ME (tTup t) (mTup m) := by
  intro F B H σ ρ r ρ' Q R e q
  obtain ⟨x, e1, e⟩ := Option.bind_eq_some_iff.mp e
  obtain ⟨y, e2, e⟩ := Option.bind_eq_some_iff.mp e
  obtain ⟨hz, e⟩ := cIf_eq e
  · cases e
    refine h F B H σ ρ x.1 x.2 _ R e1 fun vs B1 H1 E1 R1 V1 => ?_
    obtain ⟨B2, R2, rp, E2⟩ := Rel.frzL R1 V1.weak e2
    refine ⟨by rw [rp.length]; exact hz, fun p hp => ?_⟩
    have := res_end (res := (.tuple y.1, true)) (k := fun Q => ∀ p, H1 p = none → Q (.ref p) (upd H1 p (.tup vs))) (Q := Q) R2 ⟨vs, rp, fun Q h => h⟩ fun v B' H' E R' V' N => q v B' H' (E1.trans (E2.trans E)) R' V' fun p z => by cases z
    exact this p hp
theorem me_lst {t : TA} {m : Rho → Option (List RV × Rho)} (h : MA t m) : ME (tLst t) (mLst m) := by
  intro F B H σ ρ r ρ' Q R e q
  obtain ⟨x, e1, e⟩ := Option.bind_eq_some_iff.mp e
  obtain ⟨y, e2, e⟩ := Option.bind_eq_some_iff.mp e
  obtain ⟨hz, e⟩ := cIf_eq e
  · cases e
    refine h F B H σ ρ x.1 x.2 _ R e1 fun vs B1 H1 E1 R1 V1 => ?_
    obtain ⟨B2, R2, rp, E2⟩ := Rel.frzL R1 V1.weak e2
    refine ⟨by rw [rp.length]; exact hz, fun p hp => ?_⟩
    have := res_end (res := (.list y.1, true)) (k := fun Q => ∀ p, H1 p = none → Q (.ref p) (upd H1 p (.lst vs))) (Q := Q) R2 ⟨vs, rp, fun Q h => h⟩ fun v B' H' E R' V' N => q v B' H' (E1.trans (E2.trans E)) R' V' fun p z1 z2 => E1.live p (N p z1 z2)
    exact this p hp
def Views (B H : Hp) : List V → List D → Prop
  | [], [] => True
  | v :: vs, d :: ds => View B H v d ∧ Views B H vs ds
  | _, _ => False
theorem Vl.views {F : Fr} {B H : Hp} {σ : St} {ρ : Rho} (R : Rel F B H σ ρ) : ∀ {vs : List V} {rs : List RV}, Vl F B H σ ρ vs rs → Views B H vs (rs.map (·.1))
  | [], [], _ => trivial
  | v :: vs, r :: rs, ⟨⟨h, n⟩, t⟩ => ⟨h.view R, Vl.views R t⟩
def CallJ (r : List V → Hp → VK → Prop) (g : List D → Option (D × Bool)) : Prop := ∀ (B H : Hp) (vs : List V) (ds : List D) (res : D × Bool), Same B H → Views B H vs ds → g ds = some res → ResOk B H res fun Q => r vs H Q
def mCB (g : List D → Option (D × Bool)) (m : Rho → Option (List RV × Rho)) : PM := fun ρ => (m ρ).bind fun x => (g (x.1.map (·.1))).map fun res => (resK res, x.2)
theorem me_cb {r : List V → Hp → VK → Prop} {g : List D → Option (D × Bool)} {t : TA} {m : Rho → Option (List RV × Rho)} (J : CallJ r g) (h : MA t m) : ME (tCB r t) (mCB g m) := by
  intro F B H σ ρ r0 ρ' Q R e q
  obtain ⟨x, e1, e⟩ := Option.bind_eq_some_iff.mp e
  obtain ⟨res, e4, e⟩ := Option.map_eq_some_iff.mp e
  cases e
  refine h F B H σ ρ x.1 x.2 _ R e1 fun vs B1 H1 E1 R1 V1 => ?_
  exact res_end R1 (J B1 H1 vs _ res R1.sub (V1.views R1) e4) fun w B3 H3 E3 R3 V4 N4 => q w B3 H3 (E1.trans E3) R3 V4 fun p z1 z2 => E1.live p (N4 p z1 z2)
def mNoPart : Rho → Option (Option Int × Rho) := fun ρ => some (none, ρ)
def asI : RV × Rho → Option (Int × Rho)
  | ((.int i, _), ρ) => some (i, ρ)
  | _ => none
theorem asI_eq {x : RV × Rho} {b : Int} {ρ : Rho} (h : asI x = some (b, ρ)) : x.1.1 = .int b ∧ x.2 = ρ := by
  obtain ⟨⟨d, k⟩, ρ0⟩ := x
  cases d with
  | int c => cases h; exact ⟨rfl, rfl⟩
  | _ => cases h
def mPart (a : PM) : Rho → Option (Option Int × Rho) := fun ρ => ((sv a ρ).bind asI).map fun x => (some x.1, x.2)
def MO (t : TO) (m : Rho → Option (Option Int × Rho)) : Prop :=
  ∀ (F : Fr) (B H : Hp) (σ : St) (ρ : Rho) (b : Option Int) (ρ' : Rho) (Q : Option Int → Hp → Prop), Rel F B H σ ρ → m ρ = some (b, ρ') →
    (∀ B' H', Ext σ ρ B H ρ' B' H' → Rel F B' H' σ ρ' → Q b H') → t σ H Q
theorem mo_none : MO tNoPart mNoPart := by
  intro F B H σ ρ b ρ' Q R e q
  cases e
  exact q B H (Ext.refl _ _ _ _) R
theorem mo_some {ta : TE} {a : PM} (ha : ME ta a) : MO (tPart ta) (mPart a) := by
  intro F B H σ ρ b ρ' Q R e q
  obtain ⟨y, e1, e⟩ := Option.map_eq_some_iff.mp e
  obtain ⟨x, e2, e3⟩ := Option.bind_eq_some_iff.mp e1
  cases e
  obtain ⟨h1, h2⟩ := asI_eq (b := y.1) (ρ := y.2) e3
  refine ha.sv F B H σ ρ x.1 x.2 _ R e2 fun v B1 H1 E1 R1 V1 N1 => ?_
  have := V1.view R1
  rw [h1] at this
  rw [h2] at E1 R1
  exact ⟨y.1, this.int, q B1 H1 E1 R1⟩
def SlJ (r : V → Option Int → Option Int → Hp → VK → Prop) (g : D → Option Int → Option Int → Option (D × Bool)) : Prop :=
  ∀ (B H : Hp) (x : V) (c : D) (l u : Option Int) (res : D × Bool), Same B H → View B H x c → g c l u = some res → ResOk B H res fun Q => r x l u H Q
def mSl (g : D → Option Int → Option Int → Option (D × Bool)) (a : PM) (l u : Rho → Option (Option Int × Rho)) : PM := fun ρ => (sv a ρ).bind fun x => (l x.2).bind fun y => (u y.2).bind fun z => (refr z.2 x.1).bind fun r => (g r.1 y.1 z.1).map fun res => (resK res, z.2)
theorem me_sl {r : V → Option Int → Option Int → Hp → VK → Prop} {g : D → Option Int → Option Int → Option (D × Bool)} {ta : TE} {tl tu : TO} {a : PM} {l u : Rho → Option (Option Int × Rho)} (J : SlJ r g) (ha : ME ta a) (hl : MO tl l) (hu : MO tu u) : ME (tSl r ta tl tu) (mSl g a l u) := by
  intro F B H σ ρ r0 ρ' Q R e q
  obtain ⟨x, e1, e⟩ := Option.bind_eq_some_iff.mp e
  obtain ⟨y, e2, e⟩ := Option.bind_eq_some_iff.mp e
  obtain ⟨z, e3, e⟩ := Option.bind_eq_some_iff.mp e
  obtain ⟨r', e4, e⟩ := Option.bind_eq_some_iff.mp e
  obtain ⟨res, e5, e⟩ := Option.map_eq_some_iff.mp e
  cases e
  refine ha.sv F B H σ ρ x.1 x.2 _ R e1 fun v B1 H1 E1 R1 V1 N1 => ?_
  refine hl F B1 H1 σ x.2 y.1 y.2 _ R1 e2 fun B2 H2 E2 R2 => ?_
  refine hu F B2 H2 σ y.2 z.1 z.2 _ R2 e3 fun B3 H3 E3 R3 => ?_
  obtain ⟨V3, n3⟩ := V1.next (E2.trans E3) R3 (sv_kind e1) e4
  exact res_end R3 (J B3 H3 v r'.1 y.1 z.1 res R3.sub (V3.view R3) e5) fun w B4 H4 E4 R4 V4 N4 => q w B4 H4 ((E1.trans (E2.trans E3)).trans E4) R4 V4 fun p z1 z2 => (E1.trans (E2.trans E3)).live p (N4 p z1 z2)
end Mir
set_option Elab.async false
set_option linter.all false
set_option maxRecDepth 100000
namespace Mir
open PySem L2
variable [Zc]
mutual
def pureD : D → Bool
  | .none => true
  | .bool _ => true
  | .int _ => true
  | .str _ => true
  | .list _ => false
  | .tuple ds => pureDs ds
  | .dict _ => false
def pureDs : List D → Bool
  | [] => true
  | d :: ds => pureD d && pureDs ds
end
mutual
theorem Rep.ofPure {B B' : Hp} (k : ∀ q xs, B q = some (.tup xs) → B' q = some (.tup xs)) : ∀ {v : V} {d : D}, Rep B v d → pureD d = true → Rep B' v d
  | _, _, .non, _ => .non
  | _, _, .bl b, _ => .bl b
  | _, _, .int i, _ => .int i
  | _, _, .str x, _ => .str x
  | _, _, .lst _ _, h => by simp [pureD] at h
  | _, _, .dct _ _, h => by simp [pureD] at h
  | _, _, .tup h r, e => .tup (k _ _ h) (Reps.ofPure k r (by simpa [pureD] using e))
theorem Reps.ofPure {B B' : Hp} (k : ∀ q xs, B q = some (.tup xs) → B' q = some (.tup xs)) : ∀ {v : List V} {d : List D}, Reps B v d → pureDs d = true → Reps B' v d
  | _, _, .nil, _ => .nil
  | _, _, .cons a b, e => by
    simp only [pureDs, Bool.and_eq_true] at e
    exact .cons (Rep.ofPure k a e.1) (Reps.ofPure k b e.2)
end
theorem RepKs.ofPure {B B' : Hp} (k : ∀ q xs, B q = some (.tup xs) → B' q = some (.tup xs)) : ∀ {v : List (Key × V)} {d : List (D × D)}, RepKs B v d → pureDs (d.map (·.2)) = true → RepKs B' v d
  | _, _, .nil, _ => .nil
  | _, _, .cons c a b, e => by
    simp only [List.map_cons, pureDs, Bool.and_eq_true] at e
    exact .cons c (Rep.ofPure k a e.1) (RepKs.ofPure k b e.2)
def pureR (d : D) (o : Bool) : Bool := match o, d with
  | true, .list ds => pureDs ds
  | true, .dict es => pureDs (es.map (·.2))
  | true, _ => false
  | false, d => pureD d
structure Post (B H : Hp) (v : V) (B' H' : Hp) (d : D) (o : Bool) : Prop where
  eH : Same H H'
  eB : Same B B'
  sub : Same B' H'
  nb : ∀ q, H q ≠ none → B q = none → B' q = none
  tB : ∀ q xs, H' q = some (.tup xs) → B' q = some (.tup xs)
  nz : ∀ q o u, H' q = some (.frz o u) → H q ≠ none
  val : if o = true then ∃ p, v = .ref p ∧ H p = none ∧ B' p = none ∧ Own B' H' p d else Rep B' v d
def spM (f : List D → Option (D × Bool)) : Sp := fun vs H Q _ => ∃ B ds d o, Same B H ∧ (∀ q xs, H q = some (.tup xs) → B q = some (.tup xs)) ∧ Reps B vs ds ∧ f ds = some (d, o) ∧ ∀ v B' H', Post B H v B' H' d o → Q v H'
def kO (d : D) (o : Bool) : RV := (d, if o = true then .new else .fz)
def mCall (f : List D → Option (D × Bool)) (m : Rho → Option (List RV × Rho)) : PM := fun ρ => (m ρ).bind fun x => (f (x.1.map (·.1))).bind fun w =>
  if pureR w.1 w.2 = true then some (kO w.1 w.2, x.2) else (fzAll x.1 x.2).map fun y => (kO w.1 w.2, y.2)
theorem Views.reps {B H : Hp} (e : Same B H) : ∀ {vs : List V} {ds : List D}, Views B H vs ds → Reps H vs ds
  | [], [], _ => .nil
  | v :: vs, d :: ds, ⟨h, t⟩ => .cons (h.rep e) (Views.reps e t)
theorem fzAll_eq : ∀ {rs : List RV} {ρ ρ' : Rho} {ds : List D}, (∀ r ∈ rs, ∀ i, r.2 = .at i → ∃ s, ρ[i]? = some s ∧ slD s = r.1) → fzAll rs ρ = some (ds, ρ') → ds = rs.map (·.1)
  | [], _, _, _, _, e => by cases e; rfl
  | r :: rs, ρ, ρ', ds, h, e => by
    obtain ⟨x, e1, e⟩ := Option.bind_eq_some_iff.mp e
    obtain ⟨y, e2, e⟩ := Option.map_eq_some_iff.mp e
    cases e
    have hx : x.1 = r.1 ∧ ∀ (i : Nat) (s : Sl), ρ[i]? = some s → ∃ s', x.2[i]? = some s' ∧ slD s' = slD s := by
      obtain ⟨d, k⟩ := r
      cases k with
      | fz => cases e1; exact ⟨rfl, fun i s h => ⟨s, h, rfl⟩⟩
      | new => cases e1
      | ro => cases e1
      | «at» i =>
        obtain ⟨s, h1, h2⟩ := h (d, .at i) (by simp) i rfl
        have e' : (match ρ[i]? with
          | some (.own d) => some (d, ρ.set i (.fz d))
          | some (.fz d) => some (d, ρ)
          | _ => none) = some x := e1
        rw [h1] at e'
        cases s with
        | own c =>
          cases e'
          refine ⟨h2, fun j t hj => ?_⟩
          by_cases z : j = i
          · subst z
            rw [h1] at hj; cases hj
            obtain ⟨hl, _⟩ := List.getElem?_eq_some_iff.mp h1
            exact ⟨.fz c, by rw [List.getElem?_set_self hl], rfl⟩
          · exact ⟨t, by rw [List.getElem?_set_ne (fun e => z e.symm)]; exact hj, rfl⟩
        | fz c => cases e'; exact ⟨h2, fun i s h => ⟨s, h, rfl⟩⟩
        | no => cases e'
        | ex => cases e'
        | io c => cases e'
        | ro c => cases e'
    rw [List.map_cons, hx.1, fzAll_eq (ρ := x.2) (fun r hr i hi => ?_) e2]
    obtain ⟨s, h1, h2⟩ := h r (List.mem_cons_of_mem _ hr) i hi
    obtain ⟨s', h3, h4⟩ := hx.2 i s h1
    exact ⟨s', h3, h4.trans h2⟩
theorem Vl.at {F : Fr} {B H : Hp} {σ : St} {ρ : Rho} : ∀ {vs : List V} {rs : List RV}, Vl F B H σ ρ vs rs → ∀ r ∈ rs, ∀ i, r.2 = .at i → ∃ s, ρ[i]? = some s ∧ slD s = r.1
  | [], [], _, r', hr, i, hi => by cases hr
  | v :: vs, r :: rs, ⟨⟨h, _⟩, t⟩, r', hr, i, hi => by
    rcases List.mem_cons.mp hr with rfl | hr
    · obtain ⟨d, k⟩ := r'
      cases (show k = .at i from hi)
      obtain ⟨s, h1, _, h2, _⟩ := h
      exact ⟨s, h1, h2⟩
    · exact Vl.at t r' hr i hi
theorem me_call {f : List D → Option (D × Bool)} {E : XK} {t : TA} {m : Rho → Option (List RV × Rho)} (h : MA t m) : ME (tCall (spM f) [] E t) (mCall f m) := by
  intro F B H σ ρ r0 ρ' Q R e q
  obtain ⟨x, e1, e⟩ := Option.bind_eq_some_iff.mp e
  obtain ⟨w, e2, e⟩ := Option.bind_eq_some_iff.mp e
  refine h F B H σ ρ x.1 x.2 _ R e1 fun vs B1 H1 E1 R1 V1 => ?_
  rw [List.append_nil]
  by_cases hp : pureR w.1 w.2 = true
  · rw [if_pos hp] at e
    cases e
    refine ⟨H1, _, w.1, w.2, Same.refl _, fun _ _ z => z, (V1.views R1).reps R1.sub, e2, fun v B' H' P => ?_⟩
    let B2 : Hp := fun q => if H1 q = none then B' q else B1 q
    have old : ∀ q, H1 q ≠ none → B2 q = B1 q := fun q z => if_neg z
    have new : ∀ q, H1 q = none → B2 q = B' q := fun q z => if_pos z
    have eB : Same B1 B2 := fun q o z => by rw [old q (by rw [R1.sub q o z]; simp)]; exact z
    have sub : Same B2 H' := fun q o z => by
      by_cases y : H1 q = none
      · rw [new q y] at z; exact P.sub q o z
      · rw [old q y] at z; exact P.eH q o (R1.sub q o z)
    have nb : ∀ q, H1 q ≠ none → B1 q = none → B2 q = none := fun q y z => by rw [old q y]; exact z
    have tB : ∀ q xs, H' q = some (.tup xs) → B2 q = some (.tup xs) := fun q xs z => by
      cases y : H1 q with
      | none => rw [new q y]; exact P.tB q xs z
      | some o =>
        have := P.eH q o y
        rw [z] at this
        cases this
        rw [old q (by rw [y]; simp)]; exact R1.tupB q xs y
    have kt : ∀ q xs, B' q = some (.tup xs) → B2 q = some (.tup xs) := fun q xs z => tB q xs (P.sub q _ z)
    have R2 := R1.grow eB P.eH sub nb tB P.nz
    have E2 : Ext σ x.2 B1 H1 x.2 B2 H' := Ext.grow eB P.eH nb
    obtain ⟨d, o⟩ := w
    cases o with
    | false =>
      have pv : Rep B' v d := P.val
      exact q v B2 H' (E1.trans E2) R2 (show Rep B2 v d from pv.ofPure kt hp) fun p z => by cases z
    | true =>
      obtain ⟨p, rfl, h1, h2, h3⟩ : ∃ p, v = .ref p ∧ H1 p = none ∧ B' p = none ∧ Own B' H' p d := P.val
      have fr := R1.free h1
      refine q _ B2 H' (E1.trans E2) R2 ⟨p, rfl, by rw [new p h1]; exact h2, fr.2.1, ?_, fr.2.2⟩ fun p' _ z => by cases z; exact E1.live p h1
      cases h3 with
      | lst h r => exact .lst h (r.ofPure kt hp)
      | dct h r => exact .dct h (r.ofPure kt hp)
  · rw [if_neg hp] at e
    obtain ⟨y, e3, e⟩ := Option.map_eq_some_iff.mp e
    cases e
    obtain ⟨B2, R2, rp, E2⟩ := Rel.frzL R1 V1.weak e3
    have hd := fzAll_eq V1.at e3
    rw [hd] at rp
    refine ⟨B2, _, w.1, w.2, R2.sub, R2.tupB, rp, e2, fun v B' H' P => ?_⟩
    have R3 := R2.grow P.eB P.eH P.sub P.nb P.tB P.nz
    have E3 : Ext σ y.2 B2 H1 y.2 B' H' := Ext.grow P.eB P.eH P.nb
    obtain ⟨d, o⟩ := w
    cases o with
    | false =>
      have pv : Rep B' v d := P.val
      exact q v B' H' (E1.trans (E2.trans E3)) R3 pv fun p z => by cases z
    | true =>
      obtain ⟨p, rfl, h1, h2, h3⟩ : ∃ p, v = .ref p ∧ H1 p = none ∧ B' p = none ∧ Own B' H' p d := P.val
      have fr := R2.free h1
      exact q _ B' H' (E1.trans (E2.trans E3)) R3 ⟨p, rfl, h2, fr.2.1, h3, fr.2.2⟩ fun p' _ z => by cases z; exact E1.live p h1
def YldOk (B H : Hp) (x : V) (H' : Hp) (d : D) : Prop := (H' = H ∧ Rep B x d) ∨ ∃ p xs cs, d = .tuple cs ∧ x = .ref p ∧ H p = none ∧ H' = upd H p (.tup xs) ∧ Reps B xs cs
def ItOk (G B : Hp) (J : It) (ds : List D) : Prop := ∀ H, Same G H → J.stop ds.length H ∧ ∀ (i : Nat) (d : D), ds[i]? = some d → J.go i H ∧ ∀ x H', J.yld i H x H' → YldOk B H x H' d
theorem ItOk.mono {G B B' : Hp} {J : It} {ds : List D} (h : ItOk G B J ds) (e : Same B B') : ItOk G B' J ds := fun H s => ⟨(h H s).1, fun i d hd => ⟨((h H s).2 i d hd).1, fun x H' y => by
  rcases ((h H s).2 i d hd).2 x H' y with ⟨h1, h2⟩ | ⟨p, xs, cs, h1, h2, h3, h4, h5⟩
  · exact .inl ⟨h1, h2.mono e⟩
  · exact .inr ⟨p, xs, cs, h1, h2, h3, h4, h5.mono e⟩⟩⟩
def MI (t : TI) (m : Rho → Option (List D × Rho)) : Prop :=
  ∀ (F : Fr) (B H : Hp) (σ : St) (ρ : Rho) (ds : List D) (ρ' : Rho) (Q : It → Hp → Prop), Rel F B H σ ρ → m ρ = some (ds, ρ') →
    (∀ J B' H', Ext σ ρ B H ρ' B' H' → Rel F B' H' σ ρ' → ItOk H' B' J ds → Q J H') → t σ H Q
def MF (t : TI) (m : Rho → Option (List D × Rho)) : Prop :=
  ∀ (F : Fr) (B H : Hp) (σ : St) (ρ : Rho) (ds : List D) (ρ' : Rho) (Q : It → Hp → Prop), Rel F B H σ ρ → m ρ = some (ds, ρ') →
    (∀ J B' H', Ext σ ρ B H ρ' B' H' → Rel F B' H' σ ρ' → ItOk B' B' J ds → Q J H') → t σ H Q
theorem rd_sq {K : PySem.W.Frag} {H : Hp} {p : Addr} {xs : List V} (h : Rd H p (.lst xs)) : SqL K H p xs := .inl h
theorem itl_ok {K : PySem.W.Frag} {G B : Hp} {p : Addr} {xs : List V} {ds : List D} (h : Rd G p (.lst xs)) (r : Reps B xs ds) : ItOk G B (Itl K p) ds := fun H s => by
  have h' : SqL K H p xs := rd_sq (rd_same s h)
  refine ⟨⟨xs, h', by rw [r.length]; exact Nat.le_refl _⟩, fun i d hd => ?_⟩
  obtain ⟨x, h1, h2⟩ := r.get i d hd
  refine ⟨⟨xs, x, h', h1⟩, fun y H' hy => .inl ⟨hy.1, ?_⟩⟩
  have := hy.2 xs h'
  rw [h1] at this
  cases this
  exact h2
def asL : D → Option (List D)
  | .list ds => some ds
  | _ => none
def asT : D → Option (List D)
  | .tuple ds => some ds
  | _ => none
theorem asL_eq {d : D} {ds : List D} (h : asL d = some ds) : d = .list ds := by cases d <;> first | cases h; rfl | cases h
theorem asT_eq {d : D} {ds : List D} (h : asT d = some ds) : d = .tuple ds := by cases d <;> first | cases h; rfl | cases h
def mItL (a : PM) : Rho → Option (List D × Rho) := fun ρ => (sv a ρ).bind fun x => (asL x.1.1).map fun ds => (ds, x.2)
def mFoL (a : PM) : Rho → Option (List D × Rho) := fun ρ => (sv a ρ).bind fun x => (fzOne x.1 x.2).bind fun y => (asL y.1).map fun ds => (ds, y.2)
section
variable {K : PySem.W.Frag} {ta : TE} {a : PM}
theorem mf_list (ha : ME ta a) : MF (iList K ta) (mFoL a) := by
  intro F B H σ ρ ds ρ' Q R e q
  obtain ⟨x, e1, e⟩ := Option.bind_eq_some_iff.mp e
  obtain ⟨y, e3, e⟩ := Option.bind_eq_some_iff.mp e
  obtain ⟨ds', e2, e⟩ := Option.map_eq_some_iff.mp e
  cases e
  refine ha.sv F B H σ ρ x.1 x.2 _ R e1 fun v B1 H1 E1 R1 V1 N1 => ?_
  have w : WVal B1 σ v x.1 := (Vl.weak (F := F) (H := H1) (ρ := x.2) (vs := [v]) (rs := [x.1]) ⟨⟨V1, sv_kind e1⟩, trivial⟩).1
  obtain ⟨B2, R2, rp, E2⟩ := R1.frz w e3
  rw [asL_eq e2] at rp
  cases rp with
  | lst h r => exact ⟨_, rfl, ⟨_, rd_sq (rd_same R2.sub h)⟩, q _ B2 H1 (E1.trans E2) R2 (itl_ok h r)⟩
end
def rngD (lo : Int) (n : Nat) : List D := (List.range n).map fun (k : Nat) => PyData.int (lo + (k : Int))
theorem itr_ok {G B : Hp} {lo : Int} {n : Nat} : ItOk G B (Itr lo n) (rngD lo n) := fun H _ => by
  refine ⟨by simp [rngD, Itr], fun i d hd => ?_⟩
  rw [rngD, List.getElem?_map] at hd
  obtain ⟨k, h1, h2⟩ := Option.map_eq_some_iff.mp hd
  have hk := List.getElem?_eq_some_iff.mp h1
  obtain ⟨hl, hk⟩ := hk
  rw [List.getElem_range] at hk
  rw [List.length_range] at hl
  subst hk
  refine ⟨hl, fun x H' hy => .inl ⟨hy.1, ?_⟩⟩
  rw [hy.2, ← h2]
  exact .int _
noncomputable def rg1 : List RV × Rho → Option (List D × Rho)
  | ([(.int j, _)], ρ) => cIf (-(2 ^ 62) ≤ j ∧ j < 2 ^ 62) (some (rngD 0 j.toNat, ρ)) none
  | _ => none
noncomputable def rg2 : List RV × Rho → Option (List D × Rho)
  | ([(.int i, _), (.int j, _)], ρ) => cIf (-(2 ^ 62) ≤ i ∧ i < 2 ^ 62 ∧ -(2 ^ 62) ≤ j ∧ j < 2 ^ 62) (some (rngD i (j - i).toNat, ρ)) none
  | _ => none
noncomputable def mRg1 (m : Rho → Option (List RV × Rho)) : Rho → Option (List D × Rho) := fun ρ => (m ρ).bind rg1
noncomputable def mRg2 (m : Rho → Option (List RV × Rho)) : Rho → Option (List D × Rho) := fun ρ => (m ρ).bind rg2
section
variable {ta : TA} {m : Rho → Option (List RV × Rho)}
theorem rng1_gen (h : MA ta m) (F : Fr) (B H : Hp) (σ : St) (ρ : Rho) (ds : List D) (ρ' : Rho) (Q : It → Hp → Prop) (R : Rel F B H σ ρ) (e : mRg1 m ρ = some (ds, ρ'))
    (q : ∀ J B' H', Ext σ ρ B H ρ' B' H' → Rel F B' H' σ ρ' → (∀ G, ItOk G B' J ds) → Q J H') : iRng1 ta σ H Q := by
  obtain ⟨x, e1, e⟩ := Option.bind_eq_some_iff.mp e
  refine h F B H σ ρ x.1 x.2 _ R e1 fun vs B1 H1 E1 R1 V1 => ?_
  obtain ⟨rs, ρ2⟩ := x
  unfold rg1 at e
  split at e
  · rename_i j k ρ3 heq
    cases heq
    obtain ⟨hj, e⟩ := cIf_eq e
    · cases e
      match vs, V1 with
      | [v], ⟨⟨h1, _⟩, _⟩ =>
        have : v = .int j := (h1.view R1).int
        subst this
        exact ⟨j, rfl, hj.1, hj.2, q _ B1 H1 E1 R1 fun G => itr_ok⟩
  · cases e
theorem mf_rng1 (h : MA ta m) : MF (iRng1 ta) (mRg1 m) := fun F B H σ ρ ds ρ' Q R e q => rng1_gen h F B H σ ρ ds ρ' Q R e fun J B' H' E R' I => q J B' H' E R' (I _)
end
end Mir
set_option Elab.async false
set_option linter.all false
set_option maxRecDepth 100000
namespace Mir
open PySem L2
variable [Zc]
section
variable {K : PySem.W.Frag} {ta : TA} {m : Rho → Option (List RV × Rho)}
end
def demote (ρ : Rho) (i : Nat) : Sl := match ρ[i]? with
  | some (.own d) => .ro d
  | some (.io d) => .ro d
  | some .ex => .no
  | some s => s
  | none => .no
def asF : RV → Option D
  | (d, .fz) => some d
  | _ => none
theorem asF_eq {r : RV} {d : D} (h : asF r = some d) : r = (d, .fz) := by
  obtain ⟨c, k⟩ := r
  cases k with
  | fz => cases h; rfl
  | _ => cases h
def mYes : Rho → Option (Bool × Rho) := fun ρ => some (true, ρ)
theorem mt_yes : MT tYes mYes := by
  intro F B H σ ρ b ρ' Q R e q
  cases e
  exact q B H (Ext.refl _ _ _ _) R
def F0 (H : Hp) : Fr := ⟨fun _ => none, fun _ => none, [], fun q => H q ≠ none⟩
theorem demote_ex {ρ : Rho} {i : Nat} : demote ρ i ≠ .ex := by
  unfold demote
  cases h : ρ[i]? with
  | none => simp
  | some s => cases s <;> simp
theorem demote_own {ρ : Rho} {i : Nat} : (demote ρ i).isOwn = false := by
  unfold demote
  cases h : ρ[i]? with
  | none => rfl
  | some s => cases s <;> rfl
theorem Rel.inner {F : Fr} {B H : Hp} {σ : St} {ρ : Rho} (R : Rel F B H σ ρ) (fr : List (Str × Nat)) {v : V} {d : D} (h : Rep B v d) : Rel (F0 H) B H (some v :: compRest σ fr) (.fz d :: fr.map fun p => demote ρ p.2) := by
  have nown : ∀ (i : Nat) (s : Sl), (Sl.fz d :: fr.map fun p => demote ρ p.2)[i]? = some s → s.isOwn = true → False := fun i s h1 h2 => by
    cases i with
    | zero => cases h1; cases h2
    | succ i =>
      have h1' : (fr.map fun p => demote ρ p.2)[i]? = some s := by simpa using h1
      rw [List.getElem?_map] at h1'
      obtain ⟨p, _, e⟩ := Option.map_eq_some_iff.mp h1'
      rw [← e, demote_own] at h2
      cases h2
  have nex : ∀ i : Nat, (Sl.fz d :: fr.map fun p => demote ρ p.2)[i]? = some Sl.ex → False := fun i h1 => by
    cases i with
    | zero => cases h1
    | succ i =>
      have h1' : (fr.map fun p => demote ρ p.2)[i]? = some Sl.ex := by simpa using h1
      rw [List.getElem?_map] at h1'
      obtain ⟨p, _, e⟩ := Option.map_eq_some_iff.mp h1'
      exact absurd e demote_ex
  refine ⟨R.sub, (fun _ _ z => by cases z), (fun _ _ z => by cases z), fun _ z _ => absurd rfl z, by simp [compRest], fun i s hs => ?_, fun i j s t p h1 h2 => (nown i s h1 h2).elim, fun i d p h1 => (nown i _ h1 rfl).elim, (fun x hx => by cases hx), fun i d h1 => (nown i _ h1 rfl).elim, R.tupB, (fun i h1 => (nex i h1).elim), fun q o u h z => by rw [z] at h; cases h⟩
  cases i with
  | zero => cases hs; exact ⟨v, rfl, h⟩
  | succ i =>
    have hs' : (fr.map fun p => demote ρ p.2)[i]? = some s := by simpa using hs
    rw [List.getElem?_map] at hs'
    obtain ⟨p, hp, e⟩ := Option.map_eq_some_iff.mp hs'
    have hσ : ∀ x, σ[p.2]? = some (some x) → (some v :: compRest σ fr)[i + 1]? = some (some x) := fun x hx => by
      rw [List.getElem?_cons_succ]
      unfold compRest
      rw [List.getElem?_map, hp, Option.map_some, List.getD_eq_getElem?_getD, hx]
      rfl
    unfold demote at e
    cases q : ρ[p.2]? with
    | none => rw [q] at e; subst e; trivial
    | some s0 =>
      rw [q] at e
      have sl := R.slot p.2 s0 q
      cases s0 with
      | no => subst e; trivial
      | ex => subst e; trivial
      | fz c => subst e; obtain ⟨x, h1, h2⟩ := sl; exact ⟨x, hσ _ h1, h2⟩
      | own c => subst e; obtain ⟨x, h1, _, h2⟩ := sl; exact ⟨x, hσ _ h1, h2⟩
      | io c => subst e; obtain ⟨x, h1, _, h2⟩ := sl; exact ⟨x, hσ _ h1, h2⟩
      | ro c => subst e; obtain ⟨x, h1, h2⟩ := sl; exact ⟨x, hσ _ h1, h2⟩
theorem inner_ext {ρ ρ' : Rho} {σ : St} {B H B' H' : Hp} (nown : ∀ (i : Nat) (s : Sl), ρ[i]? = some s → s.isOwn = true → False) (E : Ext σ ρ B H ρ' B' H') : Same H H' ∧ ∀ q, H q ≠ none → B q = none → B' q = none := by
  have k : ∀ q o, H q = some o → H' q = some o ∧ (B q = none → B' q = none) := fun q o h => E.keep q o h fun i s h1 h2 => (nown i s h1 h2).elim
  refine ⟨fun q o h => (k q o h).1, fun q h z => ?_⟩
  cases e : H q with
  | none => exact absurd e h
  | some o => exact (k q o e).2 z
theorem inner_nown {fr : List (Str × Nat)} {ρ : Rho} {d : D} (i : Nat) (s : Sl) (h1 : (Sl.fz d :: fr.map fun p => demote ρ p.2)[i]? = some s) (h2 : s.isOwn = true) : False := by
  cases i with
  | zero => cases h1; cases h2
  | succ i =>
    have h1' : (fr.map fun p => demote ρ p.2)[i]? = some s := by simpa using h1
    rw [List.getElem?_map] at h1'
    obtain ⟨p, _, e⟩ := Option.map_eq_some_iff.mp h1'
    rw [← e, demote_own] at h2
    cases h2
end Mir
set_option Elab.async false
set_option linter.all false
set_option maxRecDepth 100000
namespace Mir
open PySem L2
variable [Zc]
def Sl.put : Sl → D → Sl
  | .own _, d => .own d
  | .io _, d => .io d
  | s, _ => s
section
variable {F : Fr} {B H : Hp} {σ : St} {ρ ρ' : Rho} {v : V}
theorem SlotOk.at {B H : Hp} {σ σ' : St} {i : Nat} {s : Sl} (e : σ'[i]? = σ[i]?) (h : SlotOk B H σ i s) : SlotOk B H σ' i s := by
  unfold SlotOk at h ⊢
  rw [e]; exact h
theorem Rel.write (R : Rel F B H σ ρ) {i : Nat} {s : Sl} {p : Addr} {o : HO} {d : D} (hi : ρ[i]? = some s) (hs : s.isOwn = true) (hv : σ[i]? = some (some (.ref p))) (no : (∀ xs, o ≠ .tup xs) ∧ ∀ a u, o ≠ .frz a u) (ow : Own B (upd H p o) p d) :
    Rel F B (upd H p o) σ (ρ.set i (s.put d)) ∧ Ext σ ρ B H (ρ.set i (s.put d)) B (upd H p o) := by
  obtain ⟨p', e1, hB, o0⟩ := R.ownAt hi hs
  rw [hv] at e1
  cases e1
  have hl : i < ρ.length := (List.getElem?_eq_some_iff.mp hi).1
  have pO : (s.put d).isOwn = true ∧ slD (s.put d) = d := by cases s <;> first | exact ⟨rfl, rfl⟩ | cases hs
  have ne : ∀ (j : Nat) (t : Sl) (q : Addr), j ≠ i → ρ[j]? = some t → t.isRef = true → σ[j]? = some (some (.ref q)) → q ≠ p := fun j t q hj h1 h2 h3 z => hj (R.dist i j s t p hi hs h1 h2 hv (z ▸ h3)).symm
  have nio : ∀ (j : Nat) (t : Sl), (ρ.set i (s.put d))[j]? = some t → ∃ t0, ρ[j]? = some t0 ∧ t.isOwn = t0.isOwn ∧ t.isRef = t0.isRef ∧ (∀ c, t = .own c → ∃ c0, t0 = .own c0) ∧ ∀ c, t = .io c → ∃ c0, t0 = .io c0 := fun j t h => by
    rcases get_set h with ⟨rfl, rfl, _⟩ | ⟨_, h⟩
    · refine ⟨s, hi, ?_⟩
      cases s with
      | own c => exact ⟨rfl, rfl, fun _ _ => ⟨_, rfl⟩, fun _ z => by cases z⟩
      | io c => exact ⟨rfl, rfl, (fun _ z => by cases z), fun _ _ => ⟨_, rfl⟩⟩
      | _ => cases hs
    · exact ⟨t, h, rfl, rfl, fun c z => ⟨c, z⟩, fun c z => ⟨c, z⟩⟩
  have hF : F.H p = none ∨ ∃ x ∈ F.io, x.2 = p := by
    cases s with
    | own c => exact .inl (R.ownN i c p hi hv)
    | io c =>
      obtain ⟨p', hp⟩ := R.ioN i c hi
      obtain ⟨h1, _⟩ := R.fx _ hp
      have h1' : σ[i]? = some (some (.ref p')) := h1
      rw [hv] at h1'
      cases h1'
      exact .inr ⟨_, hp, rfl⟩
    | _ => cases hs
  have nput : s.put d ≠ .ex := by
    cases s with
    | own c => simp [Sl.put]
    | io c => simp [Sl.put]
    | _ => cases hs
  refine ⟨⟨?_, R.sB, ?_, R.nB, by rw [List.length_set]; exact R.len, ?_, ?_, ?_, ?_, ?_, ?_, (fun j h => R.exv j (ex_set nput h).1), fun q a u h => by
    by_cases z : q = p
    · subst z; rw [upd_same] at h; cases h; exact absurd rfl (no.2 _ _)
    · rw [upd_ne z] at h; exact R.nz q a u h⟩, ⟨Same.refl _, ?_, ?_, ?_, ?_⟩⟩
  · intro q u hq
    rw [upd_ne (show q ≠ p from fun z => by rw [z, hB] at hq; cases hq)]; exact R.sub q u hq
  · intro q u h1 h2
    have z : q ≠ p := fun z => by
      rcases hF with h | ⟨x, hx, h⟩
      · rw [z, h] at h1; cases h1
      · exact h2 x hx (h.trans z.symm)
    rw [upd_ne z]; exact R.sH q u h1 h2
  · intro j t ht
    rcases get_set ht with ⟨rfl, rfl, _⟩ | ⟨hj, ht⟩
    · cases s with
      | own c => exact ⟨p, hv, hB, ow⟩
      | io c => exact ⟨p, hv, hB, ow⟩
      | _ => cases hs
    · have q := R.slot j t ht
      have k : ∀ q, q ≠ p → ∀ u, H q = some u → upd H p o q = some u := fun q z u h => by rw [upd_ne z]; exact h
      cases t with
      | no => trivial
      | ex => trivial
      | fz c => exact q
      | own c => obtain ⟨q, h1, h2, h3⟩ := q; exact ⟨q, h1, h2, h3.mono (Same.refl _) (k q (ne j _ q hj ht rfl h1))⟩
      | io c => obtain ⟨q, h1, h2, h3⟩ := q; exact ⟨q, h1, h2, h3.mono (Same.refl _) (k q (ne j _ q hj ht rfl h1))⟩
      | ro c => obtain ⟨q, h1, h3⟩ := q; exact ⟨q, h1, h3.mono (Same.refl _) (k q (ne j _ q hj ht rfl h1))⟩
  · intro a b t u q h1 h2 h3 h4 h5 h6
    obtain ⟨t0, h1', e1, _, _, _⟩ := nio a t h1
    obtain ⟨u0, h3', _, e3, _, _⟩ := nio b u h3
    exact R.dist a b t0 u0 q h1' (e1 ▸ h2) h3' (e3 ▸ h4) h5 h6
  · intro j c q h1 h2
    obtain ⟨t0, h1', _, _, e1, _⟩ := nio j _ h1
    obtain ⟨c0, rfl⟩ := e1 c rfl
    exact R.ownN j c0 q h1' h2
  · intro x hx
    obtain ⟨h1, c, h2⟩ := R.fx x hx
    refine ⟨h1, ?_⟩
    by_cases z : i = x.1
    · subst z
      rw [hi] at h2
      cases h2
      exact ⟨d, by rw [List.getElem?_set_self hl]; rfl⟩
    · exact ⟨c, by rw [List.getElem?_set_ne z]; exact h2⟩
  · intro j c h1
    obtain ⟨t0, h1', _, _, _, e1⟩ := nio j _ h1
    obtain ⟨c0, rfl⟩ := e1 c rfl
    exact R.ioN j c0 h1'
  · intro q xs h
    by_cases z : q = p
    · subst z; rw [upd_same] at h; cases h; exact absurd rfl (no.1 xs)
    · rw [upd_ne z] at h; exact R.tupB q xs h
  · intro q u h n
    refine ⟨?_, id⟩
    rw [upd_ne (show q ≠ p from fun z => n i s hi hs (by rw [z]; exact hv))]; exact h
  · intro j t h1 h2
    obtain ⟨t0, h1', e1, _, _, _⟩ := nio j t h1
    exact ⟨t0, h1', e1 ▸ h2⟩
  · intro j t h1 h2
    obtain ⟨t0, h1', _, e1, _, _⟩ := nio j t h1
    exact ⟨t0, h1', e1 ▸ h2⟩
  · intro q h
    by_cases z : q = p
    · subst z; rw [upd_same] at h; cases h
    · rw [upd_ne z] at h; exact h
end
def ownL : Option Sl → Option (List D)
  | some (.own (.list ds)) => some ds
  | some (.io (.list ds)) => some ds
  | _ => none
theorem ownL_eq {s : Option Sl} {ds : List D} (h : ownL s = some ds) : ∃ t, s = some t ∧ t.isOwn = true ∧ slD t = .list ds := by
  unfold ownL at h
  split at h
  · cases h; exact ⟨_, rfl, rfl, rfl⟩
  · cases h; exact ⟨_, rfl, rfl, rfl⟩
  · cases h
def putAt (ρ : Rho) (i : Nat) (d : D) : Rho := match ρ[i]? with
  | some s => ρ.set i (s.put d)
  | none => ρ
def MutJ (r : V → List V → Hp → VK → Prop) (f : List D → List D → Option (List D × D)) : Prop :=
  ∀ (B H : Hp) (p : Addr) (xs : List V) (ds : List D) (vs : List V) (as : List D) (w : List D × D), H p = some (.lst xs) → Reps B xs ds → Same B H → Reps B vs as → f ds as = some w →
    ∃ xs' v, Reps B xs' w.1 ∧ Rep B v w.2 ∧ ∀ Q : VK, Q v (upd H p (.lst xs')) → r (.ref p) vs H Q
def mMut (i : Nat) (f : List D → List D → Option (List D × D)) (m : Rho → Option (List RV × Rho)) : PM := fun ρ => (ownL ρ[i]?).bind fun _ => (m ρ).bind fun x => (fzAll x.1 x.2).bind fun y => (ownL y.2[i]?).bind fun ds => (f ds y.1).map fun w => ((w.2, .fz), putAt y.2 i (.list w.1))
theorem Own.list {B H : Hp} {p : Addr} {ds : List D} (h : Own B H p (.list ds)) : ∃ xs, H p = some (.lst xs) ∧ Reps B xs ds := by
  cases h with
  | lst h r => exact ⟨_, h, r⟩
theorem me_mut {K : PySem.W.Frag} {i : Nat} {r : V → List V → Hp → VK → Prop} {f : List D → List D → Option (List D × D)} {t : TA} {m : Rho → Option (List RV × Rho)} (J : MutJ r f) (h : MA t m) : ME (tBM K "list" r (tVar i) t) (mMut i f m) := by
  intro F B H σ ρ r0 ρ' Q R e q
  obtain ⟨ds0, e0, e⟩ := Option.bind_eq_some_iff.mp e
  obtain ⟨x, e1, e⟩ := Option.bind_eq_some_iff.mp e
  obtain ⟨y, e2, e⟩ := Option.bind_eq_some_iff.mp e
  obtain ⟨ds, e3, e⟩ := Option.bind_eq_some_iff.mp e
  obtain ⟨w, e4, e⟩ := Option.map_eq_some_iff.mp e
  cases e
  obtain ⟨s0, hs0, ho0, hd0⟩ := ownL_eq e0
  obtain ⟨p, hv, hB, ow⟩ := R.ownAt hs0 ho0
  rw [hd0] at ow
  obtain ⟨xs0, hp0, _⟩ := ow.list
  refine ⟨_, hv, .inl ⟨rfl, xs0, SqL.of hp0⟩, ?_⟩
  refine h F B H σ ρ x.1 x.2 _ R e1 fun vs B1 H1 E1 R1 V1 => ?_
  obtain ⟨B2, R2, rp, E2⟩ := Rel.frzL R1 V1.weak e2
  obtain ⟨s, hs, ho, hd⟩ := ownL_eq e3
  obtain ⟨p', hv', hB', ow'⟩ := R2.ownAt hs ho
  rw [hv] at hv'
  cases hv'
  rw [hd] at ow'
  obtain ⟨xs, hp, rx⟩ := ow'.list
  obtain ⟨xs', u, rx', ru, hr⟩ := J B2 H1 p xs ds vs y.1 w hp rx R2.sub rp e4
  obtain ⟨R3, E3⟩ := R2.write (o := .lst xs') (d := .list w.1) hs ho hv ⟨(fun _ z => by cases z), fun _ _ z => by cases z⟩ (.lst upd_same rx')
  have ep : putAt y.2 i (.list w.1) = y.2.set i (s.put (.list w.1)) := by unfold putAt; rw [hs]
  rw [ep] at q
  exact hr Q (q u B2 _ (E1.trans (E2.trans E3)) R3 ru fun p z => by cases z)
def mMut0 (i : Nat) (f : List D → List D → Option (List D × D)) : PM := fun ρ => (ownL ρ[i]?).bind fun ds => (f ds []).map fun w => ((w.2, .fz), putAt ρ i (.list w.1))
theorem me_mut0 {K : PySem.W.Frag} {i : Nat} {r : V → List V → Hp → VK → Prop} {f : List D → List D → Option (List D × D)} (J : MutJ r f) : ME (tBM0 K "list" r (tVar i)) (mMut0 i f) := by
  intro F B H σ ρ r0 ρ' Q R e q
  obtain ⟨ds, e0, e⟩ := Option.bind_eq_some_iff.mp e
  obtain ⟨w, e4, e⟩ := Option.map_eq_some_iff.mp e
  cases e
  obtain ⟨s, hs, ho, hd⟩ := ownL_eq e0
  obtain ⟨p, hv, hB, ow⟩ := R.ownAt hs ho
  rw [hd] at ow
  obtain ⟨xs, hp, rx⟩ := ow.list
  refine ⟨_, hv, .inl ⟨rfl, xs, SqL.of hp⟩, ?_⟩
  obtain ⟨xs', u, rx', ru, hr⟩ := J B H p xs ds [] [] w hp rx R.sub .nil e4
  obtain ⟨R3, E3⟩ := R.write (o := .lst xs') (d := .list w.1) hs ho hv ⟨(fun _ z => by cases z), fun _ _ z => by cases z⟩ (.lst upd_same rx')
  have ep : putAt ρ i (.list w.1) = ρ.set i (s.put (.list w.1)) := by unfold putAt; rw [hs]
  rw [ep] at q
  exact hr Q (q u B _ E3 R3 ru fun p z => by cases z)
end Mir
set_option Elab.async false
set_option linter.all false
set_option maxRecDepth 100000
namespace Mir
open PySem L2
variable [Zc]
inductive Out where
  | nx (ρ : Rho) | rt (r : RV) (ρ : Rho) | bk (ρ : Rho) | ct (ρ : Rho)
abbrev SM := Rho → Option Out
def OutOk (F : Fr) (D : Ends) : Out → Prop
  | .nx ρ => ∀ B H σ, Rel F B H σ ρ → D.nx σ H
  | .rt r ρ => ∀ v B H σ, Rel F B H σ ρ → Val F B H σ ρ v r → D.rt v H
  | .bk ρ => ∀ B H σ, Rel F B H σ ρ → D.bk σ H
  | .ct ρ => ∀ B H σ, Rel F B H σ ρ → D.ct σ H
def MS (t : TS) (m : SM) : Prop := ∀ (F : Fr) (B H : Hp) (σ : St) (ρ : Rho) (o : Out) (D : Ends), Rel F B H σ ρ → m ρ = some o → OutOk F D o → t D σ H
def mSeq (a b : SM) : SM := fun ρ => (a ρ).bind fun o => match o with
  | .nx ρ' => b ρ'
  | o => some o
theorem ms_seq {t u : TS} {a b : SM} (ha : MS t a) (hb : MS u b) : MS (tSeq t u) (mSeq a b) := by
  intro F B H σ ρ o D R e q
  obtain ⟨x, e1, e⟩ := Option.bind_eq_some_iff.mp e
  refine ha F B H σ ρ x _ R e1 ?_
  cases x with
  | nx ρ' => exact fun B' H' σ' R' => hb F B' H' σ' ρ' o D R' e q
  | rt r ρ' => cases e; exact q
  | bk ρ' => cases e; exact q
  | ct ρ' => cases e; exact q
def mPass : SM := fun ρ => some (.nx ρ)
theorem ms_next : MS tNext mPass := by
  intro F B H σ ρ o D R e q
  cases e; exact q B H σ R
def mNever : SM := fun _ => none
theorem ms_never : MS tNever mNever := by
  intro F B H σ ρ o D R e q
  cases e
def mRet (a : PM) : SM := fun ρ => (a ρ).map fun x => .rt x.1 x.2
theorem ms_ret {t : TE} {a : PM} (ha : ME t a) : MS (tRet t) (mRet a) := by
  intro F B H σ ρ o D R e q
  obtain ⟨x, e1, e⟩ := Option.map_eq_some_iff.mp e
  cases e
  exact ha F B H σ ρ x.1 x.2 _ R e1 fun v B' H' E R' V' N => q v B' H' σ R' V'
def mRetN : SM := fun ρ => some (.rt (.none, .fz) ρ)
def mDrop (a : PM) : SM := fun ρ => (a ρ).map fun x => .nx x.2
theorem ms_drop {t : TE} {a : PM} (ha : ME t a) : MS (tDrop t) (mDrop a) := by
  intro F B H σ ρ o D R e q
  obtain ⟨x, e1, e⟩ := Option.map_eq_some_iff.mp e
  cases e
  exact ha F B H σ ρ x.1 x.2 _ R e1 fun v B' H' E R' V' N => q B' H' σ R'
def mIfS (c : Rho → Option (Bool × Rho)) (a b : SM) : SM := fun ρ => (c ρ).bind fun x => if x.1 = true then a x.2 else b x.2
theorem ms_if {tc : TT} {t u : TS} {c : Rho → Option (Bool × Rho)} {a b : SM} (hc : MT tc c) (ha : MS t a) (hb : MS u b) : MS (tIfS tc t u) (mIfS c a b) := by
  intro F B H σ ρ o D R e q
  obtain ⟨x, e1, e⟩ := Option.bind_eq_some_iff.mp e
  refine hc F B H σ ρ x.1 x.2 _ R e1 fun B' H' E R' => ?_
  by_cases h : x.1 = true
  · rw [if_pos h] at e ⊢; exact ha F B' H' σ x.2 o D R' e q
  · rw [if_neg h] at e ⊢; exact hb F B' H' σ x.2 o D R' e q
def setSl (ρ : Rho) (i : Nat) (s : Sl) : Option Rho := match ρ[i]? with
  | none => none
  | some (.io _) => none
  | some _ => some (ρ.set i s)
theorem setSl_eq {ρ ρ' : Rho} {i : Nat} {s : Sl} (h : setSl ρ i s = some ρ') : ρ' = ρ.set i s ∧ ∃ s0, ρ[i]? = some s0 ∧ ∀ d, s0 ≠ .io d := by
  unfold setSl at h
  cases q : ρ[i]? with
  | none => rw [q] at h; cases h
  | some s0 =>
    rw [q] at h
    cases s0 with
    | io d => cases h
    | no => cases h; exact ⟨rfl, _, rfl, fun _ z => by cases z⟩
    | ex => cases h; exact ⟨rfl, _, rfl, fun _ z => by cases z⟩
    | fz _ => cases h; exact ⟨rfl, _, rfl, fun _ z => by cases z⟩
    | own _ => cases h; exact ⟨rfl, _, rfl, fun _ z => by cases z⟩
    | ro _ => cases h; exact ⟨rfl, _, rfl, fun _ z => by cases z⟩
section
variable {F : Fr} {B H : Hp} {σ : St} {ρ ρ' : Rho} {v : V}
theorem Rel.assignFz (R : Rel F B H σ ρ) {i : Nat} {d : D} (rp : Rep B v d) (h : setSl ρ i (.fz d) = some ρ') : Rel F B H (σ.set i (some v)) ρ' := by
  obtain ⟨rfl, s0, h0, nio⟩ := setSl_eq h
  have hl : i < ρ.length := (List.getElem?_eq_some_iff.mp h0).1
  have hls : i < σ.length := R.len ▸ hl
  have so : ∀ j, j ≠ i → (σ.set i (some v))[j]? = σ[j]? := fun j hj => List.getElem?_set_ne fun e => hj e.symm
  refine ⟨R.sub, R.sB, R.sH, R.nB, by rw [List.length_set, List.length_set]; exact R.len, ?_, ?_, ?_, ?_, ?_, R.tupB, (fun j h => by obtain ⟨h1, h2⟩ := ex_set (by simp) h; rw [so j h2]; exact R.exv j h1), R.nz⟩
  · intro j s hs
    rcases get_set hs with ⟨rfl, rfl, _⟩ | ⟨hj, hs⟩
    · exact ⟨v, List.getElem?_set_self hls, rp⟩
    · exact (R.slot j s hs).at (so j hj)
  · intro a b s t p h1 h2 h3 h4 h5 h6
    rcases get_set h1 with ⟨rfl, rfl, _⟩ | ⟨ha, h1⟩
    · cases h2
    · rcases get_set h3 with ⟨rfl, rfl, _⟩ | ⟨hb, h3⟩
      · cases h4
      · rw [so a ha] at h5; rw [so b hb] at h6; exact R.dist a b s t p h1 h2 h3 h4 h5 h6
  · intro j c p h1 h2
    rcases get_set h1 with ⟨rfl, e, _⟩ | ⟨hj, h1⟩
    · cases e
    · rw [so j hj] at h2; exact R.ownN j c p h1 h2
  · intro x hx
    obtain ⟨h1, c, h2⟩ := R.fx x hx
    have z : x.1 ≠ i := fun z => by rw [z, h0] at h2; cases h2; exact nio _ rfl
    exact ⟨by rw [so _ z]; exact h1, c, by rw [List.getElem?_set_ne fun e => z e.symm]; exact h2⟩
  · intro j c h1
    rcases get_set h1 with ⟨rfl, e, _⟩ | ⟨hj, h1⟩
    · cases e
    · exact R.ioN j c h1
theorem Rel.assignOwn (R : Rel F B H σ ρ) {i : Nat} {d : D} (vl : Val F B H σ ρ v (d, .new)) (h : setSl ρ i (.own d) = some ρ') : Rel F B H (σ.set i (some v)) ρ' := by
  obtain ⟨rfl, s0, h0, nio⟩ := setSl_eq h
  obtain ⟨p, rfl, hB, hF, ow, nn⟩ := vl
  have hl : i < ρ.length := (List.getElem?_eq_some_iff.mp h0).1
  have hls : i < σ.length := R.len ▸ hl
  have so : ∀ j, j ≠ i → (σ.set i (some (.ref p)))[j]? = σ[j]? := fun j hj => List.getElem?_set_ne fun e => hj e.symm
  have si : (σ.set i (some (.ref p)))[i]? = some (some (.ref p)) := List.getElem?_set_self hls
  refine ⟨R.sub, R.sB, R.sH, R.nB, by rw [List.length_set, List.length_set]; exact R.len, ?_, ?_, ?_, ?_, ?_, R.tupB, (fun j h => by obtain ⟨h1, h2⟩ := ex_set (by simp) h; rw [so j h2]; exact R.exv j h1), R.nz⟩
  · intro j s hs
    rcases get_set hs with ⟨rfl, rfl, _⟩ | ⟨hj, hs⟩
    · exact ⟨p, si, hB, ow⟩
    · exact (R.slot j s hs).at (so j hj)
  · intro a b s t q h1 h2 h3 h4 h5 h6
    rcases get_set h1 with ⟨rfl, rfl, _⟩ | ⟨ha, h1'⟩
    · rcases get_set h3 with ⟨rfl, rfl, _⟩ | ⟨hb, h3⟩
      · rfl
      · rw [si] at h5
        cases h5
        rw [so b hb] at h6
        exact absurd h6 (nn b t h3 h4)
    · rcases get_set h3 with ⟨rfl, rfl, _⟩ | ⟨hb, h3⟩
      · rw [si] at h6
        cases h6
        rw [so a ha] at h5
        exact absurd h5 (nn a s h1' (Sl.ref_of h2))
      · rw [so a ha] at h5; rw [so b hb] at h6; exact R.dist a b s t q h1' h2 h3 h4 h5 h6
  · intro j c q h1 h2
    rcases get_set h1 with ⟨rfl, e, _⟩ | ⟨hj, h1⟩
    · rw [si] at h2; cases h2; exact hF
    · rw [so j hj] at h2; exact R.ownN j c q h1 h2
  · intro x hx
    obtain ⟨h1, c, h2⟩ := R.fx x hx
    have z : x.1 ≠ i := fun z => by rw [z, h0] at h2; cases h2; exact nio _ rfl
    exact ⟨by rw [so _ z]; exact h1, c, by rw [List.getElem?_set_ne fun e => z e.symm]; exact h2⟩
  · intro j c h1
    rcases get_set h1 with ⟨rfl, e, _⟩ | ⟨hj, h1⟩
    · cases e
    · exact R.ioN j c h1
end
def sto (i : Nat) (x : RV × Rho) : Option Rho := match x.1.2 with
  | .fz => setSl x.2 i (.fz x.1.1)
  | .new => setSl x.2 i (.own x.1.1)
  | .at j => if j = i then some x.2 else (fzOne x.1 x.2).bind fun y => setSl y.2 i (.fz y.1)
  | .ro => none
def mAsg (i : Nat) (a : PM) : SM := fun ρ => (a ρ).bind fun x => (sto i x).map .nx
theorem ms_asg {i : Nat} {t : TE} {a : PM} (ha : ME t a) : MS (tAsg t (gName i)) (mAsg i a) := by
  intro F B H σ ρ o D R e q
  obtain ⟨x, e1, e⟩ := Option.bind_eq_some_iff.mp e
  obtain ⟨ρ2, e2, e⟩ := Option.map_eq_some_iff.mp e
  cases e
  refine ha F B H σ ρ x.1 x.2 _ R e1 fun v B1 H1 E1 R1 V1 N1 => ?_
  show D.nx (σ.set i (some v)) H1
  obtain ⟨⟨d, k⟩, ρ1⟩ := x
  cases k with
  | fz => exact q B1 H1 _ (R1.assignFz V1 e2)
  | new => exact q B1 H1 _ (R1.assignOwn V1 e2)
  | ro => cases e2
  | «at» j =>
    have e2' : (if j = i then some ρ1 else (fzOne (d, .at j) ρ1).bind fun y => setSl y.2 i (.fz y.1)) = some ρ2 := e2
    obtain ⟨s, h1, h2, h3, h4⟩ := V1
    have h4' : σ[j]? = some (some v) := h4
    by_cases z : j = i
    · rw [if_pos z] at e2'
      cases e2'
      subst z
      have : σ.set j (some v) = σ := by
        apply List.ext_getElem?
        intro k
        by_cases hk : k = j
        · subst hk
          obtain ⟨hl, _⟩ := List.getElem?_eq_some_iff.mp h4'
          rw [List.getElem?_set_self hl, h4']
        · rw [List.getElem?_set_ne fun e => hk e.symm]
      rw [this]
      exact q B1 H1 _ R1
    · rw [if_neg z] at e2'
      obtain ⟨y, e3, e4⟩ := Option.bind_eq_some_iff.mp e2'
      obtain ⟨B2, R2, rp, E2⟩ := R1.frz (v := v) (r := (d, .at j)) (show WVal B1 σ v (d, .at j) from h4') e3
      exact q B2 H1 _ (R2.assignFz rp e4)
def mAug (i : Nat) (f : Int → Int → Int) (a : PM) : SM := fun ρ => match ρ[i]? with
  | some (.fz (.int x)) => ((sv a ρ).bind asI).bind fun y => (setSl y.2 i (.fz (.int (f x y.1)))).map .nx
  | _ => none
def MG (g : TG) (mg : D → Rho → Option Rho) : Prop := ∀ (F : Fr) (B H : Hp) (σ : St) (ρ : Rho) (v : V) (d : D) (ρ' : Rho) (Q : St → Hp → Prop), Rel F B H σ ρ → Rep B v d → mg d ρ = some ρ' → (∀ B' H' σ', Rel F B' H' σ' ρ' → Same B B' → Q σ' H') → g v σ H Q
def MGs (g : TGs) (mg : List D → Rho → Option Rho) : Prop := ∀ (F : Fr) (B H : Hp) (σ : St) (ρ : Rho) (vs : List V) (ds : List D) (ρ' : Rho) (Q : St → Hp → Prop), Rel F B H σ ρ → Reps B vs ds → mg ds ρ = some ρ' → (∀ B' H' σ', Rel F B' H' σ' ρ' → Same B B' → Q σ' H') → g vs σ H Q
def mgN (i : Nat) : D → Rho → Option Rho := fun d ρ => setSl ρ i (.fz d)
theorem mg_name {i : Nat} : MG (gName i) (mgN i) := fun F B H σ ρ v d ρ' Q R rp e q => q B H _ (R.assignFz rp e) (Same.refl _)
def mgsNil : List D → Rho → Option Rho := fun ds ρ => match ds with
  | [] => some ρ
  | _ => none
def mgsCons (g : D → Rho → Option Rho) (gs : List D → Rho → Option Rho) : List D → Rho → Option Rho := fun ds ρ => match ds with
  | d :: ds => (g d ρ).bind fun ρ1 => gs ds ρ1
  | _ => none
theorem mgs_nil : MGs gNil mgsNil := fun F B H σ ρ vs ds ρ' Q R rp e q => by
  cases rp with
  | nil => cases e; exact ⟨rfl, q B H σ R (Same.refl _)⟩
  | cons _ _ => cases e
theorem mgs_cons {g : TG} {gs : TGs} {m : D → Rho → Option Rho} {ms : List D → Rho → Option Rho} (h : MG g m) (hs : MGs gs ms) : MGs (gCons g gs) (mgsCons m ms) := fun F B H σ ρ vs ds ρ' Q R rp e q => by
  cases rp with
  | nil => cases e
  | cons r rs =>
    obtain ⟨ρ1, e1, e2⟩ := Option.bind_eq_some_iff.mp e
    exact ⟨_, _, rfl, h F B H σ ρ _ _ ρ1 _ R r e1 fun B1 H1 σ1 R1 s1 => hs F B1 H1 σ1 ρ1 _ _ ρ' Q R1 (rs.mono s1) e2 fun B2 H2 σ2 R2 s2 => q B2 H2 σ2 R2 (s1.trans s2)⟩
def mgT (n : Nat) (ms : List D → Rho → Option Rho) : D → Rho → Option Rho := fun d ρ => (asT d).bind fun ds => if ds.length = n then ms ds ρ else none
def mAsgG (a : PM) (g : D → Rho → Option Rho) : SM := fun ρ => (sv a ρ).bind fun x => (fzOne x.1 x.2).bind fun y => (g y.1 y.2).map .nx
theorem ms_asgG {t : TE} {tg : TG} {a : PM} {g : D → Rho → Option Rho} (ha : ME t a) (hg : MG tg g) : MS (tAsg t tg) (mAsgG a g) := by
  intro F B H σ ρ o D R e q
  obtain ⟨x, e1, e⟩ := Option.bind_eq_some_iff.mp e
  obtain ⟨y, e2, e⟩ := Option.bind_eq_some_iff.mp e
  obtain ⟨ρ2, e3, e⟩ := Option.map_eq_some_iff.mp e
  cases e
  refine ha.sv F B H σ ρ x.1 x.2 _ R e1 fun v B1 H1 E1 R1 V1 N1 => ?_
  have w : WVal B1 σ v x.1 := (Vl.weak (F := F) (H := H1) (ρ := x.2) (vs := [v]) (rs := [x.1]) ⟨⟨V1, sv_kind e1⟩, trivial⟩).1
  obtain ⟨B2, R2, rp, E2⟩ := R1.frz w e2
  exact hg F B2 H1 σ y.2 v y.1 ρ2 _ R2 rp e3 fun B' H' σ' R' _ => q B' H' σ' R'
def mgSub (i : Nat) (a : PM) : D → Rho → Option Rho := fun d ρ => (ownL ρ[i]?).bind fun _ => ((sv a ρ).bind asI).bind fun y => (ownL y.2[i]?).bind fun ds => (ixN ds.length y.1).map fun j => putAt y.2 i (.list (ds.set j d))
def mWhile (c : Rho → Option (Bool × Rho)) (b : SM) : Nat → SM
  | 0 => fun _ => none
  | n + 1 => fun ρ => (c ρ).bind fun x => if x.1 = true then (b x.2).bind fun o => match o with
      | .nx ρ' => mWhile c b n ρ'
      | .ct ρ' => mWhile c b n ρ'
      | .bk ρ' => some (.nx ρ')
      | .rt r ρ' => some (.rt r ρ')
    else some (.nx x.2)
theorem ms_while {tc : TT} {tb : TS} {c : Rho → Option (Bool × Rho)} {b : SM} {n : Nat} (hc : MT tc c) (hb : MS tb b) : MS (tWhile tc tb) (mWhile c b n) := by
  intro F B H σ ρ o D R e q
  refine ⟨fun m σ H => ∃ B ρ, Rel F B H σ ρ ∧ mWhile c b m ρ = some o, ⟨n, B, ρ, R, e⟩, ?_⟩
  rintro m σ1 H1 ⟨B1, ρ1, R1, e1⟩
  cases m with
  | zero => cases e1
  | succ m =>
    obtain ⟨x, e2, e3⟩ := Option.bind_eq_some_iff.mp (show (c ρ1).bind _ = some o from e1)
    refine hc F B1 H1 σ1 ρ1 x.1 x.2 _ R1 e2 fun B2 H2 E2 R2 => ?_
    by_cases h : x.1 = true
    · rw [if_pos h] at e3 ⊢
      obtain ⟨w, e4, e5⟩ := Option.bind_eq_some_iff.mp e3
      refine ⟨fun σ' H' => ∃ B' ρ', Rel F B' H' σ' ρ' ∧ mWhile c b m ρ' = some o, fun σ' H' h' => ⟨m, Nat.lt_succ_self _, h'⟩, ?_⟩
      refine hb F B2 H2 σ1 x.2 w _ R2 e4 ?_
      cases w with
      | nx ρ' => exact fun B' H' σ' R' => ⟨B', ρ', R', e5⟩
      | ct ρ' => exact fun B' H' σ' R' => ⟨B', ρ', R', e5⟩
      | bk ρ' => cases e5; exact q
      | rt r ρ' => cases e5; exact q
    · rw [if_neg h] at e3 ⊢
      cases e3
      exact q B2 H2 σ1 R2
def forL (g : D → Rho → Option Rho) (b : SM) : List D → SM
  | [] => fun ρ => some (.nx ρ)
  | d :: ds => fun ρ => (g d ρ).bind fun ρ1 => (b ρ1).bind fun o => match o with
      | .nx ρ' => forL g b ds ρ'
      | .ct ρ' => forL g b ds ρ'
      | .bk ρ' => some (.nx ρ')
      | .rt r ρ' => some (.rt r ρ')
def mFor (it : Rho → Option (List D × Rho)) (g : D → Rho → Option Rho) (b : SM) : SM := fun ρ => (it ρ).bind fun x => forL g b x.1 x.2
section
variable {F : Fr} {B B1 H H1 : Hp} {σ σ1 : St} {ρ ρ1 : Rho}
theorem Rel.up (R1 : Rel F B1 H1 σ1 ρ1) (R : Rel ⟨B1, F.H, F.io, F.Z⟩ B H σ ρ) : Rel F B H σ ρ :=
  ⟨R.sub, R1.sB.trans R.sB, R.sH, fun q h z => R.nB q h (R1.nB q h z), R.len, R.slot, R.dist, R.ownN, R.fx, R.ioN, R.tupB, R.exv, R.nz⟩
theorem Rel.down (R1 : Rel F B1 H1 σ1 ρ1) : Rel ⟨B1, F.H, F.io, F.Z⟩ B1 H1 σ1 ρ1 :=
  ⟨R1.sub, Same.refl _, R1.sH, fun q h z => z, R1.len, R1.slot, R1.dist, R1.ownN, R1.fx, R1.ioN, R1.tupB, R1.exv, R1.nz⟩
end
theorem OutOk.down {F : Fr} {B1 H1 : Hp} {σ1 : St} {ρ1 : Rho} (R1 : Rel F B1 H1 σ1 ρ1) {D : Ends} {o : Out} (h : OutOk F D o) : OutOk ⟨B1, F.H, F.io, F.Z⟩ D o := by
  cases o with
  | nx ρ => exact fun B H σ R => h B H σ (R1.up R)
  | bk ρ => exact fun B H σ R => h B H σ (R1.up R)
  | ct ρ => exact fun B H σ R => h B H σ (R1.up R)
  | rt r ρ => exact fun v B H σ R V => h v B H σ (R1.up R) V
theorem ms_for {ti : TI} {tg : TG} {tb : TS} {it : Rho → Option (List D × Rho)} {g : D → Rho → Option Rho} {b : SM} (hi : MF ti it) (hg : MG tg g) (hb : MS tb b) : MS (tFor ti tg tb) (mFor it g b) := by
  intro F B H σ ρ o D R e q
  obtain ⟨x, e1, e⟩ := Option.bind_eq_some_iff.mp e
  refine hi F B H σ ρ x.1 x.2 _ R e1 fun J B1 H1 E1 R1 I1 => ?_
  obtain ⟨ds, ρ1⟩ := x
  have q' := q.down R1
  refine ⟨fun i m σ H => m = ds.length - i ∧ i ≤ ds.length ∧ ∃ B ρ, Rel ⟨B1, F.H, F.io, F.Z⟩ B H σ ρ ∧ forL g b (ds.drop i) ρ = some o, ⟨ds.length, rfl, Nat.zero_le _, B1, ρ1, R1.down, e⟩, ?_⟩
  rintro i m σ2 H2 ⟨rfl, hil, B2, ρ2, R2, e2⟩
  have sH : Same B1 H2 := R2.sB.trans R2.sub
  by_cases hlt : i < ds.length
  · refine .inr ?_
    obtain ⟨go, yl⟩ := (I1 H2 sH).2 i ds[i] (List.getElem?_eq_getElem hlt)
    rw [List.drop_eq_getElem_cons hlt] at e2
    obtain ⟨ρ3, e3, e4⟩ := Option.bind_eq_some_iff.mp (show (g ds[i] ρ2).bind _ = some o from e2)
    obtain ⟨w, e5, e6⟩ := Option.bind_eq_some_iff.mp e4
    refine ⟨go, fun σ' H' => ∃ B' ρ', Rel ⟨B1, F.H, F.io, F.Z⟩ B' H' σ' ρ' ∧ forL g b (ds.drop (i + 1)) ρ' = some o, fun σ' H' h' => ⟨ds.length - (i + 1), by omega, rfl, hlt, h'⟩, fun y H3 hy => ?_⟩
    have had : ∃ B3, Rel ⟨B1, F.H, F.io, F.Z⟩ B3 H3 σ2 ρ2 ∧ Rep B3 y ds[i] := by
      rcases yl y H3 hy with ⟨rfl, h2⟩ | ⟨p, xs, cs, h1, rfl, h3, rfl, h5⟩
      · exact ⟨B2, R2, h2.mono R2.sB⟩
      · obtain ⟨R3, E3, e3⟩ := R2.layT (xs := xs) h3
        exact ⟨_, R3, by rw [h1]; exact .tup upd_same (h5.mono (R2.sB.trans e3))⟩
    obtain ⟨B3, R3, rp⟩ := had
    refine hg _ B3 H3 σ2 ρ2 y ds[i] ρ3 _ R3 rp e3 fun B4 H4 σ4 R4 _ => ?_
    refine hb _ B4 H4 σ4 ρ3 w _ R4 e5 ?_
    cases w with
    | nx ρ' => exact fun B' H' σ' R' => ⟨B', ρ', R', e6⟩
    | ct ρ' => exact fun B' H' σ' R' => ⟨B', ρ', R', e6⟩
    | bk ρ' => cases e6; exact q'
    | rt r ρ' => cases e6; exact q'
  · have hi' : i = ds.length := by omega
    subst hi'
    rw [List.drop_length] at e2
    cases e2
    exact .inl ⟨(I1 H2 sH).1, q' B2 H2 σ2 R2⟩
def retD : Out → Option (D × Bool)
  | .rt (d, .fz) _ => some (d, false)
  | .rt (d, .new) _ => some (d, true)
  | .rt (_, .at i) ρ => match ρ[i]? with
    | some (.own d) => some (d, true)
    | _ => none
  | .nx _ => some (.none, false)
  | _ => none
def fnM (n k : Nat) (b : SM) (ds : List D) : Option (D × Bool) := if ds.length = n then (b (ds.map .fz ++ List.replicate k .no)).bind retD else none
theorem fn_run {n k : Nat} {b : SM} {t : TS} {N : List Str} {vs : List V} {H : Hp} {Q : VK} {E : XK} (hb : MS t b) (hN : N.length = n + k) (h : spM (fnM n k b) vs H Q E) : t { nx := fun _ H' => Q .non H', rt := Q } (L2.start N vs) H := by
  obtain ⟨B, ds, d, o, sub, tB, rp, e, q⟩ := h
  unfold fnM at e
  split at e
  case isFalse => cases e
  rename_i hl
  obtain ⟨w, e1, e2⟩ := Option.bind_eq_some_iff.mp e
  have hvl : vs.length = n := rp.length.trans hl
  have own0 : ∀ (i : Nat) (s : Sl), (ds.map Sl.fz ++ List.replicate k .no)[i]? = some s → s.isRef = true → False := fun i s h1 h2 => by
    have := List.mem_of_getElem? h1
    rcases List.mem_append.mp this with h | h
    · obtain ⟨c, _, rfl⟩ := List.mem_map.mp h; cases h2
    · rw [List.eq_of_mem_replicate h] at h2; cases h2
  have ex0 : ∀ i : Nat, (ds.map Sl.fz ++ List.replicate k .no)[i]? = some Sl.ex → False := fun i h1 => by
    have := List.mem_of_getElem? h1
    rcases List.mem_append.mp this with h | h
    · obtain ⟨c, _, z⟩ := List.mem_map.mp h; cases z
    · have := List.eq_of_mem_replicate h; cases this
  have R : Rel ⟨B, H, [], fun q => H q ≠ none⟩ B H (L2.start N vs) (ds.map .fz ++ List.replicate k .no) := by
    refine ⟨sub, Same.refl _, fun _ _ z _ => z, fun _ _ z => z, ?_, fun i s hs => ?_, fun i j s t p h1 h2 => (own0 i s h1 (Sl.ref_of h2)).elim, fun i c p h1 => (own0 i _ h1 rfl).elim, (fun x hx => by cases hx), fun i c h1 => (own0 i _ h1 rfl).elim, tB, (fun i h1 => (ex0 i h1).elim), fun q o u h z => by rw [z] at h; cases h⟩
    · simp [L2.start, hl, hvl, hN]
    · by_cases hi : i < n
      · rw [List.getElem?_append_left (by simpa [hl] using hi), List.getElem?_map] at hs
        obtain ⟨c, h1, rfl⟩ := Option.map_eq_some_iff.mp hs
        obtain ⟨x, h2, h3⟩ := rp.get i c h1
        refine ⟨x, ?_, h3⟩
        unfold L2.start
        rw [List.getElem?_append_left (by simpa [hvl] using hi), List.getElem?_map, h2]
        rfl
      · rw [List.getElem?_append_right (by simpa [hl] using Nat.le_of_not_lt hi)] at hs
        have := List.eq_of_mem_replicate (List.mem_of_getElem? hs)
        subst this
        trivial
  refine hb _ B H _ _ w _ R e1 ?_
  have post : ∀ {B' H' : Hp} {σ' : St} {ρ' : Rho}, Rel ⟨B, H, [], fun q => H q ≠ none⟩ B' H' σ' ρ' → Same H H' ∧ Same B B' ∧ Same B' H' ∧ (∀ q, H q ≠ none → B q = none → B' q = none) ∧ (∀ q xs, H' q = some (.tup xs) → B' q = some (.tup xs)) ∧ ∀ q o u, H' q = some (.frz o u) → H q ≠ none := fun R' =>
    ⟨fun q u z => R'.sH q u z (fun x hx => by cases hx), R'.sB, R'.sub, R'.nB, R'.tupB, R'.nz⟩
  cases w with
  | nx ρ' =>
    cases e2
    intro B' H' σ' R'
    obtain ⟨p1, p2, p3, p4, p5, p6⟩ := post R'
    exact q _ B' H' ⟨p1, p2, p3, p4, p5, p6, .non⟩
  | bk ρ' => cases e2
  | ct ρ' => cases e2
  | rt r ρ' =>
    intro v B' H' σ' R' V'
    obtain ⟨p1, p2, p3, p4, p5, p6⟩ := post R'
    obtain ⟨c, kd⟩ := r
    cases kd with
    | fz => cases e2; exact q v B' H' ⟨p1, p2, p3, p4, p5, p6, V'⟩
    | new =>
      cases e2
      obtain ⟨p, rfl, h1, h2, h3, _⟩ := V'
      exact q _ B' H' ⟨p1, p2, p3, p4, p5, p6, ⟨p, rfl, h2, h1, h3⟩⟩
    | ro => cases e2
    | «at» i =>
      obtain ⟨s, h1, h2, h3, h4⟩ := V'
      have e2' : (match ρ'[i]? with
        | some (.own d) => some (d, true)
        | _ => none) = some (d, o) := e2
      rw [h1] at e2'
      cases s with
      | own c' =>
        cases e2'
        obtain ⟨p, g1, g2, g3⟩ := R'.slot i _ h1
        have h4' : σ'[i]? = some (some v) := h4
        rw [h4'] at g1
        cases g1
        exact q _ B' H' ⟨p1, p2, p3, p4, p5, p6, ⟨p, rfl, R'.ownN i _ p h1 h4', g2, g3⟩⟩
      | _ => cases e2'
theorem spM_len {n k : Nat} {b : SM} {vs : List V} {H : Hp} {Q : VK} {E : XK} (h : spM (fnM n k b) vs H Q E) : vs.length = n := by
  obtain ⟨B, ds, d, o, sub, tB, rp, e, q⟩ := h
  unfold fnM at e
  split at e
  · rename_i hl; exact rp.length.trans hl
  · cases e
end Mir
set_option Elab.async false
set_option linter.all false
set_option maxRecDepth 100000
namespace Mir
open PySem L2 PySem.Spec PyProof.Rows
variable [Zc]
section
variable {X : Cx}
def rCatR : R2 := fun x y H Q => ∃ l b xs zs, x = .ref l ∧ y = .ref b ∧ Rd H l (.lst xs) ∧ Rd H b (.lst zs) ∧ xs.length + zs.length ≤ sizeLine ∧ ∀ p, H p = none → Q (.ref p) (upd H p (.lst (xs ++ zs)))
theorem op_catR : OpR X (binaryOp .Add) rCatR := by
  intro pins s σ H x y v u Q I rx ry h
  obtain ⟨l, b, xs, zs, rfl, rfl, hH, hB, hz, q⟩ := h
  cases rx
  cases ry
  obtain ⟨z, its, n, r, e⟩ := hH.ok I.hok
  obtain ⟨z2, its2, n2, r2, e2⟩ := hB.ok I.hok
  have hl := r.length
  have hl2 := r2.length
  refine PySem.P.add_list e e2 ?_ (by rw [List.size_toArray, List.size_toArray]; omega)
  have ea : its.toArray ++ its2.toArray = (its ++ its2).toArray := by simp
  rw [ea]
  exact ⟨.ref _, _, I.lnew (t' := s.toks) (r.append r2) (by rw [List.length_append]; omega), rfl, q _ I.fresh⟩
def rPlusM (K : PySem.W.Frag) : R2 := fun x y H Q => rI0 (fun i j => .int (i + j)) x y H Q ∨ rCatR x y H Q ∨ (∃ i j, x = .str i ∧ y = .str j ∧ i.length + j.length ≤ sizeLine ∧ Q (.str (i ++ j)) H) ∨ rCatT K x y H Q
theorem op_addM : OpR X (binaryOp .Add) (rPlusM X.K) := op_add.or (op_catR.or (op_add_str.or op_catT))
end
theorem res_int {B H : Hp} {i : Int} {k : VK → Prop} (h : ∀ Q : VK, Q (.int i) H → k Q) : ResOk B H (.int i, false) k := ⟨_, .int i, h⟩
theorem res_bool {B H : Hp} {i : Bool} {k : VK → Prop} (h : ∀ Q : VK, Q (.bl i) H → k Q) : ResOk B H (.bool i, false) k := ⟨_, .bl i, h⟩
theorem res_str {B H : Hp} {i : Str} {k : VK → Prop} (h : ∀ Q : VK, Q (.str i) H → k Q) : ResOk B H (.str i, false) k := ⟨_, .str i, h⟩
noncomputable def gAdd : D → D → Option (D × Bool)
  | .int i, .int j => some (.int (i + j), false)
  | .list a, .list b => cIf (a.length + b.length ≤ sizeLine) (some (.list (a ++ b), true)) none
  | .str a, .str b => cIf (a.length + b.length ≤ sizeLine) (some (.str (a ++ b), false)) none
  | .tuple (c :: a), .tuple b => cIf ((c :: a).length + b.length ≤ sizeLine ∧ b ≠ []) (some (.tuple ((c :: a) ++ b), true)) none
  | _, _ => none
theorem J_add {K : PySem.W.Frag} : OpJ (rPlusM K) gAdd := by
  intro B H x y c d res s hx hy e
  unfold gAdd at e
  split at e
  · cases e
    have h1 := hx.int; have h2 := hy.int; subst h1 h2
    exact res_int fun Q q => .inl ⟨_, _, rfl, rfl, q⟩
  · obtain ⟨hz, e⟩ := cIf_eq e
    · cases e
      obtain ⟨p, xs, rfl, r1, rp1⟩ := hx.list s
      obtain ⟨p2, ys, rfl, r2, rp2⟩ := hy.list s
      exact ⟨xs ++ ys, rp1.append rp2, fun Q q => .inr (.inl ⟨_, _, _, _, rfl, rfl, r1, r2, by rw [rp1.length, rp2.length]; exact hz, q⟩)⟩
  · obtain ⟨hz, e⟩ := cIf_eq e
    · cases e
      have h1 := hx.str; have h2 := hy.str; subst h1 h2
      exact res_str fun Q q => .inr (.inr (.inl ⟨_, _, rfl, rfl, hz, q⟩))
  · obtain ⟨hz, e⟩ := cIf_eq e
    · cases e
      obtain ⟨p, xs, rfl, r1, rp1⟩ := hx.tuple s
      obtain ⟨p2, ys, rfl, r2, rp2⟩ := hy.tuple s
      have hne : xs ≠ [] := by intro z; subst z; cases rp1
      have hne2 : ys ≠ [] := by intro z; subst z; cases rp2; exact hz.2 rfl
      refine ⟨xs ++ ys, rp1.append rp2, fun Q q => .inr (.inr (.inr ⟨_, _, xs, ys, rfl, rfl, .inl (.inl r1), .inl (.inl r2), ?_⟩))⟩
      exact ⟨hne, by rw [rp1.length, rp2.length]; exact hz.1, fun z => absurd z hne2, fun _ => q⟩
  · cases e
noncomputable def gI (C : Int → Int → Prop) (f : Int → Int → Int) : D → D → Option (D × Bool)
  | .int i, .int j => cIf (C i j) (some (.int (f i j), false)) none
  | _, _ => none
theorem J_I {C : Int → Int → Prop} {f : Int → Int → Int} : OpJ (rI C fun i j => .int (f i j)) (gI C f) := by
  intro B H x y c d res s hx hy e
  unfold gI at e
  split at e
  · obtain ⟨hc, e⟩ := cIf_eq e
    · cases e
      have h1 := hx.int; have h2 := hy.int; subst h1 h2
      exact res_int fun Q q => ⟨_, _, rfl, rfl, hc, q⟩
  · cases e
def gI0 (f : Int → Int → Int) : D → D → Option (D × Bool)
  | .int i, .int j => some (.int (f i j), false)
  | _, _ => none
theorem J_I0 {f : Int → Int → Int} : OpJ (rI0 fun i j => .int (f i j)) (gI0 f) := by
  intro B H x y c d res s hx hy e
  unfold gI0 at e
  split at e
  · cases e
    have h1 := hx.int; have h2 := hy.int; subst h1 h2
    exact res_int fun Q q => ⟨_, _, rfl, rfl, q⟩
  · cases e
def gB0 (f : Int → Int → Bool) : D → D → Option (D × Bool)
  | .int i, .int j => some (.bool (f i j), false)
  | _, _ => none
theorem J_B0 {f : Int → Int → Bool} : OpJ (rI0 fun i j => .bl (f i j)) (gB0 f) := by
  intro B H x y c d res s hx hy e
  unfold gB0 at e
  split at e
  · cases e
    have h1 := hx.int; have h2 := hy.int; subst h1 h2
    exact res_bool fun Q q => ⟨_, _, rfl, rfl, q⟩
  · cases e
abbrev gSub := gI0 fun i j => i - j
abbrev gLt := gB0 fun i j => decide (i < j)
abbrev gLe := gB0 fun i j => decide (i ≤ j)
abbrev gGt := gB0 fun i j => decide (j < i)
noncomputable abbrev gDiv := gI CDiv fun i j => i / j
noncomputable abbrev gMod := gI (fun _ j => 0 < j) fun i j => i % j
noncomputable abbrev gPow := gI CPow fun i j => i ^ j.toNat
noncomputable abbrev gShr := gI (fun _ j => 0 ≤ j) fun i j => i / 2 ^ j.toNat
section
variable {X : Cx}
def rTimesM : R2 := fun x y H Q => rI IntMulOk (fun i j => .int (i * j)) x y H Q ∨ rRep x y H Q
theorem op_mulM : OpR X (binaryOp .Mult) rTimesM := op_mulB.or op_rep
end
noncomputable def gMul : D → D → Option (D × Bool)
  | .int i, .int j => cIf (IntMulOk i j) (some (.int (i * j), false)) none
  | _, _ => none
theorem J_mul : OpJ rTimesM gMul := by
  intro B H x y c d res s hx hy e
  unfold gMul at e
  split at e
  · obtain ⟨hc, e⟩ := cIf_eq e
    · cases e
      have h1 := hx.int; have h2 := hy.int; subst h1 h2
      exact res_int fun Q q => .inl ⟨_, _, rfl, rfl, hc, q⟩
  · cases e
mutual
theorem Rep.data {K : PySem.W.Frag} {H : Hp} : ∀ {v : V} {d : D}, Rep H v d → d.canLay0 = true → DataV K H v d
  | _, _, .non, _ => .non
  | _, _, .bl b, _ => .bl b
  | _, _, .int i, _ => .int i
  | _, _, .str x, _ => .str x
  | _, _, .lst h r, e => .lst (rd_sq h) (Reps.data r (by simpa [PyData.canLay0] using e))
  | _, _, .tup h r, e => .tup (.inl (.inl h)) (Reps.data r (by simpa [PyData.canLay0] using e))
  | _, _, .dct _ _, e => by simp [PyData.canLay0] at e
theorem Reps.data {K : PySem.W.Frag} {H : Hp} : ∀ {v : List V} {d : List D}, Reps H v d → PyData.canLayAll0 d = true → DataVs K H v d
  | _, _, .nil, _ => .nil
  | _, _, .cons a b, e => by
    simp only [PyData.canLayAll0, Bool.and_eq_true] at e
    exact .cons (Rep.data a e.1) (Reps.data b e.2)
end
def gEq : D → D → Option (D × Bool) := fun c d => if SeqAt.shaped c = true ∧ SeqAt.shaped d = true then some (.bool (PyData.eqv c d), false) else none
def gNe : D → D → Option (D × Bool) := fun c d => if SeqAt.shaped c = true ∧ SeqAt.shaped d = true then some (.bool (!PyData.eqv c d), false) else none
theorem J_eq {K : PySem.W.Frag} : OpJ (rEqD K) gEq := by
  intro B H x y c d res s hx hy e
  unfold gEq at e
  split at e
  · rename_i h
    cases e
    exact res_bool fun Q q => ⟨_, _, (hx.rep s).data (SeqAt.canLay_of_shaped h.1), (hy.rep s).data (SeqAt.canLay_of_shaped h.2), h.1, h.2, q⟩
  · cases e
theorem J_ne {K : PySem.W.Frag} : OpJ (rNeD K) gNe := by
  intro B H x y c d res s hx hy e
  unfold gNe at e
  split at e
  · rename_i h
    cases e
    exact res_bool fun Q q => ⟨_, _, (hx.rep s).data (SeqAt.canLay_of_shaped h.1), (hy.rep s).data (SeqAt.canLay_of_shaped h.2), h.1, h.2, q⟩
  · cases e
def isNone : D → Bool
  | .none => true
  | _ => false
theorem Rep.isNone {H : Hp} {v : V} {d : D} (h : Rep H v d) : decide (v = .non) = Mir.isNone d := by cases h <;> rfl
def gIs : D → D → Option (D × Bool)
  | c, .none => some (.bool (isNone c), false)
  | _, _ => none
def gIsNot : D → D → Option (D × Bool)
  | c, .none => some (.bool (!isNone c), false)
  | _, _ => none
def gNeg : D → Option (D × Bool)
  | .int i => some (.int (-i), false)
  | _ => none
theorem J_neg : UnJ (rU fun i => .int (-i)) gNeg := by
  intro B H x c res s hx e
  unfold gNeg at e
  split at e
  · cases e
    have h1 := hx.int; subst h1
    exact res_int fun Q q => ⟨_, rfl, q⟩
  · cases e
def gIx : D → D → Option (D × Bool)
  | .list ds, .int i => (atI ds i).map fun d => (d, false)
  | .tuple ds, .int i => (atI ds i).map fun d => (d, false)
  | _, _ => none
theorem Reps.atI {H : Hp} {vs : List V} {ds : List D} (r : Reps H vs ds) {i : Int} {d : D} (h : L2.atI ds i = some d) : ∃ v, L2.atI vs i = some v ∧ Rep H v d := by
  unfold L2.atI at h ⊢
  rw [r.length]
  obtain ⟨j, h1, h2⟩ := Option.bind_eq_some_iff.mp h
  obtain ⟨v, h3, h4⟩ := r.get j d h2
  exact ⟨v, by rw [h1]; exact h3, h4⟩
theorem J_ix {K : PySem.W.Frag} : OpJ (rIx K) gIx := by
  intro B H x y c d res s hx hy e
  unfold gIx at e
  split at e
  · obtain ⟨w, h1, h2⟩ := Option.map_eq_some_iff.mp e
    cases h2
    obtain ⟨p, xs, rfl, r1, rp1⟩ := hx.list s
    have h2 := hy.int; subst h2
    obtain ⟨v, h3, h4⟩ := rp1.atI h1
    exact ⟨v, h4, fun Q q => .inl ⟨_, _, _, _, rfl, rfl, rd_sq r1, h3, q⟩⟩
  · obtain ⟨w, h1, h2⟩ := Option.map_eq_some_iff.mp e
    cases h2
    obtain ⟨p, xs, rfl, r1, rp1⟩ := hx.tuple s
    have h2 := hy.int; subst h2
    obtain ⟨v, h3, h4⟩ := rp1.atI h1
    exact ⟨v, h4, fun Q q => .inr (.inl ⟨_, _, _, _, rfl, rfl, .inl (.inl r1), h3, q⟩)⟩
  · cases e
def cutD (ds : List D) (lo hi : Option Int) : List D := (ds.drop (HT.sIx ds.length 0 lo)).take (HT.sIx ds.length ds.length hi - HT.sIx ds.length 0 lo)
theorem Reps.cut {H : Hp} {vs : List V} {ds : List D} (r : Reps H vs ds) (lo hi : Option Int) : Reps H (cutV vs lo hi) (cutD ds lo hi) := by
  unfold cutV cutD
  rw [r.length]
  exact (r.drop _).take _
def gSl : D → Option Int → Option Int → Option (D × Bool)
  | .list ds, lo, hi => some (.list (cutD ds lo hi), true)
  | _, _, _ => none
theorem J_sl {K : PySem.W.Frag} : SlJ (rSlL K) gSl := by
  intro B H x c l u res s hx e
  unfold gSl at e
  split at e
  · cases e
    obtain ⟨p, xs, rfl, r1, rp1⟩ := hx.list s
    exact ⟨_, rp1.cut _ _, fun Q q => ⟨_, _, rfl, rd_sq r1, q⟩⟩
  · cases e
noncomputable def gLen : List D → Option (D × Bool)
  | [.list ds] => some (.int ds.length, false)
  | [.tuple ds] => some (.int ds.length, false)
  | [.str x] => cIf (x.length ≤ sizeLine) (some (.int x.length, false)) none
  | _ => none
theorem views1 {B H : Hp} {vs : List V} {d : D} (h : Views B H vs [d]) : ∃ v, vs = [v] ∧ View B H v d := by
  match vs, h with
  | [v], ⟨h, _⟩ => exact ⟨v, rfl, h⟩
theorem J_len {K : PySem.W.Frag} : CallJ (rLen K) gLen := by
  intro B H vs ds res s h e
  unfold gLen at e
  split at e
  · cases e
    obtain ⟨v, rfl, hh⟩ := views1 h
    obtain ⟨p, xs, rfl, r1, rp1⟩ := hh.list s
    exact res_int fun Q q => .inl ⟨_, _, rfl, .inl (rd_sq r1), by rw [rp1.length]; exact q⟩
  · cases e
    obtain ⟨v, rfl, hh⟩ := views1 h
    obtain ⟨p, xs, rfl, r1, rp1⟩ := hh.tuple s
    exact res_int fun Q q => .inl ⟨_, _, rfl, .inr (.inl (.inl r1)), by rw [rp1.length]; exact q⟩
  · obtain ⟨hz, e⟩ := cIf_eq e
    · cases e
      obtain ⟨v, rfl, hh⟩ := views1 h
      have := hh.str; subst this
      exact res_int fun Q q => .inr ⟨_, rfl, hz, q⟩
  · cases e
def gMax : List D → Option (D × Bool)
  | [.int i, .int j] => some (.int (if j > i then j else i), false)
  | _ => none
def gMin : List D → Option (D × Bool)
  | [.int i, .int j] => some (.int (if j < i then j else i), false)
  | _ => none
def gAbs : List D → Option (D × Bool)
  | [.int i] => some (.int (if i < 0 then -i else i), false)
  | _ => none
def gInt : List D → Option (D × Bool)
  | [.int i] => some (.int i, false)
  | [.bool b] => some (.int (if b then 1 else 0), false)
  | _ => none
theorem J_abs : CallJ (fun xs H Q => ∃ i, xs = [.int i] ∧ Q (.int (if i < 0 then -i else i)) H) gAbs := by
  intro B H vs ds res s h e
  unfold gAbs at e
  split at e
  · cases e
    obtain ⟨v, rfl, h1⟩ := views1 h
    have := h1.int; subst this
    exact res_int fun Q q => ⟨_, rfl, q⟩
  · cases e
def boolsOf : List D → Option (List Bool)
  | [] => some []
  | .bool i :: ds => (boolsOf ds).map (i :: ·)
  | _ => none
theorem Reps.bools {H : Hp} : ∀ {vs : List V} {ds : List D} {ns : List Bool}, Reps H vs ds → boolsOf ds = some ns → vs = ns.map V.bl
  | _, _, _, .nil, e => by cases e; rfl
  | _, _, _, .cons (d := d) a b, e => by
    cases d with
    | bool i =>
      obtain ⟨ms, h1, h2⟩ := Option.map_eq_some_iff.mp (show (boolsOf _).map _ = some _ from e)
      cases h2
      cases a
      rw [List.map_cons, Reps.bools b h1]
    | _ => cases e
def gAll : List D → Option (D × Bool)
  | [.list ds] => (boolsOf ds).map fun ns => (.bool (ns.all id), false)
  | _ => none
theorem J_all {K : PySem.W.Frag} : CallJ (rAll K) gAll := by
  intro B H vs ds res s h e
  unfold gAll at e
  split at e
  · obtain ⟨ns, h1, h2⟩ := Option.map_eq_some_iff.mp e
    cases h2
    obtain ⟨v, rfl, hh⟩ := views1 h
    obtain ⟨p, xs, rfl, r1, rp1⟩ := hh.list s
    have := rp1.bools h1; subst this
    exact res_bool fun Q q => ⟨_, _, rfl, rd_sq r1, q⟩
  · cases e
def gList : List D → Option (D × Bool)
  | [.list ds] => some (.list ds, true)
  | [.tuple ds] => some (.list ds, true)
  | _ => none
theorem J_list {K : PySem.W.Frag} : CallJ (fun xs H Q => ∃ p ys, xs = [.ref p] ∧ (SqL K H p ys ∨ SqT K H p ys) ∧ ∀ l, H l = none → Q (.ref l) (upd H l (.lst ys))) gList := by
  intro B H vs ds res s h e
  unfold gList at e
  split at e
  · cases e
    obtain ⟨v, rfl, hh⟩ := views1 h
    obtain ⟨p, xs, rfl, r1, rp1⟩ := hh.list s
    exact ⟨xs, rp1, fun Q q => ⟨_, _, rfl, .inl (rd_sq r1), q⟩⟩
  · cases e
    obtain ⟨v, rfl, hh⟩ := views1 h
    obtain ⟨p, xs, rfl, r1, rp1⟩ := hh.tuple s
    exact ⟨xs, rp1, fun Q q => ⟨_, _, rfl, .inr (.inl (.inl r1)), q⟩⟩
  · cases e
def tyD : D → String
  | .none => "NoneType"
  | .bool _ => "bool"
  | .int _ => "int"
  | .str _ => "str"
  | .list _ => "list"
  | .tuple _ => "tuple"
  | .dict _ => "?"
theorem Rep.ty {H : Hp} {v : V} {d : D} (h : Rep H v d) (hd : tyD d ≠ "?") : tyN H v = tyD d := by
  cases h with
  | non => rfl
  | bl _ => rfl
  | int _ => rfl
  | str _ => rfl
  | lst h _ =>
    rcases h with h | ⟨o, h⟩
    · unfold tyN; simp only [h]; rfl
    · unfold tyN; simp only [h]; rfl
  | tup h _ => unfold tyN; simp only [h]; rfl
  | dct _ _ => exact absurd rfl hd
def gIsi (n : String) : D → Option (D × Bool) := fun d => if tyD d ≠ "?" ∧ n ∈ tyAsked then some (.bool (tyIs (tyD d) n), false) else none
def mIsi (n : String) (a : PM) : PM := mUn (gIsi n) a
theorem me_isi {n : String} {ta : TE} {a : PM} (ha : ME ta a) : ME (tCB rIsi (tCons ta (tCons (tC (.ty n)) tNil))) (mIsi n a) := by
  intro F B H σ ρ r0 ρ' Q R e q
  obtain ⟨x, e1, e⟩ := Option.bind_eq_some_iff.mp e
  obtain ⟨res, e4, e⟩ := Option.map_eq_some_iff.mp e
  cases e
  refine ha.sv F B H σ ρ x.1 x.2 _ R e1 fun v B1 H1 E1 R1 V1 N1 => ?_
  unfold gIsi at e4
  split at e4
  · rename_i hd
    cases e4
    have rp := (V1.view R1).rep R1.sub
    have ht := rp.ty hd.1
    have hk : tyD x.1.1 ∈ tyKnown := by
      have h2 := hd.1
      revert h2
      cases x.1.1 with
      | none => intro _; show "NoneType" ∈ tyKnown; decide
      | bool _ => intro _; show "bool" ∈ tyKnown; decide
      | int _ => intro _; show "int" ∈ tyKnown; decide
      | str _ => intro _; show "str" ∈ tyKnown; decide
      | list _ => intro _; show "list" ∈ tyKnown; decide
      | tuple _ => intro _; show "tuple" ∈ tyKnown; decide
      | dict _ => intro h2; exact absurd rfl h2
    exact ⟨v, n, rfl, by rw [ht]; exact hk, hd.2, by rw [ht]; exact q _ B1 H1 E1 R1 (.bl _) fun p z => by cases z⟩
  · cases e4
def flatD : D → Bool
  | .none => true
  | .bool _ => true
  | .int _ => true
  | .str _ => true
  | _ => false
theorem Rep.flat {H : Hp} {v : V} {d : D} (h : Rep H v d) (e : flatD d = true) : flatV v = true := by cases h <;> first | rfl | cases e
theorem Rep.eqv {H : Hp} {v w : V} {c d : D} (h : Rep H v c) (g : Rep H w d) (e : flatD c = true) (e' : flatD d = true) : eqV v w = PyData.eqv c d := by
  cases h <;> first | (cases e; done) | (cases g <;> first | (cases e'; done) | (simp [eqV, PyData.eqv]))
noncomputable def fAppend : List D → List D → Option (List D × D) := fun ds as => match as with
  | [d] => cIf (ds.length < sizeLine) (some (ds ++ [d], .none)) none
  | _ => none
theorem J_append : MutJ rAppend fAppend := by
  intro B H p xs ds vs as w hp rx s rv e
  unfold fAppend at e
  split at e
  · obtain ⟨hz, e⟩ := cIf_eq e
    · cases e
      cases rv with
      | cons a b =>
        cases b
        exact ⟨_, _, rx.append (.cons a .nil), .non, fun Q q => ⟨_, _, _, rfl, rfl, hp, by rw [rx.length]; exact hz, q⟩⟩
  · cases e
def fPop : List D → List D → Option (List D × D) := fun ds as => match as with
  | [] => (ds[ds.length - 1]?).map fun d => (ds.dropLast, d)
  | _ => none
theorem J_pop : MutJ rPop fPop := by
  intro B H p xs ds vs as w hp rx s rv e
  unfold fPop at e
  split at e
  · obtain ⟨d, h1, h2⟩ := Option.map_eq_some_iff.mp e
    cases h2
    cases rv
    obtain ⟨v, h3, h4⟩ := rx.get _ d h1
    exact ⟨_, v, rx.dropLast, h4, fun Q q => ⟨_, _, _, rfl, rfl, hp, by rw [rx.length]; exact h3, q⟩⟩
  · cases e
def fClear : List D → List D → Option (List D × D) := fun ds as => match as with
  | [] => some ([], .none)
  | _ => none
end Mir
set_option Elab.async false
set_option linter.all false
set_option maxRecDepth 100000
namespace Mir
open PySem L2 PySem.Spec PyProof.Rows
variable [Zc]
section
variable {X : Cx} {K : PySem.W.Frag}
theorem op_addK (h : X.K = K) : OpR X (binaryOp .Add) (rPlusM K) := h ▸ op_addM
theorem op_eqK (h : X.K = K) (hu : X.A.units + 64 < cLine) : OpR X (compareOp .Eq) (rEqD K) := h ▸ op_eqD hu
theorem op_neK (h : X.K = K) (hu : X.A.units + 64 < cLine) : OpR X (compareOp .NotEq) (rNeD K) := h ▸ op_neD hu
theorem ix_seqK (h : X.K = K) : IxR X (rIx K) := h ▸ ix_seq
theorem sl_listK (h : X.K = K) : SlR X (rSlL K) := h ▸ sl_list
theorem call_lenK (h : X.K = K) : CallR X (.builtin "len") (rLen K) := h ▸ call_lenU
theorem call_allK (h : X.K = K) (hc : X.calm = true) : CallR X (.builtin "all") (rAll K) := h ▸ call_all hc
theorem call_listK (h : X.K = K) : CallR X (.type "list") (fun xs H Q => ∃ p ys, xs = [.ref p] ∧ (SqL K H p ys ∨ SqT K H p ys) ∧ ∀ l, H l = none → Q (.ref l) (upd H l (.lst ys))) := h ▸ call_list_of
variable {tg l o e : Expr} {es : List Expr} {tl to : TE} {t : TA} {name : Str} {apos cpos : Pos} {T id : String} {r : V → List V → Hp → VK → Prop}
theorem pi_listK (h : X.K = K) (hl : PE X l tl) : PI X tg l (iList K tl) := h ▸ pi_list hl
theorem pe_bm0K (h : X.K = K) (pa : PlainAttrs T) (slot : Slot T name id) (hty : typeOf (.builtin id) = pure (.type "method_descriptor")) (hm : MtR X id r) (ho : PE X o to)
    (hbase : attributeBase o name X.env (eval o X.env) = eval o X.env := by rfl) (hline : (apos.endLine == cpos.line) = true := by rfl) : PE X (.Call (.Attribute o name apos) [] [] cpos) (tBM0 K T r to) := h ▸ pe_bm0 pa slot hty hm ho hbase hline
theorem pe_bmK (h : X.K = K) (pa : PlainAttrs T) (slot : Slot T name id) (hty : typeOf (.builtin id) = pure (.type "method_descriptor")) (hm : MtR X id r) (ho : PE X o to) (ha : PA X (e :: es) t)
    (hbase : attributeBase o name X.env (eval o X.env) = eval o X.env := by rfl)
    (hfew : ((backTo cpos (starEach (e :: es) X.env)).all (fun x => !x.1) && (backToKw cpos (keywordEach [] X.env)).all (fun x => x.1.isSome)
      && decide ((e :: es).length + ([] : List Keyword).length + (if ([] : List Keyword).isEmpty then 0 else 1) < 30)) = true := by rfl)
    (hline : (apos.endLine == cpos.line) = true := by rfl) (hs : starEach (e :: es) X.env = (false, eval e X.env) :: starEach es X.env := by rfl) (hplain : (backTo cpos (starEach es X.env)).any (·.1) = false := by rfl) :
    PE X (.Call (.Attribute o name apos) (e :: es) [] cpos) (tBM K T r to t) := h ▸ pe_bm pa slot hty hm ho ha hbase hfew hline hs hplain
end
noncomputable def repD : D → D → Option D
  | .list ds, .int k => cIf (-(2 ^ 63) ≤ k ∧ k < 2 ^ 63 ∧ ds.length * k.toNat ≤ sizeLine) (some (.list (List.replicate k.toNat ds).flatten)) none
  | _, _ => none
noncomputable def mRep (m : Rho → Option (List RV × Rho)) (b : PM) : PM := fun ρ => (mLst m ρ).bind fun x => (sv b x.2).bind fun y => (repD x.1.1 y.1.1).map fun d => ((d, .new), y.2)
theorem me_rep {t : TA} {tb : TE} {m : Rho → Option (List RV × Rho)} {b : PM} (h : MA t m) (hb : ME tb b) : ME (tOp rTimesM (tLst t) tb) (mRep m b) := by
  intro F B H σ ρ r0 ρ' Q R e q
  obtain ⟨x, e1, e⟩ := Option.bind_eq_some_iff.mp e
  obtain ⟨y, e2, e⟩ := Option.bind_eq_some_iff.mp e
  obtain ⟨d, e3, e⟩ := Option.map_eq_some_iff.mp e
  cases e
  have hk : x.1.2 = .new := by
    obtain ⟨z, _, e5⟩ := Option.bind_eq_some_iff.mp e1
    obtain ⟨w, _, e5⟩ := Option.bind_eq_some_iff.mp e5
    obtain ⟨_, e5⟩ := cIf_eq e5
    cases e5; rfl
  refine me_lst h F B H σ ρ x.1 x.2 _ R e1 fun v B1 H1 E1 R1 V1 N1 => ?_
  obtain ⟨⟨c, k⟩, ρ1⟩ := x
  cases (show k = .new from hk)
  obtain ⟨B2, R2, rp, s2, k2⟩ := R1.freezeNew V1
  obtain ⟨p, rfl, hB, hF, ow, nn⟩ := V1
  unfold repD at e3
  split at e3
  case h_2 => cases e3
  rename_i ds n hc hn
  obtain ⟨hz, e3⟩ := cIf_eq e3
  cases e3
  have hc' : c = .list ds := hc
  subst hc'
  obtain ⟨xs, hp, rx⟩ := ow.list
  have hp2 : B2 p = some (.lst xs) := by
    cases rp with
    | lst h r =>
      rcases h with h | ⟨o, h⟩
      · have := R2.sub _ _ h
        rw [hp] at this; cases this; exact h
      · have := R2.sub _ _ h
        rw [hp] at this; cases this
  refine hb.sv F B2 H1 σ ρ1 y.1 y.2 _ R2 e2 fun u B3 H3 E3 R3 V3 N3 => ?_
  have vv := V3.view R3
  rw [hn] at vv
  have h3 := R3.sub _ _ (E3.sB _ _ hp2)
  have E12 : Ext σ ρ B H ρ1 B2 H1 := ⟨E1.sB.trans s2, fun q o h1 h2 => by
    obtain ⟨h3, h4⟩ := E1.keep q o h1 h2
    refine ⟨h3, fun z => ?_⟩
    rw [k2 q fun y => by
      have := N1 q rfl y
      rw [h1] at this; cases this]
    exact h4 z, E1.own, E1.ref, E1.live⟩
  have rx3 : Reps B3 xs ds := rx.mono (s2.trans E3.sB)
  have := res_end (res := (.list (List.replicate n.toNat ds).flatten, true)) (k := fun Q => rTimesM (.ref p) u H3 Q) (Q := Q) R3
    ⟨_, rx3.flat n.toNat, fun Q h => .inr ⟨p, n, xs, rfl, vv.int, h3, hz.1, hz.2.1, by rw [rx3.length]; exact hz.2.2, h⟩⟩
    fun v B' H' E R' V' N => q v B' H' (E12.trans (E3.trans E)) R' V' fun p' z1 z2 => E12.live p' (E3.live p' (N p' z1 z2))
  exact this
def noLists (K : PySem.W.Frag) : Bool := K.all fun p => match p.2.cls with
  | .type n => n != "list"
  | _ => true
theorem mem_look {α : Type} : ∀ {l : List (Addr × α)} {a : Addr} {o : α}, l.lookup a = some o → (a, o) ∈ l
  | (b, c) :: l, a, o, h => by
    rw [List.lookup_cons] at h
    by_cases z : a = b
    · subst z
      rw [beq_self_eq_true] at h
      cases h
      exact List.mem_cons_self
    · rw [beq_eq_false_iff_ne.mpr z] at h
      exact List.mem_cons_of_mem _ (mem_look h)
theorem sq_rd {K : PySem.W.Frag} (h : noLists K = true) {H : Hp} {a : Addr} {xs : List V} (s : SqL K H a xs) : Rd H a (.lst xs) := by
  rcases s with s | ⟨o, its, n, hk, hc, _⟩
  · exact s
  · have := List.all_eq_true.mp h _ (mem_look hk)
    dsimp only at this
    rw [hc] at this
    simp at this
theorem reps_ints {H : Hp} : ∀ ns : List Int, Reps H (ns.map V.int) (ns.map PyData.int)
  | [] => .nil
  | n :: ns => .cons (.int n) (reps_ints ns)
theorem law_sp {K : PySem.W.Frag} (h : noLists K = true) {f : List D → Option (D × Bool)} (T : ∀ ns : List Int, ns.length ≤ 63 → (∀ k ∈ ns, Builtin.Int.intBits k ≤ 1048576) → f [.list (ns.map .int)] = some (.bool true, false))
    (vs : List V) (H : Hp) (Q : VK) (E : XK) (s : spLaw K vs H Q E) : spM f vs H Q E := by
  obtain ⟨a, ns, rfl, hS, hl, hb, q⟩ := s
  refine ⟨H, _, _, _, Same.refl _, fun _ _ z => z, .cons (.lst (sq_rd h hS) (reps_ints ns)) .nil, T ns hl hb, fun v B' H' P => ?_⟩
  have pv : Rep B' v (.bool true) := P.val
  cases pv
  exact q _
end Mir
set_option Elab.async false
set_option linter.all false
set_option maxRecDepth 100000
namespace Mir
open PySem L2
variable [Zc]
abbrev dI (l : List Int) : D := .list (l.map .int)
theorem beqI (i j : Int) : (i == j) = decide (i = j) := by by_cases h : i = j <;> simp [h]
theorem gEq_int (i j : Int) : gEq (.int i) (.int j) = some (.bool (decide (i = j)), false) := by
  unfold gEq
  rw [if_pos ⟨rfl, rfl⟩]
  simp only [PyData.eqv, beqI]
theorem gNe_int (i j : Int) : gNe (.int i) (.int j) = some (.bool (!decide (i = j)), false) := by
  unfold gNe
  rw [if_pos ⟨rfl, rfl⟩]
  simp only [PyData.eqv, beqI]
theorem gEq_bool (i j : Bool) : gEq (.bool i) (.bool j) = some (.bool (i == j), false) := by
  unfold gEq
  rw [if_pos ⟨rfl, rfl⟩]
  simp only [PyData.eqv]
theorem gNe_bool (i j : Bool) : gNe (.bool i) (.bool j) = some (.bool (!(i == j)), false) := by
  unfold gNe
  rw [if_pos ⟨rfl, rfl⟩]
  simp only [PyData.eqv]
theorem canLay_ints : ∀ l : List Int, PyData.canLayAll0 (l.map .int) = true
  | [] => rfl
  | _ :: l => by simp only [List.map_cons, PyData.canLayAll0, PyData.canLay0, canLay_ints l, Bool.and_self]
theorem depth_ints (l : List Int) : (dI l).depth ≤ 2 := by
  have h : ∀ l : List Int, PyData.depthAll (l.map .int) ≤ 1 := by
    intro l
    induction l with
    | nil => simp [PyData.depthAll]
    | cons a l ih => simp only [List.map_cons, PyData.depthAll, PyData.depth]; omega
  have := h l
  simp only [dI, PyData.depth]
  omega
theorem shaped_ints (l : List Int) : SeqAt.shaped (dI l) = true := by
  unfold SeqAt.shaped
  have h := depth_ints l
  rw [decide_eq_true (by omega), Bool.and_true]
  simp only [dI, PyData.canLay0, canLay_ints]
theorem eqvAll_ints : ∀ a b : List Int, PyData.eqvAll (a.map .int) (b.map .int) = decide (a = b)
  | [], [] => by simp [PyData.eqvAll]
  | [], _ :: _ => by simp [PyData.eqvAll]
  | _ :: _, [] => by simp [PyData.eqvAll]
  | x :: a, y :: b => by
    simp only [List.map_cons, PyData.eqvAll, PyData.eqv, eqvAll_ints a b]
    by_cases h : x = y <;> by_cases g : a = b <;> simp [h, g]
theorem eqv_ints (a b : List Int) : PyData.eqv (dI a) (dI b) = decide (a = b) := by simp only [dI, PyData.eqv, eqvAll_ints]
theorem gEq_ints (a b : List Int) : gEq (dI a) (dI b) = some (.bool (decide (a = b)), false) := by
  unfold gEq
  rw [if_pos ⟨shaped_ints a, shaped_ints b⟩, eqv_ints]
theorem gNe_ints (a b : List Int) : gNe (dI a) (dI b) = some (.bool (!decide (a = b)), false) := by
  unfold gNe
  rw [if_pos ⟨shaped_ints a, shaped_ints b⟩, eqv_ints]
theorem isi_int_int (i : Int) : gIsi "int" (.int i) = some (.bool true, false) := by simp [gIsi, tyD, tyAsked, tyIs]
theorem isi_int_bool (i : Int) : gIsi "bool" (.int i) = some (.bool false, false) := by simp [gIsi, tyD, tyAsked, tyIs]
theorem isi_list_list (i : List D) : gIsi "list" (.list i) = some (.bool true, false) := by simp [gIsi, tyD, tyAsked, tyIs]
theorem isi_tuple_tuple (i : List D) : gIsi "tuple" (.tuple i) = some (.bool true, false) := by simp [gIsi, tyD, tyAsked, tyIs]
theorem atI_nat {α : Type} (xs : List α) (i : Nat) : atI xs (i : Int) = xs[i]? := by
  unfold atI ixN
  rw [if_pos (by omega)]
  split
  · simp
  · rename_i h
    rw [Option.bind_none, List.getElem?_eq_none (by omega)]
theorem atI_last {α : Type} (xs : List α) : atI xs (-1) = xs.getLast? := by
  unfold atI ixN
  rw [if_neg (by omega)]
  cases xs with
  | nil => simp
  | cons a l =>
    rw [if_pos (by simp only [List.length_cons]; omega), Option.bind_some, List.getLast?_eq_getElem?]
    congr 1
    simp only [List.length_cons]; omega
theorem atI_map {α β : Type} (f : α → β) (xs : List α) (i : Int) : atI (xs.map f) i = (atI xs i).map f := by
  simp only [atI, List.length_map, List.getElem?_map]
  cases ixN xs.length i with
  | none => rfl
  | some j => simp only [Option.bind_some]
theorem while_go {c : Rho → Option (Bool × Rho)} {b : SM} {n : Nat} {ρ ρ1 ρ2 : Rho} {o : Option Out} (h1 : c ρ = some (true, ρ1)) (h2 : b ρ1 = some (.nx ρ2)) (h3 : mWhile c b n ρ2 = o) : mWhile c b (n + 1) ρ = o := by
  unfold mWhile
  simp only [h1, h2, Option.bind_some, if_true, h3]
theorem while_end {c : Rho → Option (Bool × Rho)} {b : SM} {n : Nat} {ρ ρ1 : Rho} (h1 : c ρ = some (false, ρ1)) : mWhile c b (n + 1) ρ = some (.nx ρ1) := by
  unfold mWhile
  simp only [h1, Option.bind_some, Bool.false_eq_true, if_false]
theorem pureR_int (i : Int) : pureR (.int i) false = true := rfl
theorem pureR_bool (i : Bool) : pureR (.bool i) false = true := rfl
theorem pureR_str (i : Str) : pureR (.str i) false = true := rfl
theorem pureR_none : pureR .none false = true := rfl
theorem pureR_list (l : List D) : pureR (.list l) false = false := rfl
theorem pureR_tup (l : List D) : pureR (.tuple l) false = pureDs l := by simp only [pureR, pureD]
theorem pureR_new (l : List D) : pureR (.list l) true = pureDs l := rfl
theorem pureDs_nil : pureDs [] = true := by simp only [pureDs]
theorem pureDs_int (i : Int) (l : List D) : pureDs (.int i :: l) = pureDs l := by simp only [pureDs, pureD, Bool.true_and]
theorem pureDs_bool (i : Bool) (l : List D) : pureDs (.bool i :: l) = pureDs l := by simp only [pureDs, pureD, Bool.true_and]
theorem pureDs_list (i l : List D) : pureDs (.list i :: l) = false := by simp only [pureDs, pureD, Bool.false_and]
theorem pureDs_ints : ∀ l : List Int, pureDs (l.map .int) = true
  | [] => pureDs_nil
  | i :: l => by rw [List.map_cons, pureDs_int, pureDs_ints l]
theorem resK_f (d : D) : resK (d, false) = (d, .fz) := rfl
theorem resK_l (l : List D) : resK (.list l, true) = (.list l, .new) := rfl
theorem resK_t (l : List D) : resK (.tuple l, true) = (.tuple l, .fz) := rfl
theorem kO_f (d : D) : kO d false = (d, .fz) := rfl
theorem kO_t (d : D) : kO d true = (d, .new) := rfl
theorem seq_nx {a b : SM} {ρ ρ1 : Rho} {o : Option Out} (h1 : a ρ = some (.nx ρ1)) (h2 : b ρ1 = o) : mSeq a b ρ = o := by
  unfold mSeq; simp only [h1, Option.bind_some, h2]
theorem seq_rt {a b : SM} {ρ ρ1 : Rho} {r : RV} (h1 : a ρ = some (.rt r ρ1)) : mSeq a b ρ = some (.rt r ρ1) := by
  unfold mSeq; simp only [h1, Option.bind_some]
theorem fn_of {n k : Nat} {b : SM} {ds : List D} {o : Out} {w : D × Bool} (h0 : ds.length = n) (h1 : b (ds.map .fz ++ List.replicate k .no) = some o) (h2 : retD o = some w) : fnM n k b ds = some w := by
  unfold fnM; rw [if_pos h0, h1, Option.bind_some, h2]
theorem call_pure {f : List D → Option (D × Bool)} {m : Rho → Option (List RV × Rho)} {ρ ρ1 : Rho} {rs : List RV} {d : D} {o : Bool} (h1 : m ρ = some (rs, ρ1)) (h2 : f (rs.map (·.1)) = some (d, o)) (h3 : pureR d o = true) : mCall f m ρ = some (kO d o, ρ1) := by
  unfold mCall; rw [h1, Option.bind_some]; dsimp only; rw [h2, Option.bind_some, if_pos h3]
theorem ret_eq {a : PM} {ρ ρ1 : Rho} {r : RV} (h : a ρ = some (r, ρ1)) : mRet a ρ = some (.rt r ρ1) := by
  unfold mRet; rw [h, Option.map_some]
theorem for_eq {it : Rho → Option (List D × Rho)} {g : D → Rho → Option Rho} {b : SM} {ρ ρ1 : Rho} {ds : List D} {o : Option Out} (h1 : it ρ = some (ds, ρ1)) (h2 : forL g b ds ρ1 = o) : mFor it g b ρ = o := by
  unfold mFor; rw [h1, Option.bind_some]; exact h2
theorem rg1_eq {m : Rho → Option (List RV × Rho)} {ρ ρ1 : Rho} {j : Int} {k : Kd} (h1 : m ρ = some ([(.int j, k)], ρ1)) (h2 : -(2 ^ 62) ≤ j ∧ j < 2 ^ 62) : mRg1 m ρ = some (rngD 0 j.toNat, ρ1) := by
  unfold mRg1; rw [h1, Option.bind_some]; show cIf _ _ _ = _; rw [cIf_pos h2]
end Mir
set_option Elab.async false
set_option linter.all false
set_option maxRecDepth 100000
namespace Mir
open PySem L2
variable [Zc]
def SF (s : Sl) : Prop := s = .no ∨ ∃ d, s = .fz d
theorem SF.fz (d : D) : SF (.fz d) := .inr ⟨d, rfl⟩
theorem SF.no : SF .no := .inl rfl
theorem sz_le {n : Nat} (h : n ≤ 100000) : n ≤ sizeLine := Nat.le_trans h (by decide)
theorem sz_lt {n : Nat} (h : n ≤ 100000) : n < sizeLine := Nat.lt_of_le_of_lt h (by decide)
end Mir
set_option Elab.async false
set_option linter.all false
set_option maxRecDepth 100000
namespace Mir
open PySem L2 PySem.Spec PyProof.Rows
variable [Zc]
end Mir
set_option Elab.async false
set_option linter.all false
set_option maxRecDepth 100000
namespace Mir
open PySem L2
variable [Zc]
def gListRev : List D → Option (D × Bool)
  | [.list ds] => some (.list ds.reverse, true)
  | _ => none
theorem J_listRev {K : PySem.W.Frag} : CallJ (rListRev K) gListRev := by
  intro B H vs ds res s h e
  unfold gListRev at e
  split at e
  · cases e
    obtain ⟨v, rfl, hh⟩ := views1 h
    obtain ⟨p, xs, rfl, r1, rp1⟩ := hh.list s
    exact ⟨xs.reverse, rp1.reverse, fun Q q => ⟨_, _, rfl, rd_sq r1, q⟩⟩
  · cases e
def inD (x : D) (ds : List D) : Bool := ds.any fun d => PyData.eqv d x
theorem Reps.inV {H : Hp} {v : V} {c : D} (g : Rep H v c) (e : flatD c = true) : ∀ {vs : List V} {ds : List D}, Reps H vs ds → ds.all flatD = true → inV v vs = inD c ds
  | _, _, .nil, _ => rfl
  | _, _, .cons a b, h => by
    simp only [List.all_cons, Bool.and_eq_true] at h
    have := Reps.inV g e b h.2
    unfold L2.inV inD at this ⊢
    rw [List.any_cons, List.any_cons, this, a.eqv g h.1 e]
section
variable {X : Cx} {K : PySem.W.Frag}
theorem pe_listRevK {a : Expr} {ta : TA} {p p' pos pos' : Pos} (h : X.K = K) (hc : X.calm = true) (hg : Gl X "list") (hm : X.mg "list" = none) (hg' : Gl X "reversed") (hm' : X.mg "reversed" = none) (ha : PA X [a] ta)
    (hs : starEach [a] X.env = [(false, eval a X.env)] := by rfl) (hs' : starEach [eCall "reversed" p' [a] pos'] X.env = [(false, eval (eCall "reversed" p' [a] pos') X.env)] := by rfl) :
    PE X (eCall "list" p [eCall "reversed" p' [a] pos'] pos) (tCB (rListRev K) ta) := h ▸ pe_listRev hc hg hm hg' hm' ha hs hs'
end
end Mir
set_option Elab.async false
set_option linter.all false
set_option maxRecDepth 100000
namespace Mir
open PySem L2
variable [Zc]
section
variable {a b : PM} {ρ ρ1 ρ2 ρ3 : Rho} {x y d : D} {r : RV} {res : D × Bool}
theorem sv_new (h : a ρ = some ((d, .new), ρ1)) : sv a ρ = some ((d, .fz), ρ1) := by unfold sv; rw [h]
theorem sv_fz (h : a ρ = some ((d, .fz), ρ1)) : sv a ρ = some ((d, .fz), ρ1) := by unfold sv; rw [h]
theorem sv_at {i : Nat} (h : a ρ = some ((d, .at i), ρ1)) : sv a ρ = some ((d, .at i), ρ1) := by unfold sv; rw [h]
theorem op_ev {g : D → D → Option (D × Bool)} (h1 : sv a ρ = some ((x, .fz), ρ1)) (h2 : sv b ρ1 = some (r, ρ2)) (h3 : g x r.1 = some res) : mOp g a b ρ = some (resK res, ρ2) := by
  unfold mOp; rw [h1, Option.bind_some]; dsimp only; rw [h2, Option.bind_some]; dsimp only [refr, Option.bind_some]; rw [h3, Option.map_some]
theorem op_at {g : D → D → Option (D × Bool)} {i : Nat} (h1 : sv a ρ = some ((x, .at i), ρ1)) (h2 : sv b ρ1 = some (r, ρ2)) (h4 : ρ2[i]? = some (.own y)) (h3 : g y r.1 = some res) : mOp g a b ρ = some (resK res, ρ2) := by
  unfold mOp; rw [h1, Option.bind_some]; dsimp only; rw [h2, Option.bind_some]; dsimp only [refr]; rw [h4]; dsimp only [Option.bind_some]; rw [h3, Option.map_some]
theorem cons_fz {m : Rho → Option (List RV × Rho)} {rs : List RV} (h1 : sv a ρ = some ((x, .fz), ρ1)) (h2 : m ρ1 = some (rs, ρ2)) : mCons a m ρ = some ((x, .fz) :: rs, ρ2) := by
  unfold mCons; rw [h1, Option.bind_some]; dsimp only; rw [h2, Option.bind_some]; rfl
theorem cons_at {m : Rho → Option (List RV × Rho)} {rs : List RV} {i : Nat} (h1 : sv a ρ = some ((x, .at i), ρ1)) (h2 : m ρ1 = some (rs, ρ2)) (h4 : ρ2[i]? = some (.own y)) : mCons a m ρ = some ((y, .at i) :: rs, ρ2) := by
  unfold mCons; rw [h1, Option.bind_some]; dsimp only; rw [h2, Option.bind_some]; dsimp only [refr]; rw [h4]; rfl
theorem nil_ev : mNil ρ = some ([], ρ) := rfl
theorem var_fz {i : Nat} (h : ρ[i]? = some (.fz d)) : mVar i ρ = some ((d, .fz), ρ) := by unfold mVar; rw [h]
theorem var_own {i : Nat} (h : ρ[i]? = some (.own d)) : mVar i ρ = some ((d, .at i), ρ) := by unfold mVar; rw [h]
theorem cb_ev {g : List D → Option (D × Bool)} {m : Rho → Option (List RV × Rho)} {rs : List RV} (h1 : m ρ = some (rs, ρ1)) (h2 : g (rs.map (·.1)) = some res) : mCB g m ρ = some (resK res, ρ1) := by
  unfold mCB; rw [h1, Option.bind_some]; dsimp only; rw [h2, Option.map_some]
theorem asg_fz {i : Nat} (h1 : a ρ = some ((d, .fz), ρ1)) (h2 : setSl ρ1 i (.fz d) = some ρ2) : mAsg i a ρ = some (.nx ρ2) := by
  unfold mAsg; rw [h1, Option.bind_some]; dsimp only [sto]; rw [h2, Option.map_some]
theorem asg_new {i : Nat} (h1 : a ρ = some ((d, .new), ρ1)) (h2 : setSl ρ1 i (.own d) = some ρ2) : mAsg i a ρ = some (.nx ρ2) := by
  unfold mAsg; rw [h1, Option.bind_some]; dsimp only [sto]; rw [h2, Option.map_some]
theorem if_t {c : Rho → Option (Bool × Rho)} {s t : SM} {o : Option Out} (h1 : c ρ = some (true, ρ1)) (h2 : s ρ1 = o) : mIfS c s t ρ = o := by
  unfold mIfS; rw [h1, Option.bind_some]; dsimp only; rw [if_pos rfl, h2]
theorem if_f {c : Rho → Option (Bool × Rho)} {s t : SM} {o : Option Out} (h1 : c ρ = some (false, ρ1)) (h2 : t ρ1 = o) : mIfS c s t ρ = o := by
  unfold mIfS; rw [h1, Option.bind_some]; dsimp only; rw [if_neg Bool.false_ne_true, h2]
theorem test_ev {k : Kd} {v : Bool} (h : a ρ = some ((.bool v, .fz), ρ1)) : mTest a ρ = some (v, ρ1) := by
  unfold mTest; rw [sv_fz h]; rfl
theorem not_ev {c : Rho → Option (Bool × Rho)} {v : Bool} (h : c ρ = some (v, ρ1)) : mNot c ρ = some (!v, ρ1) := by unfold mNot; rw [h]; rfl
theorem and_t {c e : Rho → Option (Bool × Rho)} {o : Option (Bool × Rho)} (h : c ρ = some (true, ρ1)) (h2 : e ρ1 = o) : mAnd c e ρ = o := by unfold mAnd; rw [h]; simpa using h2
theorem and_f {c e : Rho → Option (Bool × Rho)} (h : c ρ = some (false, ρ1)) : mAnd c e ρ = some (false, ρ1) := by unfold mAnd; rw [h]; rfl
theorem or_f {c e : Rho → Option (Bool × Rho)} {o : Option (Bool × Rho)} (h : c ρ = some (false, ρ1)) (h2 : e ρ1 = o) : mOr c e ρ = o := by unfold mOr; rw [h]; simpa using h2
theorem gAdd_list (a b : List D) (h : a.length + b.length ≤ 100000) : gAdd (.list a) (.list b) = some (.list (a ++ b), true) := by
  show cIf _ _ _ = _; rw [cIf_pos (sz_le h)]
theorem lst_ev {m : Rho → Option (List RV × Rho)} {rs : List RV} {ds : List D} (h1 : m ρ = some (rs, ρ1)) (h2 : fzAll rs ρ1 = some (ds, ρ2)) (h3 : ds.length ≤ 100000) : mLst m ρ = some ((.list ds, .new), ρ2) := by
  unfold mLst; rw [h1, Option.bind_some]; dsimp only; rw [h2, Option.bind_some]; dsimp only; rw [cIf_pos (sz_le h3)]
theorem tup_ev {m : Rho → Option (List RV × Rho)} {rs : List RV} {ds : List D} (h1 : m ρ = some (rs, ρ1)) (h2 : fzAll rs ρ1 = some (ds, ρ2)) (h3 : ds.length ≤ 100000) : mTup m ρ = some ((.tuple ds, .fz), ρ2) := by
  unfold mTup; rw [h1, Option.bind_some]; dsimp only; rw [h2, Option.bind_some]; dsimp only; rw [cIf_pos (sz_le h3)]
theorem drop_ev (h : a ρ = some (r, ρ1)) : mDrop a ρ = some (.nx ρ1) := by unfold mDrop; rw [h]; rfl
end
theorem rngD_map (n : Nat) : rngD 0 n = (List.range n).map fun k : Nat => PyData.int (k : Int) := by
  unfold rngD
  congr 1
  funext k
  rw [Int.zero_add]
def IE (m : PM) (ρ : Rho) (v : Int) : Prop := m ρ = some ((.int v, .fz), ρ)
def BE (m : PM) (ρ : Rho) (v : Bool) : Prop := m ρ = some ((.bool v, .fz), ρ)
section
variable {a b : PM} {ρ : Rho} {i j : Int} {u v : Bool}
theorem op_i {g : D → D → Option (D × Bool)} {k : Int} (h1 : IE a ρ i) (h2 : IE b ρ j) (h3 : g (.int i) (.int j) = some (.int k, false)) : IE (mOp g a b) ρ k := op_ev (sv_fz h1) (sv_fz h2) h3
theorem op_b {g : D → D → Option (D × Bool)} {k : Bool} (h1 : IE a ρ i) (h2 : IE b ρ j) (h3 : g (.int i) (.int j) = some (.bool k, false)) : BE (mOp g a b) ρ k := op_ev (sv_fz h1) (sv_fz h2) h3
theorem ie_c : IE (mC (.int i)) ρ i := rfl
theorem ie_var {k : Nat} (h : ρ[k]? = some (.fz (.int i))) : IE (mVar k) ρ i := var_fz h
theorem ie_add (h1 : IE a ρ i) (h2 : IE b ρ j) : IE (mOp gAdd a b) ρ (i + j) := op_i h1 h2 rfl
theorem ie_sub (h1 : IE a ρ i) (h2 : IE b ρ j) : IE (mOp gSub a b) ρ (i - j) := op_i h1 h2 rfl
theorem gI_ev {C : Int → Int → Prop} {f : Int → Int → Int} (h : C i j) : gI C f (.int i) (.int j) = some (.int (f i j), false) := by show cIf _ _ _ = _; rw [cIf_pos h]
theorem ie_mul (h1 : IE a ρ i) (h2 : IE b ρ j) (h : IntMulOk i j) : IE (mOp gMul a b) ρ (i * j) := op_i h1 h2 (by show cIf _ _ _ = _; rw [cIf_pos h])
theorem ie_div (h1 : IE a ρ i) (h2 : IE b ρ j) (h : CDiv i j) : IE (mOp gDiv a b) ρ (i / j) := op_i h1 h2 (gI_ev h)
theorem ie_mod (h1 : IE a ρ i) (h2 : IE b ρ j) (h : 0 < j) : IE (mOp gMod a b) ρ (i % j) := op_i h1 h2 (gI_ev (C := fun _ j => 0 < j) h)
theorem ie_pow (h1 : IE a ρ i) (h2 : IE b ρ j) (h : CPow i j) : IE (mOp gPow a b) ρ (i ^ j.toNat) := op_i h1 h2 (gI_ev h)
theorem ie_neg (h1 : IE a ρ i) : IE (mUn gNeg a) ρ (-i) := by unfold IE mUn; rw [sv_fz h1]; rfl
theorem be_eq (h1 : IE a ρ i) (h2 : IE b ρ j) : BE (mOp gEq a b) ρ (decide (i = j)) := op_b h1 h2 (gEq_int i j)
theorem be_le (h1 : IE a ρ i) (h2 : IE b ρ j) : BE (mOp gLe a b) ρ (decide (i ≤ j)) := op_b h1 h2 rfl
theorem be_gt (h1 : IE a ρ i) (h2 : IE b ρ j) : BE (mOp gGt a b) ρ (decide (j < i)) := op_b h1 h2 rfl
theorem BE.t (h : BE a ρ v) : mTest a ρ = some (v, ρ) := test_ev (k := .fz) h
theorem BE.is (h : BE a ρ u) (e : u = v) : BE a ρ v := e ▸ h
theorem IE.is (h : IE a ρ i) (e : i = j) : IE a ρ j := e ▸ h
theorem ie_call {f : List D → Option (D × Bool)} {m : Rho → Option (List RV × Rho)} {rs : List RV} (h1 : m ρ = some (rs, ρ)) (h2 : f (rs.map (·.1)) = some (.int i, false)) : IE (mCall f m) ρ i := call_pure h1 h2 rfl
theorem be_call {f : List D → Option (D × Bool)} {m : Rho → Option (List RV × Rho)} {rs : List RV} (h1 : m ρ = some (rs, ρ)) (h2 : f (rs.map (·.1)) = some (.bool v, false)) : BE (mCall f m) ρ v := call_pure h1 h2 rfl
theorem IE.cons {m : Rho → Option (List RV × Rho)} {rs : List RV} (h : IE a ρ i) (h2 : m ρ = some (rs, ρ)) : mCons a m ρ = some ((.int i, .fz) :: rs, ρ) := cons_fz (sv_fz h) h2
theorem be_and (h1 : BE a ρ u) (h2 : u = true → BE b ρ v) (h3 : u = false → v = false) : BE (mAndV a b) ρ v := by
  unfold BE mAndV
  rw [h1.t]
  cases u with
  | true => exact h2 rfl
  | false => rw [h3 rfl]; rfl
end
section
variable {a b : PM} {ρ : Rho} {i j : Int} {u v : Bool}
theorem asgI {k : Nat} {ρ' : Rho} (h : IE a ρ i) (h2 : setSl ρ k (.fz (.int i)) = some ρ') : mAsg k a ρ = some (.nx ρ') := asg_fz h h2
theorem tstB (h : BE a ρ u) (e : u = v) : mTest a ρ = some (v, ρ) := e ▸ h.t
theorem consI {m : Rho → Option (List RV × Rho)} {rs : List RV} (h : IE a ρ i) (h2 : m ρ = some (rs, ρ)) : mCons a m ρ = some ((.int i, .fz) :: rs, ρ) := cons_fz (sv_fz h) h2
theorem tEq (h1 : IE a ρ i) (h2 : IE b ρ j) (h : i = j) : mTest (mOp gEq a b) ρ = some (true, ρ) := tstB (be_eq h1 h2) (decide_eq_true h)
theorem tNe (h1 : IE a ρ i) (h2 : IE b ρ j) (h : i ≠ j) : mTest (mOp gEq a b) ρ = some (false, ρ) := tstB (be_eq h1 h2) (decide_eq_false h)
end
theorem append_ev {i : Nat} {m : Rho → Option (List RV × Rho)} {ρ ρ1 ρ2 : Rho} {r : RV} {d : D} {ds ds0 : List D} (h0 : ρ[i]? = some (.own (.list ds0))) (h1 : m ρ = some ([r], ρ1)) (h2 : fzOne r ρ1 = some (d, ρ2)) (h3 : ρ2[i]? = some (.own (.list ds))) (hz : ds.length ≤ 100000) :
    mMut i fAppend m ρ = some ((.none, .fz), ρ2.set i (.own (.list (ds ++ [d])))) := by
  unfold mMut
  simp only [h0, h1, h2, h3, ownL, fzAll, Option.bind_some, Option.map_some, fAppend, cIf_pos (sz_lt hz), Mir.putAt, Sl.put]
theorem isi_ev {n : String} {a : PM} {ρ ρ1 : Rho} {d : D} {k : Kd} {v : Bool} (h1 : sv a ρ = some ((d, k), ρ1)) (h2 : gIsi n d = some (.bool v, false)) : mIsi n a ρ = some ((.bool v, .fz), ρ1) := by
  unfold mIsi mUn; rw [h1, Option.bind_some]; dsimp only; rw [h2]; rfl
theorem app_ev {i : Nat} {m : Rho → Option (List RV × Rho)} {ρ ρ1 ρ2 ρ3 : Rho} {r : RV} (d : D) (ds : List D) {ds0 : List D} (h0 : ρ[i]? = some (.own (.list ds0))) (h1 : m ρ = some ([r], ρ1)) (h2 : fzOne r ρ1 = some (d, ρ2)) (h3 : ρ2[i]? = some (.own (.list ds))) (hz : ds.length ≤ 100000)
    (h5 : ρ2.set i (.own (.list (ds ++ [d]))) = ρ3) : mDrop (mMut i fAppend m) ρ = some (.nx ρ3) := h5 ▸ drop_ev (append_ev h0 h1 h2 h3 hz)
theorem forL_cons {g : D → Rho → Option Rho} {b : SM} {d : D} {ds : List D} {ρ ρ1 ρ2 : Rho} {o : Option Out} (h1 : g d ρ = some ρ1) (h2 : b ρ1 = some (.nx ρ2)) (h3 : forL g b ds ρ2 = o) : forL g b (d :: ds) ρ = o := by
  show ((g d ρ).bind _) = _
  rw [h1, Option.bind_some, h2]
  exact h3
theorem pop_ev {i : Nat} {ρ ρ1 : Rho} (d : D) (ds : List D) (h0 : ρ[i]? = some (.own (.list (ds ++ [d])))) (h5 : ρ.set i (.own (.list ds)) = ρ1) : mMut0 i fPop ρ = some ((d, .fz), ρ1) := by
  unfold mMut0
  rw [h0]
  have e : (ds ++ [d])[(ds ++ [d]).length - 1]? = some d := by simp
  simp only [ownL, Option.bind_some, fPop, e, Option.map_some, List.dropLast_concat, Mir.putAt, h0, Sl.put, h5]
end Mir
set_option Elab.async false
set_option linter.all false
set_option maxRecDepth 100000
namespace Mir
open PySem L2
variable [Zc]
def asS : D → Option (List D)
  | .list ds => some ds
  | .tuple ds => some ds
  | _ => none
def mgU (n : Nat) (ms : List D → Rho → Option Rho) : D → Rho → Option Rho := fun d ρ => (asS d).bind fun ds => if ds.length = n then ms ds ρ else none
theorem mg_tupL {K : PySem.W.Frag} {n : Nat} {gs : TGs} {ms : List D → Rho → Option Rho} (h : MGs gs ms) : MG (gTupL K n gs) (mgU n ms) := fun F B H σ ρ v d ρ' Q R rp e q => by
  obtain ⟨ds, e1, e2⟩ := Option.bind_eq_some_iff.mp e
  cases rp with
  | tup hp rs =>
    cases e1
    split at e2
    · rename_i hn
      exact ⟨_, _, rfl, .inl (.inl (.inl (R.sub _ _ hp))), by rw [rs.length]; exact hn, h F B H σ ρ _ _ ρ' Q R rs e2 q⟩
    · cases e2
  | lst hp rs =>
    cases e1
    split at e2
    · rename_i hn
      exact ⟨_, _, rfl, .inr (rd_sq (rd_same R.sub hp)), by rw [rs.length]; exact hn, h F B H σ ρ _ _ ρ' Q R rs e2 q⟩
    · cases e2
  | _ => cases e1
end Mir
set_option Elab.async false
set_option linter.all false
set_option maxRecDepth 100000
namespace L2
open PySem PySem.Spec PyProof.Rows
variable {X : Cx}
end L2
namespace Mir
open PySem L2
variable [Zc]
end Mir
set_option Elab.async false
set_option linter.all false
set_option maxRecDepth 100000
namespace Mir
open PySem L2
inductive OutE where
  | ok (o : Out) | er (c : Str) (ρ : Rho)
abbrev EM := Rho → Option OutE
section
variable [Zc]
def OutOkE (F : Fr) (D : Ends) (W : Str → Hp → Prop) : OutE → Prop
  | .ok o => OutOk F D o
  | .er c ρ => ∀ B H σ, Rel F B H σ ρ → W c H
def MSE (W : Str → Hp → Prop) (t : TS) (m : EM) : Prop := ∀ (F : Fr) (B H : Hp) (σ : St) (ρ : Rho) (o : OutE) (D : Ends), Rel F B H σ ρ → m ρ = some o → OutOkE F D W o → t D σ H
def eLift (m : SM) : EM := fun ρ => (m ρ).map .ok
theorem mse_lift {W : Str → Hp → Prop} {t : TS} {m : SM} (h : MS t m) : MSE W t (eLift m) := by
  intro F B H σ ρ o D R e q
  obtain ⟨x, e1, e⟩ := Option.map_eq_some_iff.mp e
  cases e
  exact h F B H σ ρ x D R e1 q
def eSeq (a b : EM) : EM := fun ρ => (a ρ).bind fun o => match o with
  | .ok (.nx ρ') => b ρ'
  | o => some o
theorem mse_seq {W : Str → Hp → Prop} {t u : TS} {a b : EM} (ha : MSE W t a) (hb : MSE W u b) : MSE W (tSeq t u) (eSeq a b) := by
  intro F B H σ ρ o D R e q
  obtain ⟨x, e1, e⟩ := Option.bind_eq_some_iff.mp e
  refine ha F B H σ ρ x _ R e1 ?_
  cases x with
  | er c ρ1 => cases e; exact q
  | ok x =>
    cases x with
    | nx ρ1 => exact fun B1 H1 σ1 R1 => hb F B1 H1 σ1 ρ1 o D R1 e q
    | rt r ρ1 => cases e; exact q
    | bk ρ1 => cases e; exact q
    | ct ρ1 => cases e; exact q
def eIf (c : Rho → Option (Bool × Rho)) (a b : EM) : EM := fun ρ => (c ρ).bind fun x => if x.1 = true then a x.2 else b x.2
theorem mse_if {W : Str → Hp → Prop} {tc : TT} {t u : TS} {c : Rho → Option (Bool × Rho)} {a b : EM} (hc : MT tc c) (ha : MSE W t a) (hb : MSE W u b) : MSE W (tIfS tc t u) (eIf c a b) := by
  intro F B H σ ρ o D R e q
  obtain ⟨x, e1, e⟩ := Option.bind_eq_some_iff.mp e
  refine hc F B H σ ρ x.1 x.2 _ R e1 fun B' H' E R' => ?_
  by_cases h : x.1 = true
  · rw [if_pos h] at e ⊢; exact ha F B' H' σ x.2 o D R' e q
  · rw [if_neg h] at e ⊢; exact hb F B' H' σ x.2 o D R' e q
def eRaise (c : Str) (m : Rho → Option (List RV × Rho)) : EM := fun ρ => (m ρ).bind fun x => if x.1.length ≤ 100 then some (.er c x.2) else none
theorem vl_len {F : Fr} {B H : Hp} {σ : St} {ρ : Rho} : ∀ {vs : List V} {rs : List RV}, Vl F B H σ ρ vs rs → vs.length = rs.length
  | [], [], _ => rfl
  | _ :: _, _ :: _, ⟨_, t⟩ => by rw [List.length_cons, List.length_cons, vl_len t]
theorem mse_raise {W : Str → Hp → Prop} {W' : Hp → Prop} {c : Str} {t : TA} {m : Rho → Option (List RV × Rho)} (h : MA t m) (hw : ∀ H, W c H → W' H) : MSE W (tRaise W' t) (eRaise c m) := by
  intro F B H σ ρ o D R e q
  obtain ⟨x, e1, e⟩ := Option.bind_eq_some_iff.mp e
  split at e
  · rename_i hz
    cases e
    refine h F B H σ ρ x.1 x.2 _ R e1 fun vs B1 H1 E1 R1 V1 => ⟨by rw [vl_len V1]; exact hz, hw _ (q B1 H1 σ R1)⟩
  · cases e
def fnX (n k : Nat) (b : EM) (ds : List D) : Option ((D × Bool) ⊕ Str) := if ds.length = n then (b (ds.map .fz ++ List.replicate k .no)).bind fun o => match o with
  | .ok o => (retD o).map .inl
  | .er c _ => some (.inr c)
  else none
def spX (cl : Str → Value) (f : List D → Option ((D × Bool) ⊕ Str)) : Sp := fun vs H Q E => ∃ B ds w, Same B H ∧ (∀ q xs, H q = some (.tup xs) → B q = some (.tup xs)) ∧ Reps B vs ds ∧ f ds = some w ∧
  match w with
  | .inl (d, o) => ∀ v B' H', Post B H v B' H' d o → Q v H'
  | .inr c => ∀ B' H', Post B H .non B' H' .none false → E (cl c) none H'
theorem fn_runX {cl : Str → Value} {n k : Nat} {b : EM} {t : TS} {N : List Str} {vs : List V} {H : Hp} {Q : VK} {E : XK} (hb : MSE (fun c H => E (cl c) none H) t b) (hN : N.length = n + k) (h : spX cl (fnX n k b) vs H Q E) : t { nx := fun _ H' => Q .non H', rt := Q } (L2.start N vs) H := by
  obtain ⟨B, ds, w0, sub, tB, rp, e, q⟩ := h
  unfold fnX at e
  split at e
  case isFalse => cases e
  rename_i hl
  obtain ⟨w, e1, e2⟩ := Option.bind_eq_some_iff.mp e
  have hvl : vs.length = n := rp.length.trans hl
  have own0 : ∀ (i : Nat) (s : Sl), (ds.map Sl.fz ++ List.replicate k .no)[i]? = some s → s.isRef = true → False := fun i s h1 h2 => by
    have := List.mem_of_getElem? h1
    rcases List.mem_append.mp this with h | h
    · obtain ⟨c, _, rfl⟩ := List.mem_map.mp h; cases h2
    · rw [List.eq_of_mem_replicate h] at h2; cases h2
  have ex0 : ∀ i : Nat, (ds.map Sl.fz ++ List.replicate k .no)[i]? = some Sl.ex → False := fun i h1 => by
    have := List.mem_of_getElem? h1
    rcases List.mem_append.mp this with h | h
    · obtain ⟨c, _, z⟩ := List.mem_map.mp h; cases z
    · have := List.eq_of_mem_replicate h; cases this
  have R : Rel ⟨B, H, [], fun q => H q ≠ none⟩ B H (L2.start N vs) (ds.map .fz ++ List.replicate k .no) := by
    refine ⟨sub, Same.refl _, fun _ _ z _ => z, fun _ _ z => z, ?_, fun i s hs => ?_, fun i j s t p h1 h2 => (own0 i s h1 (Sl.ref_of h2)).elim, fun i c p h1 => (own0 i _ h1 rfl).elim, (fun x hx => by cases hx), fun i c h1 => (own0 i _ h1 rfl).elim, tB, (fun i h1 => (ex0 i h1).elim), fun q o u h z => by rw [z] at h; cases h⟩
    · simp [L2.start, hl, hvl, hN]
    · by_cases hi : i < n
      · rw [List.getElem?_append_left (by simpa [hl] using hi), List.getElem?_map] at hs
        obtain ⟨c, h1, rfl⟩ := Option.map_eq_some_iff.mp hs
        obtain ⟨x, h2, h3⟩ := rp.get i c h1
        refine ⟨x, ?_, h3⟩
        unfold L2.start
        rw [List.getElem?_append_left (by simpa [hvl] using hi), List.getElem?_map, h2]
        rfl
      · rw [List.getElem?_append_right (by simpa [hl] using Nat.le_of_not_lt hi)] at hs
        have := List.eq_of_mem_replicate (List.mem_of_getElem? hs)
        subst this
        trivial
  refine hb _ B H _ _ w _ R e1 ?_
  have post : ∀ {B' H' : Hp} {σ' : St} {ρ' : Rho}, Rel ⟨B, H, [], fun q => H q ≠ none⟩ B' H' σ' ρ' → Same H H' ∧ Same B B' ∧ Same B' H' ∧ (∀ q, H q ≠ none → B q = none → B' q = none) ∧ (∀ q xs, H' q = some (.tup xs) → B' q = some (.tup xs)) ∧ ∀ q o u, H' q = some (.frz o u) → H q ≠ none := fun R' =>
    ⟨fun q u z => R'.sH q u z (fun x hx => by cases hx), R'.sB, R'.sub, R'.nB, R'.tupB, R'.nz⟩
  cases w with
  | er c ρ' =>
    cases e2
    intro B' H' σ' R'
    obtain ⟨p1, p2, p3, p4, p5, p6⟩ := post R'
    exact q B' H' ⟨p1, p2, p3, p4, p5, p6, .non⟩
  | ok w =>
  replace e2 := Option.map_eq_some_iff.mp e2
  obtain ⟨⟨d, o⟩, e2, e3⟩ := e2
  subst e3
  cases w with
  | nx ρ' =>
    cases e2
    intro B' H' σ' R'
    obtain ⟨p1, p2, p3, p4, p5, p6⟩ := post R'
    exact q _ B' H' ⟨p1, p2, p3, p4, p5, p6, .non⟩
  | bk ρ' => cases e2
  | ct ρ' => cases e2
  | rt r ρ' =>
    intro v B' H' σ' R' V'
    obtain ⟨p1, p2, p3, p4, p5, p6⟩ := post R'
    obtain ⟨c, kd⟩ := r
    cases kd with
    | fz => cases e2; exact q v B' H' ⟨p1, p2, p3, p4, p5, p6, V'⟩
    | new =>
      cases e2
      obtain ⟨p, rfl, h1, h2, h3, _⟩ := V'
      exact q _ B' H' ⟨p1, p2, p3, p4, p5, p6, ⟨p, rfl, h2, h1, h3⟩⟩
    | ro => cases e2
    | «at» i =>
      obtain ⟨s, h1, h2, h3, h4⟩ := V'
      have e2' : (match ρ'[i]? with
        | some (.own d) => some (d, true)
        | _ => none) = some (d, o) := e2
      rw [h1] at e2'
      cases s with
      | own c' =>
        cases e2'
        obtain ⟨p, g1, g2, g3⟩ := R'.slot i _ h1
        have h4' : σ'[i]? = some (some v) := h4
        rw [h4'] at g1
        cases g1
        exact q _ B' H' ⟨p1, p2, p3, p4, p5, p6, ⟨p, rfl, R'.ownN i _ p h1 h4', g2, g3⟩⟩
      | _ => cases e2'
theorem spX_len {cl : Str → Value} {n k : Nat} {b : EM} {vs : List V} {H : Hp} {Q : VK} {E : XK} (h : spX cl (fnX n k b) vs H Q E) : vs.length = n := by
  obtain ⟨B, ds, w, sub, tB, rp, e, q⟩ := h
  unfold fnX at e
  split at e
  · rename_i hl; exact rp.length.trans hl
  · cases e
end
end Mir
namespace L2
open PySem PySem.Spec PyProof.Rows
theorem Top.defX {P : Program} {w : World} {K : PySem.W.Frag} {mg : Str → Option Value} {base : Heap} {x : Str} {st : Stmt} {N ps : List Str} {k : Nat} {sp : Sp} (T : Top K mg x st) (S : FnScope N ps (defScope st)) (len : ∀ vs H Q E, sp vs H Q E → vs.length = ps.length)
    (hb : ∀ (kV doc pm : Value) (an : Option Addr) (cdv ct : Value) (us : List Value), us.length = ps.length → bindArgs (PySem.W.fnOf x x (defArgs st) (defBody st) (defScope st) .none kV doc pm an cdv ct) ⟨us, []⟩ = pure (ps.zip us))
    (hbody : ∀ (f : Addr) (cdv : Value) (A : Around) (outer : List Env) (s : Shared) (H : Hp) (vs : List V) (Q : VK) (E : XK), Room k (A.deeper (envOfC x (defScope st) s.heap.objs.size f cdv)) → sp vs H Q E →
      ∃ t, PSs (cxOf (CXW P w) P w K mg base N x (defScope st) f cdv A outer s H E) (defBody st) t ∧ t { nx := fun _ H' => Q .non H', rt := Q } (start N vs) H) : Def P w K mg base (CXW P w) (k + 1) x ps sp := by
  obtain ⟨f, fd, F, m⟩ := T.ex
  refine ⟨⟨f, fd, ?_, m, F.kp, F.binds hb⟩⟩
  obtain ⟨oc, od, kV, doc, pm, an, cdv, ct, osl, rfl, lk, hcd⟩ := F.ex
  exact fn_of lk hcd S len fun A outer s H vs Q E hr hsp => hbody f cdv A outer s H vs Q E hr hsp
end L2
set_option Elab.async false
set_option linter.all false
set_option maxRecDepth 100000
namespace L2
open PySem PySem.Spec PyProof.Rows
def clM (mg : Str → Option Value) (c : Str) : Value := (mg c).getD .none
theorem clM_eq {mg : Str → Option Value} {c : Str} {v : Value} (h : mg c = some v) : clM mg c = v := by unfold clM; rw [h]; rfl
def okX (K : PySem.W.Frag) (C : Addr) (cls : Value) : Prop := ∃ D, cls = .ref D ∧ ExcK K D ∧ PySem.W.exmOne K cls (.ref C) = some true
end L2
set_option Elab.async false
set_option linter.all false
set_option maxRecDepth 100000
namespace L2
open PySem PySem.Spec PyProof.Rows
theorem Vals.picks {xs : List V} {us : List Value} (r : Vals xs us) : ∀ is : List Nat, Vals (is.filterMap (xs[·]?)) (is.filterMap (us[·]?))
  | [] => .nil
  | i :: is => by
    cases h : xs[i]? with
    | none => rw [List.filterMap_cons_none h, List.filterMap_cons_none (r.none_of h)]; exact r.picks is
    | some x =>
      obtain ⟨u, h1, h2⟩ := r.get h
      rw [List.filterMap_cons_some h, List.filterMap_cons_some h1]
      exact .cons h2 (r.picks is)
section
variable {X : Cx} {e : Expr} {te : TE} {est : Expr} {lo hi : Option Expr} {tl th tk : TO} {pos p2 : Pos}
end
end L2
namespace Mir
open PySem L2
variable [Zc]
theorem Reps.picks {H : Hp} {vs : List V} {ds : List D} (r : Reps H vs ds) : ∀ is : List Nat, Reps H (is.filterMap (vs[·]?)) (is.filterMap (ds[·]?))
  | [] => .nil
  | i :: is => by
    cases h : ds[i]? with
    | none =>
      have h' : vs[i]? = none := by
        rw [List.getElem?_eq_none_iff] at h ⊢
        rw [r.length]; exact h
      rw [List.filterMap_cons_none h, List.filterMap_cons_none h']; exact r.picks is
    | some x =>
      obtain ⟨u, h1, h2⟩ := r.get i x h
      rw [List.filterMap_cons_some h, List.filterMap_cons_some h1]
      exact .cons h2 (r.picks is)
end Mir
set_option Elab.async false
set_option linter.all false
set_option maxRecDepth 100000
namespace Mir
open PySem L2
section
variable [Zc]
def LF (B : Hp) : Prop := ∀ q o, B q = some o → ∃ xs, o = .tup xs
structure FrP (F : Fr) : Prop where
  lf : LF F.B
  io : F.io = []
  zh : ∀ q, F.Z q → F.H q ≠ none
def MSP (t : TS) (m : SM) : Prop := ∀ (F : Fr) (B H : Hp) (σ : St) (ρ : Rho) (o : Out) (D : Ends), FrP F → Rel F B H σ ρ → m ρ = some o → OutOk F D o → t D σ H
theorem MS.p {t : TS} {m : SM} (h : MS t m) : MSP t m := fun F B H σ ρ o D _ R e q => h F B H σ ρ o D R e q
def tups (H : Hp) : Hp := fun q => match H q with
  | some (.tup xs) => some (.tup xs)
  | _ => none
theorem Reps.put {B B' : Hp} (k : ∀ q xs, B q = some (.tup xs) → B' q = some (.tup xs)) {x : V} {c c' : D} (hr : Rep B' x c') : ∀ {vs : List V} {ds : List D} (j : Nat), Reps B vs ds → vs[j]? = some x → ds[j]? = some c → pureDs (ds.set j .none) = true → Reps B' vs (ds.set j c')
  | _, _, _, .nil, h, _, _ => by simp at h
  | _, _, 0, .cons a b, h1, h2, e => by
    simp only [List.getElem?_cons_zero, Option.some.injEq] at h1
    subst h1
    simp only [List.set_cons_zero, pureDs, Bool.and_eq_true] at e
    exact .cons hr (b.ofPure k e.2)
  | _, _, j + 1, .cons a b, h1, h2, e => by
    simp only [List.set_cons_succ, pureDs, Bool.and_eq_true] at e
    exact .cons (a.ofPure k e.1) (Reps.put k hr j b (by simpa using h1) (by simpa using h2) e.2)
end
end Mir
set_option Elab.async false
set_option linter.all false
set_option maxRecDepth 100000
namespace Mir
open PySem L2
section
variable [Zc]
structure PostI (B H : Hp) (p : Addr) (v : V) (B' H' : Hp) (d : D) (o : Bool) (d1 : D) : Prop where
  eH : ∀ q u, q ≠ p → H q = some u → H' q = some u
  eB : Same B B'
  sub : Same B' H'
  nb : ∀ q, H q ≠ none → B q = none → B' q = none
  tB : ∀ q xs, H' q = some (.tup xs) → B' q = some (.tup xs)
  nz : ∀ q o u, H' q = some (.frz o u) → H q ≠ none
  own : Own B' H' p d1
  val : if o = true then ∃ p, v = .ref p ∧ H p = none ∧ B' p = none ∧ Own B' H' p d else Rep B' v d
def ownAt (ρ : Rho) (i : Nat) : Option Sl := match ρ[i]? with
  | some s => if s.isOwn = true then some s else none
  | none => none
theorem op_io {a b : PM} {ρ ρ1 ρ2 : Rho} {x y : D} {r : RV} {res : D × Bool} {g : D → D → Option (D × Bool)} {i : Nat} (h1 : sv a ρ = some ((x, .at i), ρ1)) (h2 : sv b ρ1 = some (r, ρ2)) (h4 : ρ2[i]? = some (.io y)) (h3 : g y r.1 = some res) : mOp g a b ρ = some (resK res, ρ2) := by
  unfold mOp; rw [h1, Option.bind_some]; dsimp only; rw [h2, Option.bind_some]; dsimp only [refr]; rw [h4]; dsimp only [Option.bind_some]; rw [h3, Option.map_some]
theorem var_io {d : D} {ρ : Rho} {i : Nat} (h : ρ[i]? = some (.io d)) : mVar i ρ = some ((d, .at i), ρ) := by unfold mVar; rw [h]
theorem op_ro {a b : PM} {ρ ρ1 ρ2 : Rho} {x : D} {r : RV} {res : D × Bool} {g : D → D → Option (D × Bool)} (h1 : sv a ρ = some ((x, .ro), ρ1)) (h2 : sv b ρ1 = some (r, ρ2)) (h3 : g x r.1 = some res) : mOp g a b ρ = some (resK res, ρ2) := by
  unfold mOp; rw [h1, Option.bind_some]; dsimp only; rw [h2, Option.bind_some]; dsimp only [refr, Option.bind_some]; rw [h3, Option.map_some]
end
end Mir
set_option Elab.async false
set_option linter.all false
set_option maxRecDepth 100000
namespace Mir
open PySem L2
section
variable [Zc]
def Two (H0 B' H' : Hp) (v : V) (c : D × D) : Prop := ∃ a p q, v = .ref a ∧ H' a = some (.tup [.ref p, .ref q]) ∧ p ≠ q ∧ H0 p = none ∧ H0 q = none ∧ B' p = none ∧ B' q = none ∧ Own B' H' p c.1 ∧ Own B' H' q c.2
structure PostD (B H : Hp) (v : V) (B' H' : Hp) (c : D × D) : Prop where
  eH : Same H H'
  eB : Same B B'
  sub : Same B' H'
  nb : ∀ q, H q ≠ none → B q = none → B' q = none
  tB : ∀ q xs, H' q = some (.tup xs) → B' q = some (.tup xs)
  nz : ∀ q o u, H' q = some (.frz o u) → H q ≠ none
  val : Two H B' H' v c
end
end Mir
set_option Elab.async false
set_option linter.all false
set_option maxRecDepth 100000
namespace L2
open PySem PySem.Spec PyProof.Rows
section
variable {X : Cx} {pins : List (Addr × Obj)} {σ : St} {H : Hp} {s : Shared} {h' : Heap}
theorem Inv.turnedL {t' : Nat} {fp : List Addr} (I : Inv X pins σ H s) (k : ∀ b o, b ∉ fp → s.heap.get? b = some o → h'.get? b = some o) (f : ∀ b ∈ fp, FpOk X pins H b) : Inv X pins σ H { s with heap := h', toks := t' } := by
  have nit : ∀ b u, H b = some u → b ∉ fp := fun b u e z => by rw [(f b z).1] at e; cases e
  have hL : X.env.locals ∉ fp := fun z => (f _ z).2.1 rfl
  refine I.step (g' := s.gens) (d' := s.drawn) (ch := fp) (fun b hb => ?_) (fun b o _ _ hc e _ => k b o hc e) (fun b o _ _ hc e _ => ⟨o.slots, k b o hc e⟩) (fun _ _ _ _ n => n)
    (fun b o hc e => ⟨o, k b o hc e⟩) (fun _ _ e => e) (fun _ _ _ e => e) (fun b ps e => ⟨#[], by rw [e]; simp⟩) (fun m hm => ?_) (fun b u e => ?_) I.bare
  · obtain ⟨_, f1, _, f3, f4, f5⟩ := f b hb
    exact ⟨f3, f1, f4, f5⟩
  · obtain ⟨o, es, ep, ho, r⟩ := hm
    exact ⟨o, es, ep, k _ o hL ho, r⟩
  · refine (I.hok b u e).stay (fun c v hc q => k c v ?_ q) (fun _ q => q) fun _ _ q => q
    rcases hc with z | z
    · rw [z]; exact nit b u e
    · exact nit c _ z
end
theorem zipApart_of {n l1 l2 : Nat} (h1 : l1 < n) (h2 : l2 < n) : ZipApart (n + 4) (n + 2) (n + 3) n (n + 1) l1 l2 := by
  constructor <;> (intro z; have z' : @Eq Nat _ _ := z; omega)
section
variable {X : Cx}
end
end L2
set_option Elab.async false
set_option linter.all false
set_option maxRecDepth 100000
namespace L2
open PySem PySem.Spec PyProof.Rows
section
variable {prog : Program} {w : World} {A : Around} {E : Value → Shared → Prop} {s : Shared}
theorem nextT_item {it t : Addr} {i : Nat} {items : Array Value} {x : Value} {Q : Value → Shared → Prop} (hit : s.heap.IsTupleIter it t i) (ht : s.heap.IsTuple t items) (hx : items[i]? = some x)
    (hQ : ∀ h', h'.IsTupleIter it t (i + 1) → Heap.SameBut it s.heap h' → Q x { s with heap := h' }) : wpAny (model prog w) A (Builtin.SmallTypes.nextOf (.ref it)) Q E s := by
  obtain ⟨o, ho, hc, hd⟩ := id hit
  obtain ⟨ol, hol, _, nl, hdl⟩ := ht
  unfold Builtin.SmallTypes.nextOf
  refine wpAny_bind (wpAny_callSpecial?_slot (name := Str.ofString "__next__") hit.typeIs F.slot_tuple_iterator_next (wpAny_call_entry F.slot_tuple_iterator_next hit.typeIs F.entry_tuple_iterator_next ?_ (F.args_tuple_iterator_next_1 _)))
  show wpAny _ _ (field (.ref it) 0 >>= _) _ _ s
  refine wpAny_bind (wpAny_field ho hd (x := .ref t) rfl ?_)
  show wpAny _ _ (if (Value.ref t == Value.none) = true then _ else _) _ _ s
  rw [if_neg (show ¬ ((Value.ref t == Value.none) = true) from Bool.false_ne_true)]
  show wpAny _ _ (field (.ref it) 1 >>= _) _ _ s
  refine wpAny_bind (wpAny_field ho hd (x := .int i 0) rfl ?_)
  show wpAny _ _ (seqItems? (.ref t) >>= _) _ _ s
  refine wpAny_bind (wpAny_seqItems hol hdl ?_)
  simp only [Int.toNat_natCast, hx]
  refine wpAny_bind (wpAny_setField ho hd (by simp) (wpAny_pure ⟨x, rfl, wpAny_pure (hQ _ ?_ (Heap.SameBut.update ..))⟩))
  exact ⟨_, Heap.get?_update_self _ ho (Obj.isFreed_of_fields (Obj.data_mapFields hd _)), (Obj.cls_mapFields ..).trans hc, by
    rw [Obj.data_mapFields hd]; simp [rawInt]⟩
theorem nextT_end {it t : Addr} {i : Nat} {items : Array Value} {Q : Value → Shared → Prop} (hh : A.handled = none) (hit : s.heap.IsTupleIter it t i) (ht : s.heap.IsTuple t items) (hx : items[i]? = none)
    (hE : ∀ h' e, Heap.ExtBut it s.heap h' → (∃ o, h'.get? e = some o ∧ o.cls = .type "StopIteration") → E (.ref e) { s with heap := h' }) : wpAny (model prog w) A (Builtin.SmallTypes.nextOf (.ref it)) Q E s := by
  obtain ⟨o, ho, hc, hd⟩ := id hit
  obtain ⟨ol, hol, _, nl, hdl⟩ := ht
  unfold Builtin.SmallTypes.nextOf
  refine wpAny_bind (wpAny_callSpecial?_slot (name := Str.ofString "__next__") hit.typeIs F.slot_tuple_iterator_next (wpAny_call_entry F.slot_tuple_iterator_next hit.typeIs F.entry_tuple_iterator_next ?_ (F.args_tuple_iterator_next_1 _)))
  show wpAny _ _ (field (.ref it) 0 >>= _) _ _ s
  refine wpAny_bind (wpAny_field ho hd (x := .ref t) rfl ?_)
  show wpAny _ _ (if (Value.ref t == Value.none) = true then _ else _) _ _ s
  rw [if_neg (show ¬ ((Value.ref t == Value.none) = true) from Bool.false_ne_true)]
  show wpAny _ _ (field (.ref it) 1 >>= _) _ _ s
  refine wpAny_bind (wpAny_field ho hd (x := .int i 0) rfl ?_)
  show wpAny _ _ (seqItems? (.ref t) >>= _) _ _ s
  refine wpAny_bind (wpAny_seqItems hol hdl ?_)
  simp only [Int.toNat_natCast, hx]
  refine wpAny_bind (wpAny_rule (wpAny_bind (wpAny_setField ho hd (by simp) ?_)))
  show wpAny _ _ (newExc (.type "StopIteration") [] >>= _) _ _ _
  refine wpAny_bind ?_
  simp only [newExc, newTuple]
  refine wpAny_bind (wpAny_newObj_type ?_ (by size_fits))
  refine wpAny_bind (m := firstArgMember _ _) (wpAny_of_eq (a := Value.none) (by first | rfl | (simp only [firstArgMember]; rfl)) ?_)
  refine wpAny_newObj_type ?_ (by size_fits)
  simp only [raiseNew]
  refine wpAny_bind (wpAny_handled ?_)
  first | rw [show A.in1.handled = none from hh] | rw [hh]
  refine wpAny_bind (wpAny_pure (wpAny_throw ?_))
  exact hE _ _ (((Heap.SameBut.update ..).extBut.push _).push _) ⟨_, Heap.get?_push_size _ rfl, rfl⟩
theorem zipN_item {z TI TO i1 i2 l1 l2 : Addr} {x y a b : Value} {Q : Value → Shared → Prop} {S1 S2 : Nat → Heap → Prop} {k : Nat} (D : ZipApart z TI TO i1 i2 l1 l2)
    (hz : IsZip s.heap z TI TO .none) (hTI : IsPair s.heap TI (.ref i1) (.ref i2)) (hTO : IsPair s.heap TO a b)
    (k1 : ∀ n (h h' : Heap), S1 n h → (∀ o, h.get? i1 = some o → h'.get? i1 = some o) → (∀ o, h.get? l1 = some o → h'.get? l1 = some o) → S1 n h')
    (k2 : ∀ n (h h' : Heap), S2 n h → (∀ o, h.get? i2 = some o → h'.get? i2 = some o) → (∀ o, h.get? l2 = some o → h'.get? l2 = some o) → S2 n h')
    (g1 : ∀ n (h : Heap), S1 n h → i1 < h.objs.size) (g2 : ∀ n (h : Heap), S2 n h → i2 < h.objs.size)
    (n1 : ∀ (s : Shared) (A : Around) (Q : Value → Shared → Prop) (E : Value → Shared → Prop), S1 k s.heap → (∀ h', S1 (k + 1) h' → Heap.SameBut i1 s.heap h' → Q x { s with heap := h' }) → wpAny (model prog w) A (Builtin.SmallTypes.nextOf (.ref i1)) Q E s)
    (n2 : ∀ (s : Shared) (A : Around) (Q : Value → Shared → Prop) (E : Value → Shared → Prop), S2 k s.heap → (∀ h', S2 (k + 1) h' → Heap.SameBut i2 s.heap h' → Q y { s with heap := h' }) → wpAny (model prog w) A (Builtin.SmallTypes.nextOf (.ref i2)) Q E s)
    (h1 : S1 k s.heap) (h2 : S2 k s.heap)
    (hQ : ∀ h', IsZip h' z TI TO (rawInt s.heap.objs.size) → IsPair h' TO x y → S1 (k + 1) h' → S2 (k + 1) h' → IsPair h' s.heap.objs.size x y → h'.objs.size = s.heap.objs.size + 1 →
      (∀ c o, c ≠ z → c ≠ TO → c ≠ i1 → c ≠ i2 → s.heap.get? c = some o → h'.get? c = some o) → Q (.ref s.heap.objs.size) { s with heap := h' }) :
    wpAny (model prog w) A (Builtin.«zip.__next__» ⟨[.ref z], []⟩) (fun fin s' => ∃ v, fin = .done (.ret v) ∧ Q v s') E s := by
  show wpAny _ _ (field (.ref z) 2 >>= _) _ _ _
  refine wpAny_bind (wpAny_field hz rfl (x := .bool false) rfl ?_)
  show wpAny _ _ (field (.ref z) 3 >>= _) _ _ _
  refine wpAny_bind (wpAny_field hz rfl (x := .ref TI) rfl ?_)
  refine wpAny_bind (wpAny_seqItems hTI rfl ?_)
  show wpAny _ _ (Builtin.SmallTypes.ownedTupleIsFree (.ref z) >>= _) _ _ _
  refine wpAny_bind ?_
  unfold Builtin.SmallTypes.ownedTupleIsFree
  refine wpAny_bind (wpAny_field hz rfl (x := .none) rfl (wpAny_pure ?_))
  simp only [if_true]
  refine wpAny_bind (wpAny_rule ?_)
  refine wpAny_bind (wpAny_field hz rfl (x := .ref TO) rfl ?_)
  refine wpAny_bind (wpAny_setField_rec hz (by simp) fun h₁ hz₁ hs₁ => ?_)
  replace hz₁ : IsZip h₁ z TI TO .ellipsis := hz₁
  refine wpAny_bind ?_
  simp only [List.zipIdx_cons, List.zipIdx_nil, List.forIn_cons, List.forIn_nil]
  refine wpAny_bind (wpAny_bind (wpAny_onRaise ?_))
  show wpAny _ _ (Builtin.SmallTypes.nextOf (.ref i1) >>= _) _ _ _
  have q1 : S1 k h₁ := k1 _ _ _ h1 (fun o e => hs₁.extBut _ _ D.i1z e) (fun o e => hs₁.extBut _ _ D.l1z e)
  have q2 : S2 k h₁ := k2 _ _ _ h2 (fun o e => hs₁.extBut _ _ D.i2z e) (fun o e => hs₁.extBut _ _ D.l2z e)
  refine wpAny_bind (n1 _ _ _ _ q1 fun h₂ h1₂ hs₂ => wpAny_pure ?_)
  have hTO₂ : IsPair h₂ TO a b := hs₂.extBut _ _ D.TOi1 (hs₁.extBut _ _ D.TOz hTO)
  refine wpAny_bind (wpAny_seqItems hTO₂ rfl ?_)
  refine wpAny_bind (wpAny_updateSeq_pair hTO₂ fun h₃ hTO₃ hs₃ => ?_)
  replace hTO₃ : IsPair h₃ TO x b := hTO₃
  refine wpAny_bind (wpAny_letGo (wpAny_pure ?_))
  refine wpAny_bind (wpAny_bind (wpAny_onRaise ?_))
  show wpAny _ _ (Builtin.SmallTypes.nextOf (.ref i2) >>= _) _ _ _
  have q2' : S2 k h₃ := k2 _ _ _ (k2 _ _ _ q2 (fun o e => hs₂.extBut _ _ D.i12.symm e) (fun o e => hs₂.extBut _ _ D.l2i1 e)) (fun o e => hs₃.extBut _ _ D.TOi2.symm e) (fun o e => hs₃.extBut _ _ D.l2TO e)
  refine wpAny_bind (n2 _ _ _ _ q2' fun h₄ h2₄ hs₄ => wpAny_pure ?_)
  have hTO₄ : IsPair h₄ TO x b := hs₄.extBut _ _ D.TOi2 hTO₃
  refine wpAny_bind (wpAny_seqItems hTO₄ rfl ?_)
  refine wpAny_bind (wpAny_updateSeq_pair hTO₄ fun h₅ hTO₅ hs₅ => ?_)
  replace hTO₅ : IsPair h₅ TO x y := hTO₅
  refine wpAny_bind (wpAny_letGo (wpAny_pure (wpAny_pure ?_)))
  refine wpAny_bind (wpAny_seqItems hTO₅ rfl ?_)
  refine wpAny_bind (wpAny_newTuple ?_)
  have hsz : h₅.objs.size = s.heap.objs.size := by rw [hs₅.1, hs₄.1, hs₃.1, hs₂.1, hs₁.1]
  have hz₅ : IsZip h₅ z TI TO .ellipsis := hs₅.extBut _ _ D.TOz.symm (hs₄.extBut _ _ D.i2z.symm (hs₃.extBut _ _ D.TOz.symm (hs₂.extBut _ _ D.i1z.symm hz₁)))
  have hk₅ : ∀ c o, c ≠ z → c ≠ TO → c ≠ i1 → c ≠ i2 → s.heap.get? c = some o → h₅.get? c = some o := fun c o c1 c2 c3 c4 e =>
    hs₅.extBut _ _ c2 (hs₄.extBut _ _ c4 (hs₃.extBut _ _ c2 (hs₂.extBut _ _ c3 (hs₁.extBut _ _ c1 e))))
  have h1₅ : S1 (k + 1) h₅ := k1 _ _ _ (k1 _ _ _ (k1 _ _ _ h1₂ (fun o e => hs₃.extBut _ _ D.TOi1.symm e) (fun o e => hs₃.extBut _ _ D.l1TO e)) (fun o e => hs₄.extBut _ _ D.i12 e) (fun o e => hs₄.extBut _ _ D.l1i2 e)) (fun o e => hs₅.extBut _ _ D.TOi1.symm e) (fun o e => hs₅.extBut _ _ D.l1TO e)
  have h2₅ : S2 (k + 1) h₅ := k2 _ _ _ h2₄ (fun o e => hs₅.extBut _ _ D.TOi2.symm e) (fun o e => hs₅.extBut _ _ D.l2TO e)
  have hzlt : z < h₅.objs.size := Heap.lt_size hz₅
  show wpAny _ _ (Builtin.SmallTypes.ownedTupleHandOut (.ref z) (.ref h₅.objs.size) >>= _) _ _ _
  refine wpAny_bind ?_
  unfold Builtin.SmallTypes.ownedTupleHandOut
  have hz₆ : IsZip (h₅.push { cls := .type "tuple", data := .seq #[x, y] }) z TI TO .ellipsis := Heap.get?_push_of_some _ hz₅
  refine wpAny_bind (wpAny_setField_rec hz₆ (by simp) fun h₇ hz₇ hs₇ => ?_)
  replace hz₇ : IsZip h₇ z TI TO (rawInt h₅.objs.size) := hz₇
  refine wpAny_setField_rec hz₇ (by simp) fun h₈ hz₈ hs₈ => ?_
  replace hz₈ : IsZip h₈ z TI TO (rawInt h₅.objs.size) := hz₈
  have up : ∀ c o, c ≠ z → h₅.get? c = some o → h₈.get? c = some o := fun c o c1 e => hs₈.extBut _ _ c1 (hs₇.extBut _ _ c1 (Heap.get?_push_of_some _ e))
  have hT₈ : IsPair h₈ h₅.objs.size x y := hs₈.extBut _ _ (Nat.ne_of_gt hzlt) (hs₇.extBut _ _ (Nat.ne_of_gt hzlt) (Heap.get?_push_size _ rfl))
  have hz8 : h₈.objs.size = h₅.objs.size + 1 := by rw [hs₈.1, hs₇.1, Heap.size_push]
  rw [hsz] at hz₈ hT₈ hz8
  refine wpAny_pure ⟨_, rfl, ?_⟩
  show Q (.ref h₅.objs.size) _
  rw [hsz]
  exact hQ h₈ hz₈ (up _ _ D.TOz hTO₅) (k1 _ _ _ h1₅ (fun o e => up _ o D.i1z e) (fun o e => up _ o D.l1z e)) (k2 _ _ _ h2₅ (fun o e => up _ o D.i2z e) (fun o e => up _ o D.l2z e)) hT₈ hz8 fun c o c1 c2 c3 c4 e => up c o c1 (hk₅ c o c1 c2 c3 c4 e)
theorem zipN_end {z TI TO i1 i2 l1 l2 : Addr} {a b : Value} {Q : Fin → Shared → Prop} {S1 S2 : Nat → Heap → Prop} {k : Nat} (D : ZipApart z TI TO i1 i2 l1 l2)
    (hz : IsZip s.heap z TI TO .none) (hTI : IsPair s.heap TI (.ref i1) (.ref i2)) (hTO : IsPair s.heap TO a b)
    (k1 : ∀ n (h h' : Heap), S1 n h → (∀ o, h.get? i1 = some o → h'.get? i1 = some o) → (∀ o, h.get? l1 = some o → h'.get? l1 = some o) → S1 n h')
    (k2 : ∀ n (h h' : Heap), S2 n h → (∀ o, h.get? i2 = some o → h'.get? i2 = some o) → (∀ o, h.get? l2 = some o → h'.get? l2 = some o) → S2 n h')
    (hend : (∀ (s : Shared) (Q : Value → Shared → Prop) (E : Value → Shared → Prop), S1 k s.heap → (∀ h' e, Heap.ExtBut i1 s.heap h' → (∃ o, h'.get? e = some o ∧ o.cls = .type "StopIteration") → E (.ref e) { s with heap := h' }) → wpAny (model prog w) A.in1 (Builtin.SmallTypes.nextOf (.ref i1)) Q E s) ∨
      ((∃ x, ∀ (s : Shared) (Q : Value → Shared → Prop) (E : Value → Shared → Prop), S1 k s.heap → (∀ h', S1 (k + 1) h' → Heap.SameBut i1 s.heap h' → Q x { s with heap := h' }) → wpAny (model prog w) A.in1 (Builtin.SmallTypes.nextOf (.ref i1)) Q E s) ∧
        ∀ (s : Shared) (Q : Value → Shared → Prop) (E : Value → Shared → Prop), S2 k s.heap → (∀ h' e, Heap.ExtBut i2 s.heap h' → (∃ o, h'.get? e = some o ∧ o.cls = .type "StopIteration") → E (.ref e) { s with heap := h' }) → wpAny (model prog w) A.in1 (Builtin.SmallTypes.nextOf (.ref i2)) Q E s))
    (h1 : S1 k s.heap) (h2 : S2 k s.heap)
    (hE : ∀ h' e, (∀ c o, c ≠ z → c ≠ TO → c ≠ i1 → c ≠ i2 → s.heap.get? c = some o → h'.get? c = some o) → (∃ o, h'.get? e = some o ∧ o.cls = .type "StopIteration") → E (.ref e) { s with heap := h' }) :
    wpAny (model prog w) A.in1 (Builtin.«zip.__next__» ⟨[.ref z], []⟩) Q E s := by
  show wpAny _ _ (field (.ref z) 2 >>= _) _ _ _
  refine wpAny_bind (wpAny_field hz rfl (x := .bool false) rfl ?_)
  show wpAny _ _ (field (.ref z) 3 >>= _) _ _ _
  refine wpAny_bind (wpAny_field hz rfl (x := .ref TI) rfl ?_)
  refine wpAny_bind (wpAny_seqItems hTI rfl ?_)
  show wpAny _ _ (Builtin.SmallTypes.ownedTupleIsFree (.ref z) >>= _) _ _ _
  refine wpAny_bind ?_
  unfold Builtin.SmallTypes.ownedTupleIsFree
  refine wpAny_bind (wpAny_field hz rfl (x := .none) rfl (wpAny_pure ?_))
  simp only [if_true]
  refine wpAny_bind (wpAny_rule ?_)
  refine wpAny_bind (wpAny_field hz rfl (x := .ref TO) rfl ?_)
  refine wpAny_bind (wpAny_setField_rec hz (by simp) fun h₁ hz₁ hs₁ => ?_)
  replace hz₁ : IsZip h₁ z TI TO .ellipsis := hz₁
  refine wpAny_bind ?_
  simp only [List.zipIdx_cons, List.zipIdx_nil, List.forIn_cons, List.forIn_nil]
  refine wpAny_bind (wpAny_bind (wpAny_onRaise ?_))
  show wpAny _ _ (Builtin.SmallTypes.nextOf (.ref i1) >>= _) _ _ _
  have q1 : S1 k h₁ := k1 _ _ _ h1 (fun o e => hs₁.extBut _ _ D.i1z e) (fun o e => hs₁.extBut _ _ D.l1z e)
  have q2 : S2 k h₁ := k2 _ _ _ h2 (fun o e => hs₁.extBut _ _ D.i2z e) (fun o e => hs₁.extBut _ _ D.l2z e)
  rcases hend with n1 | ⟨⟨x, n1⟩, n2⟩
  · refine wpAny_bind (n1 _ _ _ q1 fun h₂ e hs₂ he => ?_)
    obtain ⟨oe, hoe, hce⟩ := he
    have hz₂ : IsZip h₂ z TI TO .ellipsis := hs₂ _ _ D.i1z.symm hz₁
    have hez : e ≠ z := fun x => by subst x; rw [hz₂] at hoe; cases hoe; simp at hce
    refine wpAny_setField_rec hz₂ (by simp) fun h₃ _ hs₃ => hE h₃ e (fun c o c1 _ c3 _ x => hs₃.extBut _ _ c1 (hs₂ _ _ c3 (hs₁.extBut _ _ c1 x))) ⟨oe, hs₃.extBut _ _ hez hoe, hce⟩
  · refine wpAny_bind (n1 _ _ _ q1 fun h₂ h1₂ hs₂ => wpAny_pure ?_)
    have hTO₂ : IsPair h₂ TO a b := hs₂.extBut _ _ D.TOi1 (hs₁.extBut _ _ D.TOz hTO)
    refine wpAny_bind (wpAny_seqItems hTO₂ rfl ?_)
    refine wpAny_bind (wpAny_updateSeq_pair hTO₂ fun h₃ hTO₃ hs₃ => ?_)
    refine wpAny_bind (wpAny_letGo (wpAny_pure ?_))
    refine wpAny_bind (wpAny_bind (wpAny_onRaise ?_))
    show wpAny _ _ (Builtin.SmallTypes.nextOf (.ref i2) >>= _) _ _ _
    have q2' : S2 k h₃ := k2 _ _ _ (k2 _ _ _ q2 (fun o e => hs₂.extBut _ _ D.i12.symm e) (fun o e => hs₂.extBut _ _ D.l2i1 e)) (fun o e => hs₃.extBut _ _ D.TOi2.symm e) (fun o e => hs₃.extBut _ _ D.l2TO e)
    refine wpAny_bind (n2 _ _ _ q2' fun h₄ e hs₄ he => ?_)
    obtain ⟨oe, hoe, hce⟩ := he
    have hz₄ : IsZip h₄ z TI TO .ellipsis := hs₄ _ _ D.i2z.symm (hs₃.extBut _ _ D.TOz.symm (hs₂.extBut _ _ D.i1z.symm hz₁))
    have hez : e ≠ z := fun x => by subst x; rw [hz₄] at hoe; cases hoe; simp at hce
    refine wpAny_setField_rec hz₄ (by simp) fun h₅ _ hs₅ => hE h₅ e (fun c o c1 c2 c3 c4 x => hs₅.extBut _ _ c1 (hs₄ _ _ c4 (hs₃.extBut _ _ c2 (hs₂.extBut _ _ c3 (hs₁.extBut _ _ c1 x))))) ⟨oe, hs₅.extBut _ _ hez hoe, hce⟩
def TupIt (l : Addr) (it : Addr) (items : Array Value) (n : Nat) (h : Heap) : Prop := h.IsTupleIter it l n ∧ h.IsTuple l items
theorem TupIt.keep {l it : Addr} {items : Array Value} (n : Nat) (h h' : Heap) (x : TupIt l it items n h) (a : ∀ o, h.get? it = some o → h'.get? it = some o) (b : ∀ o, h.get? l = some o → h'.get? l = some o) : TupIt l it items n h' :=
  ⟨x.1.at a, by obtain ⟨o, e, r⟩ := x.2; exact ⟨o, b _ e, r⟩⟩
theorem zipT_next {z TI TO i1 i2 l1 l2 : Addr} {k : Nat} {xs ys : Array Value} {x y a b : Value} {Q : Option Value → Shared → Prop} (D : ZipApart z TI TO i1 i2 l1 l2)
    (hz : IsZip s.heap z TI TO .none) (hTI : IsPair s.heap TI (.ref i1) (.ref i2)) (hTO : IsPair s.heap TO a b)
    (h1 : s.heap.IsTupleIter i1 l1 k) (h2 : s.heap.IsTupleIter i2 l2 k) (hl1 : s.heap.IsTuple l1 xs) (hl2 : s.heap.IsTuple l2 ys) (hx : xs[k]? = some x) (hy : ys[k]? = some y)
    (hQ : ∀ h', IsZip h' z TI TO (rawInt s.heap.objs.size) → IsPair h' TO x y → h'.IsTupleIter i1 l1 (k + 1) → h'.IsTupleIter i2 l2 (k + 1) → IsPair h' s.heap.objs.size x y → h'.objs.size = s.heap.objs.size + 1 →
      (∀ c o, c ≠ z → c ≠ TO → c ≠ i1 → c ≠ i2 → s.heap.get? c = some o → h'.get? c = some o) → Q (some (.ref s.heap.objs.size)) { s with heap := h' }) :
    wpAny (model prog w) A (pyNext (.ref z)) Q E s := by
  have hT : s.TypeIs (.ref z) "zip" := ⟨_, hz, rfl⟩
  unfold pyNext
  refine wpAny_bind (wpAny_attempt (wpAny_callSpecial?_slot (name := Str.ofString "__next__") hT F.slot_zip_next
    (wpAny_call_entry F.slot_zip_next hT F.entry_zip_next
      (zipN_item (S1 := TupIt l1 i1 xs) (S2 := TupIt l2 i2 ys) D hz hTI hTO TupIt.keep TupIt.keep (fun n h x => by obtain ⟨_, e, _⟩ := x.1; exact Heap.lt_size e) (fun n h x => by obtain ⟨_, e, _⟩ := x.1; exact Heap.lt_size e)
        (fun s A Q E st q => nextT_item st.1 st.2 hx fun h' a1 a2 => q h' ⟨a1, st.2.extBut a2.extBut (?ne1 : l1 ≠ i1)⟩ a2) (fun s A Q E st q => nextT_item st.1 st.2 hy fun h' a1 a2 => q h' ⟨a1, st.2.extBut a2.extBut (?ne2 : l2 ≠ i2)⟩ a2) ⟨h1, hl1⟩ ⟨h2, hl2⟩
        fun h' a1 a2 a3 a4 a5 a6 a7 => wpAny_pure (hQ h' a1 a2 a3.1 a4.1 a5 a6 a7)) (F.args_zip_next_1 _))))
  exact D.l1i1
  exact D.l2i2
theorem zipT_end {z TI TO i1 i2 l1 l2 : Addr} {k : Nat} {xs ys : Array Value} {a b : Value} {Q : Option Value → Shared → Prop} (hh : A.handled = none) (D : ZipApart z TI TO i1 i2 l1 l2)
    (hz : IsZip s.heap z TI TO .none) (hTI : IsPair s.heap TI (.ref i1) (.ref i2)) (hTO : IsPair s.heap TO a b)
    (h1 : s.heap.IsTupleIter i1 l1 k) (h2 : s.heap.IsTupleIter i2 l2 k) (hl1 : s.heap.IsTuple l1 xs) (hl2 : s.heap.IsTuple l2 ys) (hend : xs[k]? = none ∨ ys[k]? = none)
    (hQ : ∀ h', (∀ c o, c ≠ z → c ≠ TO → c ≠ i1 → c ≠ i2 → s.heap.get? c = some o → h'.get? c = some o) → Q none { s with heap := h' }) : wpAny (model prog w) A (pyNext (.ref z)) Q E s := by
  have hT : s.TypeIs (.ref z) "zip" := ⟨_, hz, rfl⟩
  have hi : A.in1.handled = none := hh
  unfold pyNext
  refine wpAny_bind (wpAny_attempt (wpAny_callSpecial?_slot (name := Str.ofString "__next__") hT F.slot_zip_next
    (wpAny_call_entry F.slot_zip_next hT F.entry_zip_next (zipN_end (S1 := TupIt l1 i1 xs) (S2 := TupIt l2 i2 ys) D hz hTI hTO TupIt.keep TupIt.keep ?_ ⟨h1, hl1⟩ ⟨h2, hl2⟩ fun h' e hk he => ?_) (F.args_zip_next_1 _))))
  · cases hx : xs[k]? with
    | none => exact .inl fun s Q E st q => nextT_end hi st.1 st.2 hx q
    | some x =>
      have hy : ys[k]? = none := by rcases hend with h | h; rw [hx] at h; cases h; exact h
      exact .inr ⟨⟨x, fun s Q E st q => nextT_item st.1 st.2 hx fun h' a1 a2 => q h' ⟨a1, st.2.extBut a2.extBut D.l1i1⟩ a2⟩, fun s Q E st q => nextT_end hi st.1 st.2 hy q⟩
  · obtain ⟨o, ho, hc⟩ := he
    refine wpAny_bind (wpAny_isInstance (T := "StopIteration") (b := true) ⟨o, ho, hc⟩ isSubtype_stop ?_)
    exact wpAny_pure (hQ _ hk)
end
end L2
set_option Elab.async false
set_option linter.all false
set_option maxRecDepth 100000
namespace L2
open PySem PySem.Spec PyProof.Rows
abbrev zt1 (h : Heap) (l1 : Addr) : Heap := h.push { cls := .type "tuple_iterator", data := .fields #[.ref l1, .int 0 0] }
abbrev zt2 (h : Heap) (l1 l2 : Addr) : Heap := (zt1 h l1).push { cls := .type "tuple_iterator", data := .fields #[.ref l2, .int 0 0] }
abbrev zt3 (h : Heap) (l1 l2 : Addr) : Heap := (zt2 h l1 l2).push { cls := .type "tuple", data := .seq #[.ref h.objs.size, .ref (zt1 h l1).objs.size] }
abbrev zt4 (h : Heap) (l1 l2 : Addr) : Heap := (zt3 h l1 l2).push { cls := .type "tuple", data := .seq #[.none, .none] }
abbrev zt5 (h : Heap) (l1 l2 : Addr) : Heap := (zt4 h l1 l2).push { cls := .type "zip", data := .fields #[.none, .bool false, .bool false, .ref (zt2 h l1 l2).objs.size, .ref (zt3 h l1 l2).objs.size] }
theorem meets_zipT (l1 l2 : Addr) (xs ys : Array Value) :
    Meets (Builtin.«zip.__new__» ⟨[.type "zip", .ref l1, .ref l2], []⟩) (fun _ R s => s.heap.IsTuple l1 xs ∧ s.heap.IsTuple l2 ys ∧ R (.ok (.ret (.ref (zt4 s.heap l1 l2).objs.size))) { s with heap := zt5 s.heap l1 l2 }) :=
  .of_wp fun prog w A R s h => by
    obtain ⟨hp, g, d, tk, os⟩ := s; obtain ⟨hl1, hl2, h⟩ := h
    have hsub := sub_zip
    have hL1 : Heap.IsTuple (Shared.heap ⟨hp, g, d, tk, os⟩) l1 xs := hl1
    have hL2 : Heap.IsTuple (Shared.heap ⟨hp.push { cls := .type "tuple_iterator", data := .fields #[.ref l1, .int 0 0] }, g, d, tk, os⟩) l2 ys := Heap.IsTuple.push hl2 _
    wp_walk using wpAny_pyIter_tuple hL1, wpAny_pyIter_tuple hL2
    exact ⟨_, rfl, h⟩
section
variable {prog : Program} {w : World} {A : Around} {E : Value → Shared → Prop} {s : Shared}
theorem call_zipT {l1 l2 : Addr} {xs ys : Array Value} {Q : Value → Shared → Prop} (hl1 : s.heap.IsTuple l1 xs) (hl2 : s.heap.IsTuple l2 ys)
    (h : ∀ h', IsZip h' (s.heap.objs.size + 4) (s.heap.objs.size + 2) (s.heap.objs.size + 3) .none → IsPair h' (s.heap.objs.size + 2) (.ref s.heap.objs.size) (.ref (s.heap.objs.size + 1)) →
      IsPair h' (s.heap.objs.size + 3) .none .none → h'.IsTupleIter s.heap.objs.size l1 0 → h'.IsTupleIter (s.heap.objs.size + 1) l2 0 → h'.objs.size = s.heap.objs.size + 5 →
      (∀ c o, s.heap.get? c = some o → h'.get? c = some o) → Q (.ref (s.heap.objs.size + 4)) { s with heap := h' }) :
    wpAny (model prog w) A (call (.type "zip") [.ref l1, .ref l2]) Q E s := by
  refine callType_new F.called_zip (by decide) (F.typeCall_zip_2 _ _) (F.newCall_zip_2 _ _) (fun obj => F.args_object_init_3 obj _ _) F.entry_zip_new
    (meets_zipT l1 l2 xs ys) ⟨hl1, hl2, ?_⟩
  have z1 : (zt1 s.heap l1).objs.size = s.heap.objs.size + 1 := Heap.size_push ..
  have z2 : (zt2 s.heap l1 l2).objs.size = s.heap.objs.size + 2 := by rw [Heap.size_push, z1]
  have z3 : (zt3 s.heap l1 l2).objs.size = s.heap.objs.size + 3 := by rw [Heap.size_push, z2]
  have z4 : (zt4 s.heap l1 l2).objs.size = s.heap.objs.size + 4 := by rw [Heap.size_push, z3]
  have z5 : (zt5 s.heap l1 l2).objs.size = s.heap.objs.size + 5 := by rw [Heap.size_push, z4]
  have g5 : (zt5 s.heap l1 l2).get? (zt4 s.heap l1 l2).objs.size = some _ := Heap.get?_push_size _ rfl
  have g4 : (zt5 s.heap l1 l2).get? (zt3 s.heap l1 l2).objs.size = some _ := Heap.get?_push_of_some _ (Heap.get?_push_size _ rfl)
  have g3 : (zt5 s.heap l1 l2).get? (zt2 s.heap l1 l2).objs.size = some _ := Heap.get?_push_of_some _ (Heap.get?_push_of_some _ (Heap.get?_push_size _ rfl))
  have g2 : (zt5 s.heap l1 l2).get? (zt1 s.heap l1).objs.size = some _ := Heap.get?_push_of_some _ (Heap.get?_push_of_some _ (Heap.get?_push_of_some _ (Heap.get?_push_size _ rfl)))
  have g1 : (zt5 s.heap l1 l2).get? s.heap.objs.size = some _ := Heap.get?_push_of_some _ (Heap.get?_push_of_some _ (Heap.get?_push_of_some _ (Heap.get?_push_of_some _ (Heap.get?_push_size _ rfl))))
  show _ ∧ _
  rw [z2, z3, z4] at g5
  rw [z1, z2] at g3
  rw [z3] at g4
  rw [z1] at g2
  rw [z4]
  exact ⟨⟨_, g5, rfl⟩, h _ g5 g3 g4 ⟨_, g1, rfl, rfl⟩ ⟨_, g2, rfl, rfl⟩ z5 fun c o x =>
    Heap.get?_push_of_some _ (Heap.get?_push_of_some _ (Heap.get?_push_of_some _ (Heap.get?_push_of_some _ (Heap.get?_push_of_some _ x))))⟩
end
def ItzT (K : PySem.W.Frag) (a b : Addr) : It :=
  ⟨fun i H => ∃ xs ys x y, SqT K H a xs ∧ SqT K H b ys ∧ xs[i]? = some x ∧ ys[i]? = some y,
   fun i H v H' => ∃ p x y, v = .ref p ∧ H p = none ∧ H' = upd H p (.tup [x, y]) ∧ (∀ xs, SqT K H a xs → xs[i]? = some x) ∧ ∀ ys, SqT K H b ys → ys[i]? = some y,
   fun i H => ∃ xs ys, SqT K H a xs ∧ SqT K H b ys ∧ (xs.length ≤ i ∨ ys.length ≤ i)⟩
theorem turn_zipT {P : Program} {w : World} {K : PySem.W.Frag} {elts : List Expr} {cx} {pos : Pos} {z TI TO i1 i2 l1 l2 : Addr} (D : ZipApart z TI TO i1 i2 l1 l2) :
    Turn P w K (.Tuple elts cx pos) (ItzT K l1 l2) [z, TI, TO, i1, i2] z (fun i h => IsZip h z TI TO .none ∧ IsPair h TI (.ref i1) (.ref i2) ∧ (∃ a b, IsPair h TO a b) ∧ h.IsTupleIter i1 l1 i ∧ h.IsTupleIter i2 l2 i) where
  mem := by simp
  obj := fun i h st b hb => by
    obtain ⟨hz, hTI, ⟨a, c, hTO⟩, ⟨o1, g1, c1, d1⟩, ⟨o2, g2, c2, d2⟩⟩ := st
    simp only [List.mem_cons, List.not_mem_nil, or_false] at hb
    rcases hb with rfl | rfl | rfl | rfl | rfl
    · exact ⟨_, hz, fun v e => by cases e⟩
    · exact ⟨_, hTI, fun v e => by cases e⟩
    · exact ⟨_, hTO, fun v e => by cases e⟩
    · exact ⟨_, g1, fun v e => by rw [d1] at e; cases e⟩
    · exact ⟨_, g2, fun v e => by rw [d2] at e; cases e⟩
  keep := fun i h h' st k => by
    obtain ⟨hz, hTI, ⟨a, c, hTO⟩, h1, h2⟩ := st
    exact ⟨k z (by simp) _ hz, k TI (by simp) _ hTI, ⟨a, c, k TO (by simp) _ hTO⟩, h1.at fun o e => k i1 (by simp) o e, h2.at fun o e => k i2 (by simp) o e⟩
  item := by
    intro X hP hw hK hc i pins s σ H E I hf st hg
    subst hP hw hK
    obtain ⟨hz, hTI, ⟨a, c, hTO⟩, h1, h2⟩ := st
    obtain ⟨xs, ys, x, y, q1, q2, hx, hy⟩ := hg
    obtain ⟨us, r1, p1, _⟩ := I.tuple q1
    obtain ⟨vs, r2, p2, _⟩ := I.tuple q2
    obtain ⟨u, hu, ru⟩ := r1.get hx
    obtain ⟨v, hv, rv⟩ := r2.get hy
    have lt : ∀ b ∈ [z, TI, TO, i1, i2], b < s.heap.objs.size := fun b hb => by
      obtain ⟨o1, g1, _, _⟩ := id h1
      obtain ⟨o2, g2, _, _⟩ := id h2
      simp only [List.mem_cons, List.not_mem_nil, or_false] at hb
      rcases hb with rfl | rfl | rfl | rfl | rfl
      · exact Heap.lt_size hz
      · exact Heap.lt_size hTI
      · exact Heap.lt_size hTO
      · exact Heap.lt_size g1
      · exact Heap.lt_size g2
    refine zipT_next D hz hTI hTO h1 h2 (show s.heap.IsTuple l1 us.toArray from p1) (show s.heap.IsTuple l2 vs.toArray from p2) (x := u) (y := v) (by simpa using hu) (by simpa using hv) fun h' hz' hTO' h1' h2' hT hsz hk => ?_
    refine ⟨_, rfl, wpAny_letOwnedTupleGo_zip (s := { s with heap := h' }) hz' fun h3 hz3 sb => ?_⟩
    have hfr : H s.heap.objs.size = none := I.hok.fresh (Nat.le_refl _)
    have up : ∀ b o, b ≠ z → h'.get? b = some o → h3.get? b = some o := fun b o hb e => (sb.2 b hb).trans e
    have IA : Inv X pins σ (upd H s.heap.objs.size (.tup [x, y])) { s with heap := s.heap.push { cls := .type "tuple", data := .seq #[u, v] }, toks := s.toks } :=
      I.laid (fun b o e => Heap.get?_push_of_some _ e) (Nat.le_refl _) ⟨by simp only [List.length_cons, List.length_nil, sizeLine]; omega, [u, v], .cons ru (.cons rv .nil), ⟨_, Heap.get?_push_size _ rfl, rfl, _, rfl⟩⟩
    have IB : Inv X pins σ (upd H s.heap.objs.size (.tup [x, y])) { s with heap := h3 } := by
      refine Inv.turnedL (s := { s with heap := s.heap.push { cls := .type "tuple", data := .seq #[u, v] }, toks := s.toks }) (h' := h3) (t' := s.toks) (fp := [z, TI, TO, i1, i2]) IA (fun b o hb e => ?_) (fun b hb => ?_)
      · simp only [List.mem_cons, List.not_mem_nil, or_false, not_or] at hb
        obtain ⟨b1, b2, b3, b4, b5⟩ := hb
        refine up b o b1 ?_
        by_cases eb : b = s.heap.objs.size
        · subst eb
          have e' : (s.heap.push { cls := .type "tuple", data := .seq #[u, v] }).get? s.heap.objs.size = some { cls := .type "tuple", data := .seq #[u, v] } := Heap.get?_push_size _ rfl
          rw [e'] at e
          cases e
          exact hT
        · have e0 : (s.heap.push { cls := .type "tuple", data := .seq #[u, v] }).get? b = s.heap.get? b := Heap.get?_push_ne _ _ _ eb
          have e1 : s.heap.get? b = some o := e0 ▸ e
          exact hk b o b1 b3 b4 b5 e1
      · obtain ⟨f0, f1⟩ := hf b hb
        exact ⟨by rw [upd_ne (fun e => absurd (lt b hb) (by rw [e]; exact Nat.lt_irrefl _))]; exact f0, f1⟩
    refine ⟨.ref s.heap.objs.size, _, IB, rfl, ⟨_, x, y, rfl, hfr, rfl, fun xs' h => by rw [I.tuple_inj h q1]; exact hx, fun ys' h => by rw [I.tuple_inj h q2]; exact hy⟩, ⟨hz3, up _ _ D.TIz (hk TI _ D.TIz D.TITO D.TIi1 D.TIi2 hTI), ⟨_, _, up _ _ D.TOz hTO'⟩, h1'.at fun o e => up i1 o D.i1z e, h2'.at fun o e => up i2 o D.i2z e⟩, fun b hb => ?_⟩
    rw [upd_ne (fun e => absurd (lt b hb) (by rw [e]; exact Nat.lt_irrefl _))]
    exact (hf b hb).1
  done := by
    intro X hP hw hK hc i pins s σ H E I hf st hg
    subst hP hw hK
    obtain ⟨hz, hTI, ⟨a, c, hTO⟩, h1, h2⟩ := st
    obtain ⟨xs, ys, q1, q2, he⟩ := hg
    obtain ⟨us, r1, p1, _⟩ := I.tuple q1
    obtain ⟨vs, r2, p2, _⟩ := I.tuple q2
    have l1 := r1.length
    have l2 := r2.length
    refine zipT_end (I.ok.hd hc) D hz hTI hTO h1 h2 (show s.heap.IsTuple _ us.toArray from p1) (show s.heap.IsTuple _ vs.toArray from p2) (he.imp (fun h => by simp; omega) (fun h => by simp; omega)) fun h' hk => ⟨rfl, ?_⟩
    refine Inv.turnedL (t' := s.toks) (fp := [z, TI, TO, i1, i2]) I (fun b o hb e => ?_) hf
    simp only [List.mem_cons, List.not_mem_nil, or_false, not_or] at hb
    exact hk b o hb.1 hb.2.2.1 hb.2.2.2.1 hb.2.2.2.2 e
  self := fun _ _ _ _ _ st h => wpAny_pyIter_zip st.1 h
def iZipT (K : PySem.W.Frag) (ta : TA) : TI := fun σ H R => ta σ H fun vs H1 => ∃ a b xs ys, vs = [.ref a, .ref b] ∧ SqT K H1 a xs ∧ SqT K H1 b ys ∧ R (ItzT K a b) H1
section
variable {X : Cx}
theorem pi_zipT {elts : List Expr} {cx} {tp : Pos} {a b : Expr} {ta : TA} {p pos : Pos} (hg : Gl X "zip") (hm : X.mg "zip" = none) (ha : PA X [a, b] ta) (hs : starEach [a, b] X.env = [(false, eval a X.env), (false, eval b X.env)] := by rfl) (hs2 : starEach [b] X.env = [(false, eval b X.env)] := by rfl) :
    PI X (.Tuple elts cx tp) (.Call (.Name "zip" p) [a, b] [] pos) (iZipT X.K ta) := by
  intro pins s σ H R I h
  refine Call_ (ld_blt I hg hm boot_zip (PyProof.Rows.callWith_type1 (thn (ha pos pins s σ H _ I h) fun us s1 ⟨vs, H1, I1, r1, q1⟩ => ?_) (by rw [hs, hs2]) (by rw [hs2]; rfl)))
  obtain ⟨l1, l2, xs, ys, e, g1, g2, q⟩ := q1
  subst e
  cases r1 with
  | cons r rr =>
    cases rr with
    | cons r' rr =>
      cases rr
      cases r
      cases r'
      obtain ⟨us, rv1, p1, _⟩ := I1.tuple g1
      obtain ⟨vs, rv2, p2, _⟩ := I1.tuple g2
      have k1 : l1 < s1.heap.objs.size := by obtain ⟨o, e, _⟩ := id p1; exact Heap.lt_size e
      have k2 : l2 < s1.heap.objs.size := by obtain ⟨o, e, _⟩ := id p2; exact Heap.lt_size e
      refine call_zipT (show s1.heap.IsTuple l1 us.toArray from p1) (show s1.heap.IsTuple l2 vs.toArray from p2) fun h' hz hTI hTO h1 h2 hsz hk => ?_
      refine wpAny_pyIter_zip hz ?_
      have D : ZipApart (s1.heap.objs.size + 4) (s1.heap.objs.size + 2) (s1.heap.objs.size + 3) s1.heap.objs.size (s1.heap.objs.size + 1) l1 l2 := zipApart_of k1 k2
      refine ⟨s1.heap.objs.size + 4, [s1.heap.objs.size + 4, s1.heap.objs.size + 2, s1.heap.objs.size + 3, s1.heap.objs.size, s1.heap.objs.size + 1], _, _, H1, rfl, I1.kept (t' := s1.toks) hk, turn_zipT D, ⟨hz, hTI, ⟨_, _, hTO⟩, h1, h2⟩, fun b hb => ?_, q⟩
      have hb' : s1.heap.objs.size ≤ b := by
        simp only [List.mem_cons, List.not_mem_nil, or_false] at hb
        rcases hb with rfl | rfl | rfl | rfl | rfl
        · exact Nat.le_add_right _ _
        · exact Nat.le_add_right _ _
        · exact Nat.le_add_right _ _
        · exact Nat.le_refl _
        · exact Nat.le_add_right _ _
      exact I1.fpOk hb' (I1.hok.fresh hb')
end
def compNs2 (x y : Str) (fr : List (Str × Nat)) : List Str := x :: y :: fr.map (·.1)
structure Blk2 (X : Cx) (scope : Scope) (x y : Str) (fr : List (Str × Nat)) : Prop where
  b : Blk X scope x fr
  here2 : scope.names.lookup y = some .local
  nd2 : (compNs2 x y fr).Nodup
section
variable {X : Cx} {scope : Scope} {x y : Str} {fr : List (Str × Nat)} {pins : List (Addr × Obj)} {σ : St} {H : Hp} {s : Shared}
theorem inv_comp2 (I : Inv X pins σ H s) (B2 : Blk2 X scope x y fr) {C : Addr} {fp : List Addr} {h₁ : Heap} {tk : Nat} (hC : s.heap.objs.size ≤ C) (hfp : ∀ b ∈ fp, FpOk X pins H b) (hlt : ∀ b ∈ fp, b < s.heap.objs.size)
    (old : ∀ b ob, s.heap.get? b = some ob → h₁.get? b = some ob) (hns : h₁.Ns C fun _ => none) : Inv (cxComp X scope (compNs2 x y fr) s H C fp) [] (none :: none :: compRest σ fr) H { s with heap := h₁, toks := tk } := by
  have I0 := inv_comp (tk := tk) (o := none) I B2.b hC hfp hlt old hns
  obtain ⟨ok, os, bare, base, loc, cell, free, freeC, pin, hok, len⟩ := I0
  refine ⟨⟨ok.mod, ok.kind, ok.glob, ok.blt, ok.above, ok.inj, ok.has, ok.cab, ok.hd, ok.frames, ok.stk, ok.exf, ok.bs, ok.bsz, ok.noex, ok.exfs, ok.funs, ok.frf⟩, os, bare, base, ?_, cell, free, freeC, pin, hok, ?_⟩
  · obtain ⟨m, hn, hl⟩ := loc
    refine ⟨m, hn, fun i z v h1 h2 h3 => ?_⟩
    cases i with
    | zero => simp at h2
    | succ i =>
      cases i with
      | zero => simp at h2
      | succ i =>
        refine hl (i + 1) z v ?_ ?_ h3
        · have e : (x :: y :: fr.map (·.1))[i + 1 + 1]? = some z := h1
          rw [List.getElem?_cons_succ, List.getElem?_cons_succ] at e
          show (x :: fr.map (·.1))[i + 1]? = some z
          rw [List.getElem?_cons_succ]
          exact e
        · have e : (none :: none :: compRest σ fr)[i + 1 + 1]? = some (some v) := h2
          rw [List.getElem?_cons_succ, List.getElem?_cons_succ] at e
          rw [List.getElem?_cons_succ]
          exact e
  · show _ = (compNs2 x y fr).length
    simp [compNs2, compRest]
def tLC2 (K : PySem.W.Frag) (fr : List (Str × Nat)) (wi : TI) (tc : TT) (te : TE) : TE := fun σ H Q => wi σ H fun J H1 => ∃ W : Nat → Nat → List V → Hp → Prop, (∃ m, W 0 m [] H1) ∧ ∀ i m ys H2, W i m ys H2 → ys.length < sizeLine ∧
  ((J.stop i H2 ∧ ∀ D, H2 D = none → Q (.ref D) (upd H2 D (.lst ys))) ∨
    (J.go i H2 ∧ ∀ v H3, J.yld i H2 v H3 → ∃ p v1 v2, v = .ref p ∧ SqT K H3 p [v1, v2] ∧ tc (some v1 :: some v2 :: compRest σ fr) H3 fun b H4 =>
      if b = true then te (some v1 :: some v2 :: compRest σ fr) H4 fun y H5 => ∃ m', m' < m ∧ W (i + 1) m' (ys ++ [y]) H5 else ∃ m', m' < m ∧ W (i + 1) m' ys H4))
end
section
variable {X : Cx}
theorem pe_lc2 {elt iter : Expr} {x y : Str} {px py tp : Pos} {kx : Nat} {ifs : List Expr} {scope : Scope} {pos : Pos} {fr : List (Str × Nat)} {wi : TI} {tc : TT} {te : TE} (hc : X.calm = true) (B2 : Blk2 X scope x y fr)
    (hi : PI X (.Tuple [.Name x px, .Name y py] kx tp) iter wi) (ht : ∀ s₂ H₂ C fp, PIf (cxComp X scope (compNs2 x y fr) s₂ H₂ C fp) ifs tc) (he : ∀ s₂ H₂ C fp, PE (cxComp X scope (compNs2 x y fr) s₂ H₂ C fp) elt te)
    (hs : ∀ v, foldedSetIterable iter X.env v = pure v := by intro _; rfl) : PE X (.ListComp elt [⟨.Tuple [.Name x px, .Name y py] kx tp, iter, ifs, 0⟩] scope pos) (tLC2 X.K fr wi tc te) := by
  intro pins s σ H Q I h
  have B := B2.b
  rw [eval_ListComp]
  have hclos := clo_eq (scope := scope) (env := X.env) (B.clos I.ok)
  refine wpAny_comprehension_free (use := none) rfl hs hclos B.kind B.loc (thn (hi pins s σ H _ I h) fun v s1 h1 => thn h1 fun itv s2 h2 => ?_)
  obtain ⟨it, fp, tn, J, H2, rfl, I2, T, st2, f2, W, ⟨m0, w0⟩, turn⟩ := h2
  refine wpAny_newObj_type (wpAny_newFunctionEnv B.cell (by intro y hy; simp at hy) (fun h₁ hns hsb => ?_) B.kind)
  dsimp only at hns hsb ⊢
  generalize hG : s2.heap.push { cls := .type "list", dict := none, data := .seq ([] : List Value).toArray } = G at hns hsb ⊢
  have hC : G.objs.size = s2.heap.objs.size + 1 := by rw [← hG, Heap.size_push]
  have hDC : s2.heap.objs.size ≠ G.objs.size := by omega
  have old : ∀ b ob, s2.heap.get? b = some ob → h₁.get? b = some ob := fun b ob e => by
    have hb := Heap.lt_size e
    refine hsb.extBut b ob (Nat.ne_of_lt (by rw [hC]; exact Nat.lt_succ_of_lt hb)) (Heap.get?_push_of_some _ ?_)
    rw [← hG]
    exact Heap.get?_push_of_some _ e
  have hacc : h₁.get? s2.heap.objs.size = some { cls := .type "list", data := .seq ([] : List Value).toArray 0 } := by
    refine hsb.extBut _ _ hDC (Heap.get?_push_of_some _ ?_)
    rw [← hG]
    exact Heap.get?_push_size _ rfl
  have hlt : ∀ b ∈ fp, b < s2.heap.objs.size := fun b hb => by
    obtain ⟨o, e, _⟩ := T.obj 0 _ st2 b hb
    exact Heap.lt_size e
  have I4 := inv_comp2 (tk := s2.toks + ([] : List (Str × Value)).length) I2 B2 (show s2.heap.objs.size ≤ G.objs.size by omega) f2 hlt old hns
  have tn4 : tn 0 h₁ := T.keep 0 _ _ st2 fun b _ o e => old b o e
  have Dfs : s2.heap.objs.size ∉ frs X.stack := fun z => by
    obtain ⟨_, o, ho, _⟩ := I2.stack.mem z
    exact absurd (Heap.lt_size ho) (Nat.lt_irrefl _)
  have Dcl : ∀ y c, X.env.cells.lookup y = some c → c ≠ s2.heap.objs.size := fun y c e => by
    obtain ⟨v, o, ho, _⟩ := I2.cell y c e
    exact Nat.ne_of_lt (Heap.lt_size ho)
  have DL : s2.heap.objs.size ≠ X.env.locals := Nat.ne_of_gt I2.lt
  have Dfp : s2.heap.objs.size ∉ fp := fun z => absurd (hlt _ z) (Nat.lt_irrefl _)
  have loop : ∀ s₃ : Shared, s₃ = { s2 with heap := h₁, toks := s2.toks + ([] : List (Str × Value)).length } →
      codeAny (model X.prog X.w) X.A (.compLoop (.ListComp elt [⟨.Tuple [.Name x px, .Name y py] kx tp, iter, ifs, 0⟩] scope pos) 0 (.ref it) (.ref s2.heap.objs.size) (compEnvC scope (cloOf X.env.cells scope.names []) G.objs.size X.env))
        (compPost (model X.prog X.w) X.A X.xe none (EP X pins σ Q) (.ref s2.heap.objs.size) G.objs.size) s₃ := by
    rintro s₃ rfl
    refine comp_loop
      (fun n s' => ∃ i o1 o2 H' ys its k, Inv (cxComp X scope (compNs2 x y fr) s2 H2 G.objs.size fp) [] (o1 :: o2 :: compRest σ fr) H' s' ∧ tn i s'.heap ∧ (∀ b ∈ fp, H' b = none) ∧ H' s2.heap.objs.size = none ∧
        s'.heap.get? s2.heap.objs.size = some { cls := .type "list", data := .seq (its : List Value).toArray k } ∧ Vals ys its ∧ W i n ys H') ?_ m0
      ⟨0, none, none, H2, [], [], 0, I4, tn4, fun b hb => (f2 b hb).1, I2.hok.fresh (Nat.le_refl _), hacc, .nil, w0⟩
    rintro n s5 ⟨i, o1, o2, H5, ys, its, k, I5, st5, fr5, D5, hD5, r5, w5⟩
    have fok : ∀ {H' : Hp}, (∀ b ∈ fp, H' b = none) → ∀ b ∈ fp, FpOk (cxComp X scope (compNs2 x y fr) s2 H2 G.objs.size fp) [] H' b := fun hn b hb =>
      ⟨hn b hb, (I5.ok.exf b hb).1, I5.ok.exfs b hb, .inl hb, (I5.ok.exf b hb).2, fun p hp => absurd (show p ∈ ([] : List (Addr × Obj)) from hp) (by simp)⟩
    have dok : ∀ {H' : Hp}, H' s2.heap.objs.size = none → FpOk (cxComp X scope (compNs2 x y fr) s2 H2 G.objs.size fp) [] H' s2.heap.objs.size := fun hn =>
      ⟨hn, hDC, Dfs, .inr (Nat.le_refl _), fun y c e => Dcl y c (B.sub I2.ok _ _ e), fun p hp => absurd (show p ∈ ([] : List (Addr × Obj)) from hp) (by simp)⟩
    obtain ⟨hz, alt⟩ := turn i n ys H5 w5
    have hzl : its.length ≤ sizeLine := by rw [← r5.length]; exact Nat.le_of_lt hz
    rcases alt with ⟨stop, fin⟩ | ⟨go, step⟩
    · refine thn (T.done (cxComp X scope (compNs2 x y fr) s2 H2 G.objs.size fp) rfl rfl rfl hc i (pinsAt [s2.heap.objs.size] s5.heap) s5 (o1 :: o2 :: compRest σ fr) H5 _ ?_ (fun b hb => ?_) st5 stop) fun r s6 ⟨hr, I6⟩ => ?_
      · exact (Inv.pinned I5 (fp := [s2.heap.objs.size]) (fun b hb => by rw [List.mem_singleton.mp hb]; exact dok D5) fun b hb => by
          rw [List.mem_singleton.mp hb]
          exact ⟨_, hD5, fun v z => by cases z⟩)
      · obtain ⟨f0, f1, f2', f3, f4, f5⟩ := fok fr5 b hb
        refine ⟨f0, f1, f2', f3, f4, fun p hp => ?_⟩
        have hp' : p ∈ pinsAt [s2.heap.objs.size] s5.heap := (List.mem_append.mp hp).elim (fun z => absurd (show p ∈ ([] : List (Addr × Obj)) from z) (by simp)) id
        have := (of_pinsAt hp').1
        rw [List.mem_singleton.mp this]
        exact fun e => Dfp (by rw [e]; exact hb)
      · subst hr
        have hD6 := (I6.pin (s2.heap.objs.size, { cls := .type "list", data := .seq its.toArray k }) (List.mem_append_right _ (mem_pinsAt (by simp) hD5))).1
        obtain ⟨m6, hn6, _⟩ := I6.loc
        refine ⟨m6, hn6, fun h' hs' => ?_⟩
        have hCn : s2.heap.get? G.objs.size = none := by
          cases e : s2.heap.get? G.objs.size with
          | none => rfl
          | some ob => exact absurd (Heap.lt_size e) (by rw [hC]; exact Nat.not_lt.mpr (Nat.le_succ _))
        have neC : ∀ b ob, s2.heap.get? b = some ob → b ≠ G.objs.size := fun b ob e z => by rw [z, hCn] at e; cases e
        have u6 : Un (frs X.stack) fp H2 H5 s2.heap s6.heap := I6.base
        have u7 : Un (frs X.stack) fp H2 H5 s2.heap h' := ⟨fun b ob e n hb hx => hs'.extBut b ob (neC b ob e) (u6.keep b ob e n hb hx), fun b ob e n hb hx => by
            obtain ⟨sl, q⟩ := u6.slot b ob e n hb hx
            exact ⟨sl, hs'.extBut b _ (neC b ob e) q⟩, u6.free, fun b ob e hx => by
            obtain ⟨o', q⟩ := u6.there b ob e hx
            exact ⟨o', hs'.extBut b _ (neC b ob e) q⟩, u6.tups, u6.frzs, u6.tbls⟩
        have hC5 : H5 G.objs.size = none := I6.free
        have hok7 : HOk X.prog X.w H5 h' := fun b ob e => (I6.hok b ob e).stay (fun c u hc q => hs'.extBut c u (by
            rintro rfl
            rcases hc with rfl | hc
            · rw [hC5] at e; cases e
            · rw [hC5] at hc; cases hc) q) (fun _ q => q) fun _ _ q => q
        have I7 : Inv X pins σ H5 { s6 with heap := h' } := I2.call' (s' := { s6 with heap := h' }) (I6.os) u7 hok7 I6.bare fun b hb => ⟨(f2 b hb).2.2.2.1, (f2 b hb).2.1, (f2 b hb).2.2.2.2.1, (f2 b hb).2.2.2.2.2⟩
        refine ⟨.ref s2.heap.objs.size, upd H5 s2.heap.objs.size (.lst ys), I7.track D5 I2.sz DL Dcl (fun p hp z => ?_) ?_, rfl, fin _ D5⟩
        · obtain ⟨e, _⟩ := I2.pin p hp
          rw [z] at e
          exact absurd (Heap.lt_size e) (Nat.lt_irrefl _)
        · exact ⟨Nat.le_of_lt hz, its, k, r5, hs'.extBut _ _ hDC hD6⟩
    · refine anyE (thn (T.item (cxComp X scope (compNs2 x y fr) s2 H2 G.objs.size fp) rfl rfl rfl hc i (pinsAt [s2.heap.objs.size] s5.heap) s5 (o1 :: o2 :: compRest σ fr) H5 _ ?_ (fun b hb => ?_) st5 go) fun r s6 ⟨u, hr, h6⟩ => ?_)
      · exact (Inv.pinned I5 (fp := [s2.heap.objs.size]) (fun b hb => by rw [List.mem_singleton.mp hb]; exact dok D5) fun b hb => by
          rw [List.mem_singleton.mp hb]
          exact ⟨_, hD5, fun v z => by cases z⟩)
      · obtain ⟨f0, f1, f2', f3, f4, f5⟩ := fok fr5 b hb
        refine ⟨f0, f1, f2', f3, f4, fun p hp => ?_⟩
        have hp' : p ∈ pinsAt [s2.heap.objs.size] s5.heap := (List.mem_append.mp hp).elim (fun z => absurd (show p ∈ ([] : List (Addr × Obj)) from z) (by simp)) id
        have := (of_pinsAt hp').1
        rw [List.mem_singleton.mp this]
        exact fun e => Dfp (by rw [e]; exact hb)
      · subst hr
        refine thn h6 fun _ s7 ⟨v, H7, I7, rv, y7, st7, fr7⟩ => ?_
        have p7 := I7.pin (s2.heap.objs.size, { cls := .type "list", data := .seq its.toArray k }) (List.mem_append_right _ (mem_pinsAt (by simp) hD5))
        have hD7 : s7.heap.get? s2.heap.objs.size = some { cls := .type "list", data := .seq its.toArray k } := p7.1
        have D7 : H7 s2.heap.objs.size = none := p7.2.1
        have I7u : Inv (cxComp X scope (compNs2 x y fr) s2 H2 G.objs.size fp) [] (o1 :: o2 :: compRest σ fr) H7 s7 := Inv.unpinned (pins := []) I7
        have I8 := Inv.pinned I7u (fp := s2.heap.objs.size :: fp) (fun b hb => by
            rcases List.mem_cons.mp hb with e | hb
            · rw [e]; exact dok D7
            · exact fok fr7 b hb) fun b hb => by
            rcases List.mem_cons.mp hb with e | hb
            · rw [e]; exact ⟨_, hD7, fun v z => by cases z⟩
            · exact T.obj _ _ st7 b hb
        have hl : Loc (cxComp X scope (compNs2 x y fr) s2 H2 G.objs.size fp).env.scope x := .inl (lookup_relabel_local B.here)
        have hl2 : Loc (cxComp X scope (compNs2 x y fr) s2 H2 G.objs.size fp).env.scope y := .inl (lookup_relabel_local B2.here2)
        have pk : ∀ {σ' : St} {H' : Hp} {s' : Shared}, Inv (cxComp X scope (compNs2 x y fr) s2 H2 G.objs.size fp) ([] ++ pinsAt (s2.heap.objs.size :: fp) s7.heap) σ' H' s' →
            tn (i + 1) s'.heap ∧ (∀ b ∈ fp, H' b = none) ∧ H' s2.heap.objs.size = none ∧ s'.heap.get? s2.heap.objs.size = some { cls := .type "list", data := .seq its.toArray k } := fun {σ' H' s'} I' => by
          have pD := I'.pin (s2.heap.objs.size, { cls := .type "list", data := .seq its.toArray k }) (List.mem_append_right _ (List.mem_append_right _ (mem_pinsAt (by simp) hD7)))
          refine ⟨T.keep _ _ _ st7 fun b hb ob e => (I'.pin (b, ob) (List.mem_append_right _ (List.mem_append_right _ (mem_pinsAt (List.mem_cons_of_mem _ hb) e)))).1, fun b hb => ?_, pD.2.1, pD.1⟩
          obtain ⟨ob, e, _⟩ := T.obj _ _ st7 b hb
          exact (I'.pin (b, ob) (List.mem_append_right _ (List.mem_append_right _ (mem_pinsAt (List.mem_cons_of_mem _ hb) e)))).2.1
        obtain ⟨p0, v1, v2, rfl, sq, stp⟩ := step v H7 y7
        have pgt : PG (cxComp X scope (compNs2 x y fr) s2 H2 G.objs.size fp) (.Tuple [.Name x px, .Name y py] kx tp) (gTup X.K 2 (gCons (gName 0) (gCons (gName 1) gNil))) :=
          pg_tup (X := cxComp X scope (compNs2 x y fr) s2 H2 G.objs.size fp) hc (pgs_cons (pg_name (i := 0) B2.nd2 rfl hl (.inr (lookup_relabel_local B.here))) (pgs_cons (pg_name (i := 1) B2.nd2 rfl hl2 (.inr (lookup_relabel_local B2.here2))) pgs_nil))
        refine anyE (thn (pgt _ s7 _ H7 (.ref p0) u (fun σ' H' => σ' = some v1 :: some v2 :: compRest σ fr ∧ H' = H7) I8 rv ⟨p0, [v1, v2], rfl, sq, rfl, v1, [v2], rfl, v2, [], rfl, rfl, rfl, rfl⟩) fun _ s8 ⟨σ8, H8, I9, e1, e2⟩ => ?_)
        subst e1 e2
        refine anyE (thn (ht s2 H2 G.objs.size fp _ s8 _ H8 _ I9 stp) fun ok s9 ⟨H9, I10, q10⟩ => ?_)
        cases ok with
        | false =>
          rw [if_neg Bool.false_ne_true] at q10
          rw [if_neg Bool.false_ne_true]
          obtain ⟨m', hm, w'⟩ := q10
          obtain ⟨k1, k2, k3, k4⟩ := pk I10
          exact ⟨m', hm, i + 1, some v1, some v2, H9, ys, its, k, Inv.unpinned (pins := []) I10, k1, k2, k3, k4, r5, w'⟩
        | true =>
          rw [if_pos rfl] at q10
          rw [if_pos rfl]
          refine anyE (thn (he s2 H2 G.objs.size fp _ s9 _ H9 _ I10 q10) fun y' s10 ⟨yv, H10, I11, ry, m', hm, w'⟩ => ?_)
          obtain ⟨k1, k2, k3, k4⟩ := pk I11
          refine append_at k4 (fun h' hs' hD' => ?_) (by rw [List.size_toArray]; exact hzl)
          have I12 : Inv (cxComp X scope (compNs2 x y fr) s2 H2 G.objs.size fp) [] (some v1 :: some v2 :: compRest σ fr) H10 { s10 with heap := h' } :=
            (Inv.unpinned (pins := []) I11).turned (t' := s10.toks) (it := s2.heap.objs.size) (fun b ob hb e => (hs'.2 b hb).trans e) k3 hDC (.inr (Nat.le_refl _)) (fun z c e => Dcl z c (B.sub I2.ok _ _ e)) fun p hp => absurd (show p ∈ ([] : List (Addr × Obj)) from hp) (by simp)
          refine ⟨m', hm, i + 1, some v1, some v2, H10, ys ++ [yv], its ++ [y'], k + 1, I12, T.keep _ _ _ k1 fun b hb ob e => (hs'.2 b fun z => Dfp (by rw [← z]; exact hb)).trans e, k2, k3, ?_, r5.append (.cons ry .nil), w'⟩
          rw [hD']
          simp
  exact codeAny_compStart_list (loop _ rfl) (T.self _ 0 _ _ _ tn4 (loop _ rfl))
end
end L2
set_option Elab.async false
set_option linter.all false
set_option maxRecDepth 100000
namespace L2
open PySem PySem.Spec PyProof.Rows
abbrev XE := St → Value → Hp → Prop
abbrev TX := XE → TS
abbrev TEX := XE → TE
def XP (X : Cx) (pins : List (Addr × Obj)) (E : XE) (ev : Value) (s' : Shared) : Prop :=
  ∃ (ea t : Addr) (cls : Value) (B : Heap) (H' : Hp) (s1 : Shared) (H1 : Hp) (σ1 : St), ev = .ref ea ∧ Inv X pins σ1 H1 s1 ∧ Flown X.prog X.w X.stack H1 s1 (fun cls _ H' => E σ1 cls H') ea t cls B H' s'
def PX (X : Cx) (st : Stmt) (t : TX) : Prop :=
  ∀ (pins : List (Addr × Obj)) (s : Shared) (σ : St) (H : Hp) (D : Ends) (E : XE), Inv X pins σ H s → t E D σ H → wpAny (model X.prog X.w) X.A (exec st X.env) (SP X pins D) (XP X pins E) s
def PXs (X : Cx) (st : List Stmt) (t : TX) : Prop :=
  ∀ (pins : List (Addr × Obj)) (s : Shared) (σ : St) (H : Hp) (D : Ends) (E : XE), Inv X pins σ H s → t E D σ H → wpAny (model X.prog X.w) X.A (execs st X.env) (SP X pins D) (XP X pins E) s
def PEX (X : Cx) (e : Expr) (t : TEX) : Prop :=
  ∀ (pins : List (Addr × Obj)) (s : Shared) (σ : St) (H : Hp) (Q : VK) (E : XE), Inv X pins σ H s → t E σ H Q → wpAny (model X.prog X.w) X.A (eval e X.env) (EP X pins σ Q) (XP X pins E) s
def tCallX (sp : Sp) (t : TA) : TEX := fun E σ H Q => t σ H fun vs H1 => sp vs H1 Q (fun cls _ H2 => E σ cls H2)
def tDropX (te : TEX) : TX := fun E => tDrop (te E)
section
variable {X : Cx} {st : Stmt} {rest : List Stmt} {t : TX} {u : TX} {pos : Pos}
theorem pxs_one (h1 : PX X st t) : PXs X [st] t := by
  intro pins s σ H D E I h
  refine wpAny_execs_cons (thn (h1 pins s σ H D E I h) fun f s1 q => ?_)
  cases f with
  | next => exact wpAny_execs_nil q
  | ret v => exact q
  | brk => exact q
  | cont => exact q
theorem px_expr {e : Expr} {te : TEX} (he : PEX X e te) (hs : swapsWith e none pos.line X.env = pure false := by rfl) : PX X (.Expr e pos) (tDropX te) := by
  intro pins s σ H D E I h
  exact wpAny_Expr_any (thn (he pins s σ H _ E I h) fun v s1 ⟨x, H1, I1, r1, q1⟩ => ⟨σ, H1, I1, q1⟩) I.quiet hs
theorem pex_def {k : Nat} {ps : List Str} {sp : Sp} {x : Str} {p pos' : Pos} {a : Expr} {es : List Expr} {t : TA} (hxe : X.xe = fun _ _ => False) (Df : Def X.prog X.w X.K X.mg X.base (CXW X.prog X.w) k x ps sp) (hr : Room k X.A) (ha : PA X (a :: es) t) (hg : Gl X x := by rfl)
    (hdb : (x == ("__debug__" : Str)) = false := by decide) (he : starEach (a :: es) X.env = (false, eval a X.env) :: starEach es X.env := by rfl) (hpl : (backTo pos' (starEach es X.env)).any (·.1) = false := by rfl) :
    PEX X (.Call (.Name x p) (a :: es) [] pos') (tCallX sp t) := by
  intro pins s σ H Q E I h
  obtain ⟨f, fd, F, hm, hk, hb⟩ := Df.ex
  refine wpAny_Call_Name_kw (ld_glob I hg hm ?_ hdb)
  refine PySem.W.callWith_K (h₀ := X.base) I.ok.mod.kin hk (wpAny_mono (ha pos' pins s σ H _ I h) (fun us s1 ⟨vs, H1, I1, r, q⟩ => ⟨I1.kIn, ?_⟩) (fun _ _ z => by rw [hxe] at z; exact z.elim)) he hpl
  have hl : us.length = ps.length := by rw [← r.length]; exact F.len _ _ _ _ q
  have hbt := hb s1 us I1.kIn (by rw [List.append_nil]; exact hl)
  rw [List.append_nil] at hbt
  refine wpAny_call (codeAny_mono (F.run X.A X.stack s1 H1 ⟨us, []⟩ us vs _ _ hr I1.env0 hbt r q) fun r s' hq => ?_)
  cases r with
  | ok fl =>
    cases fl with
    | ret u =>
      obtain ⟨v, H2, I2, rv, q2⟩ := I1.after hq
      exact ⟨v, H2, I2, rv, q2⟩
    | next => exact False.elim hq
    | brk => exact False.elim hq
    | cont => exact False.elim hq
  | error ev =>
    obtain ⟨ea, t', cls, B, H2, rfl, fl⟩ := hq
    exact ⟨ea, t', cls, B, H2, s1, H1, σ, rfl, I1, fl⟩
end
section
variable {X : Cx}
end
end L2
set_option Elab.async false
set_option linter.all false
set_option maxRecDepth 100000
namespace Mir
open PySem L2
section
variable [Zc]
def zipD (as bs : List D) : List D := List.zipWith (fun a b => PyData.tuple [a, b]) as bs
theorem zipD_get {as bs : List D} {i : Nat} {d : D} (h : (zipD as bs)[i]? = some d) : ∃ a b, d = .tuple [a, b] ∧ as[i]? = some a ∧ bs[i]? = some b := by
  unfold zipD at h
  rw [List.getElem?_zipWith] at h
  cases ha : as[i]? with
  | none => rw [ha] at h; simp at h
  | some a =>
    cases hb : bs[i]? with
    | none => rw [ha, hb] at h; simp at h
    | some b =>
      rw [ha, hb] at h
      simp at h
      exact ⟨a, b, h.symm, rfl, rfl⟩
theorem zipD_len {as bs : List D} : as.length ≤ (zipD as bs).length ∨ bs.length ≤ (zipD as bs).length := by
  unfold zipD
  rw [List.length_zipWith]
  omega
theorem itzT_ok {K : PySem.W.Frag} {G B : Hp} {p q : Addr} {xs ys : List V} {as bs : List D} (h1 : G p = some (.tup xs)) (h2 : G q = some (.tup ys)) (r1 : Reps B xs as) (r2 : Reps B ys bs) : ItOk G B (ItzT K p q) (zipD as bs) := fun H s => by
  have g1 : SqT K H p xs := .inl (.inl (s _ _ h1))
  have g2 : SqT K H q ys := .inl (.inl (s _ _ h2))
  refine ⟨⟨xs, ys, g1, g2, by rw [r1.length, r2.length]; exact zipD_len⟩, fun i d hd => ?_⟩
  obtain ⟨a, b, rfl, ha, hb⟩ := zipD_get hd
  obtain ⟨x, x1, x2⟩ := r1.get i a ha
  obtain ⟨y, y1, y2⟩ := r2.get i b hb
  refine ⟨⟨xs, ys, x, y, g1, g2, x1, y1⟩, fun v H' hy => ?_⟩
  obtain ⟨p', x', y', rfl, hp, rfl, e1, e2⟩ := hy
  have e1' := e1 xs g1
  have e2' := e2 ys g2
  rw [x1] at e1'
  rw [y1] at e2'
  cases e1'
  cases e2'
  exact .inr ⟨p', [x, y], [a, b], rfl, rfl, hp, rfl, .cons x2 (.cons y2 .nil)⟩
def zp (f : D → Option (List D)) : List RV × Rho → Option (List D × Rho)
  | ([r1, r2], ρ) => (f r1.1).bind fun as => (f r2.1).map fun bs => (zipD as bs, ρ)
  | _ => none
theorem zp_eq {f : D → Option (List D)} {x : List RV × Rho} {ds : List D} {ρ : Rho} (h : zp f x = some (ds, ρ)) : ∃ r1 r2 as bs, x = ([r1, r2], ρ) ∧ f r1.1 = some as ∧ f r2.1 = some bs ∧ ds = zipD as bs := by
  obtain ⟨rs, ρ1⟩ := x
  unfold zp at h
  split at h
  · rename_i r1 r2 ρ2 heq
    cases heq
    obtain ⟨as, e1, h⟩ := Option.bind_eq_some_iff.mp h
    obtain ⟨bs, e2, h⟩ := Option.map_eq_some_iff.mp h
    cases h
    exact ⟨r1, r2, as, bs, rfl, e1, e2, rfl⟩
  · cases h
def mItZT (m : Rho → Option (List RV × Rho)) : Rho → Option (List D × Rho) := fun ρ => (m ρ).bind (zp asT)
theorem mi_zipT {K : PySem.W.Frag} {ta : TA} {m : Rho → Option (List RV × Rho)} (h : MA ta m) : MI (iZipT K ta) (mItZT m) := by
  intro F B H σ ρ ds ρ' Q R e q
  obtain ⟨x, e1, e⟩ := Option.bind_eq_some_iff.mp e
  obtain ⟨r1, r2, as, bs, rfl, f1, f2, rfl⟩ := zp_eq e
  refine h F B H σ ρ _ _ _ R e1 fun vs B1 H1 E1 R1 V1 => ?_
  match vs, V1 with
  | [v, w], ⟨⟨h1, _⟩, ⟨h2, _⟩, _⟩ =>
    have w1 := h1.view R1
    have w2 := h2.view R1
    rw [asT_eq f1] at w1
    rw [asT_eq f2] at w2
    obtain ⟨p, xs, rfl, g1, k1⟩ := w1.tuple R1.sub
    obtain ⟨p', ys, rfl, g2, k2⟩ := w2.tuple R1.sub
    exact ⟨p, p', xs, ys, rfl, .inl (.inl g1), .inl (.inl g2), q _ B1 H1 E1 R1 (itzT_ok g1 g2 k1 k2)⟩
def as2 : D → Option (D × D)
  | .tuple [a, b] => some (a, b)
  | _ => none
theorem as2_eq {d : D} {p : D × D} (h : as2 d = some p) : d = .tuple [p.1, p.2] := by
  unfold as2 at h
  split at h
  · cases h; rfl
  · cases h
def compL2 (c : Rho → Option (Bool × Rho)) (e : PM) (ρn : Rho) : List D → Option (List D)
  | [] => some []
  | d :: ds => (as2 d).bind fun p => (c (.fz p.1 :: .fz p.2 :: ρn)).bind fun b => if b.1 = true then (sv e (.fz p.1 :: .fz p.2 :: ρn)).bind fun y => (asF y.1).bind fun z => (compL2 c e ρn ds).map (z :: ·) else compL2 c e ρn ds
noncomputable def mLC2 (fr : List (Str × Nat)) (it : Rho → Option (List D × Rho)) (c : Rho → Option (Bool × Rho)) (e : PM) : PM := fun ρ => (it ρ).bind fun x => (compL2 c e (fr.map fun p => demote x.2 p.2) x.1).bind fun ys => cIf (ys.length < sizeLine) (some ((.list ys, .new), x.2)) none
theorem inner2_nown {fr : List (Str × Nat)} {ρ : Rho} {d d' : D} (i : Nat) (s : Sl) (h1 : (Sl.fz d :: Sl.fz d' :: fr.map fun p => demote ρ p.2)[i]? = some s) (h2 : s.isOwn = true) : False := by
  cases i with
  | zero => cases h1; cases h2
  | succ i => exact inner_nown (d := d') (ρ := ρ) (fr := fr) i s (by rw [List.getElem?_cons_succ] at h1; exact h1) h2
theorem Rel.inner2 {F : Fr} {B H : Hp} {σ : St} {ρ : Rho} (R : Rel F B H σ ρ) (fr : List (Str × Nat)) {v v' : V} {d d' : D} (h : Rep B v d) (h' : Rep B v' d') : Rel (F0 H) B H (some v :: some v' :: compRest σ fr) (.fz d :: .fz d' :: fr.map fun p => demote ρ p.2) := by
  obtain ⟨r1, r2, r3, r4, r5, r6, r7, r8, r9, r10, r11, r12, r13⟩ := R.inner fr h'
  refine ⟨r1, r2, r3, r4, by simpa using r5, fun i s hs => ?_, fun i j s t p h1 h2 => (inner2_nown i s h1 h2).elim, fun i d p h1 => (inner2_nown i _ h1 rfl).elim, (fun x hx => by cases hx), fun i d h1 => (inner2_nown i _ h1 rfl).elim, r11, (fun i h1 => ?_), r13⟩
  · cases i with
    | zero => cases hs; exact ⟨v, rfl, h⟩
    | succ i =>
      rw [List.getElem?_cons_succ] at hs
      have q := r6 i s hs
      cases s with
      | no => trivial
      | ex => trivial
      | fz c => obtain ⟨x, g1, g2⟩ := q; exact ⟨x, by rw [List.getElem?_cons_succ]; exact g1, g2⟩
      | own c => obtain ⟨x, g1, g2⟩ := q; exact ⟨x, by rw [List.getElem?_cons_succ]; exact g1, g2⟩
      | io c => obtain ⟨x, g1, g2⟩ := q; exact ⟨x, by rw [List.getElem?_cons_succ]; exact g1, g2⟩
      | ro c => obtain ⟨x, g1, g2⟩ := q; exact ⟨x, by rw [List.getElem?_cons_succ]; exact g1, g2⟩
  · cases i with
    | zero => cases h1
    | succ i =>
      rw [List.getElem?_cons_succ] at h1 ⊢
      exact r12 i h1
theorem me_lc2 {K : PySem.W.Frag} {fr : List (Str × Nat)} {wi : TI} {tc : TT} {te : TE} {it : Rho → Option (List D × Rho)} {c : Rho → Option (Bool × Rho)} {e : PM} (hi : MI wi it) (hc : MT tc c) (he : ME te e) : ME (tLC2 K fr wi tc te) (mLC2 fr it c e) := by
  intro F B H σ ρ r0 ρ' Q R e0 q
  obtain ⟨x, e1, e0⟩ := Option.bind_eq_some_iff.mp e0
  obtain ⟨out, e2, e0⟩ := Option.bind_eq_some_iff.mp e0
  obtain ⟨hz, e0⟩ := cIf_eq e0
  cases e0
  refine hi F B H σ ρ x.1 x.2 _ R e1 fun J B1 H1 E1 R1 I1 => ?_
  obtain ⟨ds, ρ1⟩ := x
  refine ⟨fun i m ys H2 => m = ds.length - i ∧ i ≤ ds.length ∧ ∃ B2 done rest, Same B1 B2 ∧ Same H1 H2 ∧ (∀ q, H1 q ≠ none → B1 q = none → B2 q = none) ∧ Rel F B2 H2 σ ρ1 ∧ Reps B2 ys done ∧ compL2 c e (fr.map fun p => demote ρ1 p.2) (ds.drop i) = some rest ∧ done ++ rest = out,
    ⟨ds.length, rfl, Nat.zero_le _, B1, [], out, Same.refl _, Same.refl _, fun _ _ z => z, R1, .nil, e2, rfl⟩, ?_⟩
  rintro i m ys H2 ⟨rfl, hil, B2, done, rest, eB, eH, nb, R2, rp, hcl, hdr⟩
  have hlen : ys.length ≤ out.length := by rw [← hdr, List.length_append, rp.length]; omega
  refine ⟨by omega, ?_⟩
  by_cases hlt : i < ds.length
  · refine .inr ?_
    obtain ⟨go, yl⟩ := (I1 H2 eH).2 i ds[i] (List.getElem?_eq_getElem hlt)
    refine ⟨go, fun v H3 hy => ?_⟩
    rw [List.drop_eq_getElem_cons hlt] at hcl
    obtain ⟨pr, c0, hcl⟩ := Option.bind_eq_some_iff.mp (show (as2 ds[i]).bind _ = some rest from hcl)
    obtain ⟨b, c1, c2⟩ := Option.bind_eq_some_iff.mp hcl
    have hdi := as2_eq c0
    have had : ∃ B3, Same B2 B3 ∧ Same H2 H3 ∧ (∀ q, H2 q ≠ none → B2 q = none → B3 q = none) ∧ Rel F B3 H3 σ ρ1 ∧ Rep B3 v ds[i] := by
      rcases yl v H3 hy with ⟨rfl, h2⟩ | ⟨p, xs, cs, h1, rfl, h3, rfl, h5⟩
      · exact ⟨B2, Same.refl _, Same.refl _, fun _ _ z => z, R2, h2.mono eB⟩
      · obtain ⟨R3, E3, e3⟩ := R2.layT (xs := xs) h3
        refine ⟨_, e3, same_upd h3, fun q h z => ?_, R3, ?_⟩
        · rw [upd_ne (show q ≠ p from fun y => h (by rw [y]; exact h3))]; exact z
        · rw [h1]; exact .tup upd_same (h5.mono (eB.trans e3))
    obtain ⟨B3, eB3, eH3, nb3, R3, rv⟩ := had
    have rv' : Rep B3 v (.tuple [pr.1, pr.2]) := by rw [← hdi]; exact rv
    obtain ⟨p0, v1, v2, rfl, hp0, rv1, rv2⟩ : ∃ p0 v1 v2, v = .ref p0 ∧ B3 p0 = some (.tup [v1, v2]) ∧ Rep B3 v1 pr.1 ∧ Rep B3 v2 pr.2 := by
      cases rv' with
      | tup h r =>
        cases r with
        | cons a r =>
          cases r with
          | cons b r =>
            cases r
            exact ⟨_, _, _, rfl, h, a, b⟩
    refine ⟨p0, v1, v2, rfl, .inl (.inl (R3.sub _ _ hp0)), ?_⟩
    have Ri := R3.inner2 fr rv1 rv2
    refine hc (F0 H3) B3 H3 _ _ b.1 b.2 _ Ri c1 fun B4 H4 E4 R4 => ?_
    obtain ⟨eH4, nb4⟩ := inner_ext inner2_nown E4
    have R4o : Rel F B4 H4 σ ρ1 := R3.grow E4.sB eH4 R4.sub nb4 R4.tupB R4.nz
    have nbA : ∀ q, H1 q ≠ none → B1 q = none → B4 q = none := fun q h z => by
      have h2 : H2 q ≠ none := fun y => h (eH.free y)
      have h3 : H3 q ≠ none := fun y => h2 (eH3.free y)
      exact nb4 q h3 (nb3 q h2 (nb q h z))
    cases hb : b.1 with
    | false =>
      rw [hb, if_neg Bool.false_ne_true] at c2
      rw [if_neg Bool.false_ne_true]
      exact ⟨ds.length - (i + 1), by omega, rfl, hlt, B4, done, rest, eB.trans (eB3.trans E4.sB), eH.trans (eH3.trans eH4), nbA, R4o, rp.mono (eB3.trans E4.sB), c2, hdr⟩
    | true =>
      rw [hb, if_pos rfl] at c2
      rw [if_pos rfl]
      obtain ⟨y, c3, c2⟩ := Option.bind_eq_some_iff.mp c2
      obtain ⟨z, c4, c2⟩ := Option.bind_eq_some_iff.mp c2
      obtain ⟨rest', c5, c6⟩ := Option.map_eq_some_iff.mp c2
      subst c6
      have Ri4 := R4o.inner2 fr (rv1.mono E4.sB) (rv2.mono E4.sB)
      refine he.sv (F0 H4) B4 H4 _ _ y.1 y.2 _ Ri4 c3 fun u B5 H5 E5 R5 V5 N5 => ?_
      obtain ⟨eH5, nb5⟩ := inner_ext inner2_nown E5
      have R5o : Rel F B5 H5 σ ρ1 := R4o.grow E5.sB eH5 R5.sub nb5 R5.tupB R5.nz
      rw [asF_eq c4] at V5
      refine ⟨ds.length - (i + 1), by omega, rfl, hlt, B5, done ++ [z], rest', eB.trans (eB3.trans (E4.sB.trans E5.sB)), eH.trans (eH3.trans (eH4.trans eH5)), fun q h w => ?_, R5o, (rp.mono (eB3.trans (E4.sB.trans E5.sB))).append (.cons V5 .nil), c5, by rw [List.append_assoc]; exact hdr⟩
      have h2 : H2 q ≠ none := fun y => h (eH.free y)
      have h3 : H3 q ≠ none := fun y => h2 (eH3.free y)
      have h4 : H4 q ≠ none := fun y => h3 (eH4.free y)
      exact nb5 q h4 (nbA q h w)
  · have hi' : i = ds.length := by omega
    subst hi'
    refine .inl ⟨(I1 H2 eH).1, fun p hp => ?_⟩
    rw [List.drop_length] at hcl
    cases hcl
    rw [List.append_nil] at hdr
    subst hdr
    have E2 : Ext σ ρ1 B1 H1 ρ1 B2 H2 := Ext.grow eB eH nb
    have := res_end (res := (.list done, true)) (k := fun Q => ∀ p, H2 p = none → Q (.ref p) (upd H2 p (.lst ys))) (Q := Q) R2 ⟨ys, rp, fun Q h => h⟩ fun v B' H' E R' V' N => q v B' H' ((E1.trans E2).trans E) R' V' fun p z1 z2 => (E1.trans E2).live p (N p z1 z2)
    exact this p hp
abbrev XM := Rho → Option ((RV × Rho) ⊕ (Str × Rho))
def OutOkX (cl : Str → Value) (F : Fr) (D : Ends) (E : XE) : OutE → Prop
  | .ok o => OutOk F D o
  | .er c ρ => ∀ B H σ, Rel F B H σ ρ → E σ (cl c) H
def MSX (cl : Str → Value) (t : TX) (m : EM) : Prop := ∀ (F : Fr) (B H : Hp) (σ : St) (ρ : Rho) (o : OutE) (D : Ends) (E : XE), Rel F B H σ ρ → m ρ = some o → OutOkX cl F D E o → t E D σ H
variable {cl : Str → Value}
def mOk (m : XM) : PM := fun ρ => match m ρ with
  | some (.inl x) => some x
  | _ => none
theorem mOk_eq {m : XM} {ρ : Rho} {x : RV × Rho} (h : mOk m ρ = some x) : m ρ = some (.inl x) := by
  unfold mOk at h
  split at h
  · rename_i y e; cases h; exact e
  · cases h
structure MEX (cl : Str → Value) (t : TEX) (m : XM) : Prop where
  ok : ∀ E, ME (t E) (mOk m)
  er : ∀ (F : Fr) (B H : Hp) (σ : St) (ρ : Rho) (c : Str) (ρ' : Rho) (Q : VK) (E : XE), Rel F B H σ ρ → m ρ = some (.inr (c, ρ')) → (∀ B' H', Rel F B' H' σ ρ' → E σ (cl c) H') → t E σ H Q
def mCallX (f : List D → Option ((D × Bool) ⊕ Str)) (m : Rho → Option (List RV × Rho)) : XM := fun ρ => (m ρ).bind fun x => (fzAll x.1 x.2).bind fun y => (f y.1).map fun w => match w with
  | .inl (d, o) => .inl (kO d o, y.2)
  | .inr c => .inr (c, y.2)
theorem mCallX_eq {f : List D → Option ((D × Bool) ⊕ Str)} {m : Rho → Option (List RV × Rho)} {ρ : Rho} {z} (h : mCallX f m ρ = some z) : ∃ x y w, m ρ = some x ∧ fzAll x.1 x.2 = some y ∧ f y.1 = some w ∧ z = (match w with
  | .inl (d, o) => .inl (kO d o, y.2)
  | .inr c => .inr (c, y.2)) := by
  obtain ⟨x, e1, h⟩ := Option.bind_eq_some_iff.mp h
  obtain ⟨y, e2, h⟩ := Option.bind_eq_some_iff.mp h
  obtain ⟨w, e3, h⟩ := Option.map_eq_some_iff.mp h
  exact ⟨x, y, w, e1, e2, e3, h.symm⟩
theorem mex_call {f : List D → Option ((D × Bool) ⊕ Str)} {t : TA} {m : Rho → Option (List RV × Rho)} (h : MA t m) : MEX cl (tCallX (spX cl f) t) (mCallX f m) := by
  refine ⟨fun E => ?_, ?_⟩
  · intro F B H σ ρ r ρ' Q R e q
    obtain ⟨x, y, w, e1, e2, e3, e4⟩ := mCallX_eq (mOk_eq e)
    cases w with
    | inr c => cases e4
    | inl w =>
      obtain ⟨d, o⟩ := w
      cases e4
      refine h F B H σ ρ x.1 x.2 _ R e1 fun vs B1 H1 E1 R1 V1 => ?_
      obtain ⟨B2, R2, rp, E2⟩ := Rel.frzL R1 V1.weak e2
      refine ⟨B2, y.1, _, R2.sub, R2.tupB, rp, e3, fun v B' H' P => ?_⟩
      have R3 := R2.grow P.eB P.eH P.sub P.nb P.tB P.nz
      have E3 : Ext σ y.2 B2 H1 y.2 B' H' := Ext.grow P.eB P.eH P.nb
      cases o with
      | false =>
        have pv : Rep B' v d := P.val
        exact q v B' H' (E1.trans (E2.trans E3)) R3 pv fun p z => by cases z
      | true =>
        obtain ⟨p, rfl, h1, h2, h3⟩ : ∃ p, v = .ref p ∧ H1 p = none ∧ B' p = none ∧ Own B' H' p d := P.val
        have fr := R2.free h1
        exact q _ B' H' (E1.trans (E2.trans E3)) R3 ⟨p, rfl, h2, fr.2.1, h3, fr.2.2⟩ fun p' _ z => by cases z; exact E1.live p h1
  · intro F B H σ ρ c ρ' Q E R e q
    obtain ⟨x, y, w, e1, e2, e3, e4⟩ := mCallX_eq e
    cases w with
    | inl w => obtain ⟨d, o⟩ := w; cases e4
    | inr c' =>
      cases e4
      refine h F B H σ ρ x.1 x.2 _ R e1 fun vs B1 H1 E1 R1 V1 => ?_
      obtain ⟨B2, R2, rp, E2⟩ := Rel.frzL R1 V1.weak e2
      refine ⟨B2, y.1, _, R2.sub, R2.tupB, rp, e3, fun B' H' P => ?_⟩
      exact q B' H' (R2.grow P.eB P.eH P.sub P.nb P.tB P.nz)
def eX (k : PM → SM) (m : XM) : EM := fun ρ => (m ρ).bind fun o => match o with
  | .inl _ => (k (mOk m) ρ).map .ok
  | .inr x => some (.er x.1 x.2)
theorem msx_x {T : TE → TS} {te : TEX} {k : PM → SM} {m : XM} (hT : ∀ (te : TE) D σ H, (∀ Q, te σ H Q) → T te D σ H) (hk : ∀ t m, ME t m → MS (T t) (k m)) (h : MEX cl te m) : MSX cl (fun E => T (te E)) (eX k m) := by
  intro F B H σ ρ o D E R e q
  obtain ⟨x, e1, e⟩ := Option.bind_eq_some_iff.mp e
  cases x with
  | inl x =>
    obtain ⟨y, e2, e⟩ := Option.map_eq_some_iff.mp e
    cases e
    exact hk _ _ (h.ok E) F B H σ ρ y D R e2 q
  | inr x =>
    cases e
    exact hT _ D σ H fun Q => h.er F B H σ ρ x.1 x.2 Q E R e1 fun B' H' R' => q B' H' σ R'
theorem msx_drop {te : TEX} {m : XM} (h : MEX cl te m) : MSX cl (tDropX te) (eX mDrop m) := msx_x (T := tDrop) (fun te D σ H q => q _) (fun t m h => ms_drop h) h
end
end Mir
set_option Elab.async false
set_option linter.all false
set_option maxRecDepth 100000
namespace Mir
open PySem L2
section
variable [Zc]
structure PostJ (B H : Hp) (p p2 : Addr) (v : V) (B' H' : Hp) (d : D) (o : Bool) (d1 d2 : D) : Prop where
  eH : ∀ q u, q ≠ p → q ≠ p2 → H q = some u → H' q = some u
  eB : Same B B'
  sub : Same B' H'
  nb : ∀ q, H q ≠ none → B q = none → B' q = none
  tB : ∀ q xs, H' q = some (.tup xs) → B' q = some (.tup xs)
  nz : ∀ q o u, H' q = some (.frz o u) → H q ≠ none
  own : Own B' H' p d1
  own2 : Own B' H' p2 d2
  val : if o = true then ∃ p, v = .ref p ∧ H p = none ∧ B' p = none ∧ Own B' H' p d else Rep B' v d
end
end Mir
set_option Elab.async false
set_option linter.all false
set_option maxRecDepth 100000
namespace L2
open PySem PySem.Spec PyProof.Rows
theorem passW {P : Program} {w : World} {K : PySem.W.Frag} {mg : Str → Option Value} {base : Heap} {N : List Str} {qual : Str} {scope : Scope} {f : Addr} {cd : Value} {A : Around} {outer : List Env} {s₀ : Shared} {H₀ : Hp} {E : XK}
    (hex : (envOfC qual scope s₀.heap.objs.size f cd).frame = some s₀.heap.objs.size) : Passes (CXW P w) (cxOf (CXW P w) P w K mg base N qual scope f cd A outer s₀ H₀ E) E := by
  intro pins σ H s e s' I h
  obtain ⟨ea, t, cls, B, H', rfl, fl⟩ := h
  have noA : ∀ b : Addr, b ∉ (cxOf (CXW P w) P w K mg base N qual scope f cd A outer s₀ H₀ E).ex := fun b z => absurd (show b ∈ ([] : List Addr) from z) (by simp)
  have fly : Heap.FlyingW B (envOfC qual scope s₀.heap.objs.size f cd :: outer) ea cls (.ref t) s'.heap := fl.fly
  have hin : ∀ env ∈ (envOfC qual scope s₀.heap.objs.size f cd :: outer), ∀ b, env.frame = some b → b ∈ frs (envOfC qual scope s₀.heap.objs.size f cd :: outer) := fun env he b hb => List.mem_filterMap.mpr ⟨env, he, hb⟩
  have sub : ∀ b ∈ frs outer, b ∈ frs (envOfC qual scope s₀.heap.objs.size f cd :: outer) := fun b hb => by
    obtain ⟨env, he, hf⟩ := List.mem_filterMap.mp hb
    exact hin env (List.mem_cons_of_mem _ he) b hf
  have out : ∀ b o, s₀.heap.get? b = some o → b ∉ frs outer → b ∉ frs (envOfC qual scope s₀.heap.objs.size f cd :: outer) := fun b o q hb hm => by
    obtain ⟨env, he, hf⟩ := List.mem_filterMap.mp hm
    rcases List.mem_cons.mp he with rfl | he
    · rw [hex] at hf
      cases hf
      exact absurd (Heap.lt_size q) (Nat.lt_irrefl _)
    · exact hb (List.mem_filterMap.mpr ⟨env, he, hf⟩)
  show wpAny _ _ (leaving _ (.ref ea)) _ _ _
  refine wpAny_leaves_onW I.ok.frames hex fly fun h2 fl2 sm => ?_
  refine ⟨ea, t, cls, B, H', rfl, ⟨fl.os.trans I.os, fl.bare, fl2, fun b o q n hb => ?_, fun b o q hb => ?_, fun b o q hb n => ?_, fun b o q n => ?_, fun b xs q => fl.tups b xs (I.base.tups b xs q), fun b o u q => fl.frzs b o u (I.base.frzs b o u q), fun b ps q => ?_, fl.hok, fl.wish⟩⟩
  · exact fl.keep b o (I.base.keep b o q n hb (noA b)) (I.base.free b o q n (noA b)) (out b o q hb)
  · obtain ⟨o', q'⟩ := I.base.there b o q (noA b)
    exact fl.there b o' q' (out b o q hb)
  · obtain ⟨sl, q'⟩ := I.base.slot b o q n hb (noA b)
    obtain ⟨sl2, q2⟩ := fl.slot b _ q' (sub b hb) (I.base.free b o q n (noA b))
    obtain ⟨_, o2, q3, hd⟩ := fly.2.2.1.mem (sub b hb)
    rw [q2] at q3
    cases q3
    obtain ⟨sl3, q4⟩ := sm b _ q2 hd
    exact ⟨sl3, q4⟩
  · obtain ⟨o', q'⟩ := I.base.there b o q (noA b)
    exact fl.free b o' q' (I.base.free b o q n (noA b))
  · obtain ⟨m1, z1⟩ := I.base.tbls b ps q
    obtain ⟨m2, z2⟩ := fl.tbls b _ z1
    exact ⟨m1 ++ m2, by rw [z2]; simp⟩
theorem pe_defX {X : Cx} {k : Nat} {x : Str} {ps : List Str} {sp : Sp} {p pos : Pos} {e : Expr} {es : List Expr} {t : TA} {E : XK} (D : Def X.prog X.w X.K X.mg X.base (CXW X.prog X.w) k x ps sp) (hr : Room k X.A) (hx : Passes (CXW X.prog X.w) X E) (ha : PA X (e :: es) t) (hg : Gl X x := by rfl)
    (hdb : (x == ("__debug__" : Str)) = false := by decide) (he : starEach (e :: es) X.env = (false, eval e X.env) :: starEach es X.env := by rfl) (hpl : (backTo pos (starEach es X.env)).any (·.1) = false := by rfl) :
    PE X (.Call (.Name x p) (e :: es) [] pos) (tCall sp [] E t) := by
  obtain ⟨f, fd, F, m, kp, b⟩ := D.ex
  exact pe_call F hr hg m kp b .nil hx ha hdb he hpl
end L2
namespace Mir
open PySem L2
section
variable [Zc]
theorem mse_x {cl : Str → Value} {E : XK} {T : TE → TS} {k : PM → SM} {f : List D → Option ((D × Bool) ⊕ Str)} {t : TA} {m : Rho → Option (List RV × Rho)} (hT : ∀ (te : TE) D σ H, (∀ Q, te σ H Q) → T te D σ H) (hk : ∀ t m, ME t m → MS (T t) (k m)) (h : MA t m) :
    MSE (fun c H => E (cl c) none H) (T (tCall (spX cl f) [] E t)) (eX k (mCallX f m)) := by
  have e0 : tCall (spX cl f) [] E t = tCallX (spX cl f) t (fun _ cls H => E cls none H) := by
    funext σ H Q
    show t σ H (fun vs H1 => spX cl f (vs ++ []) H1 Q E) = t σ H (fun vs H1 => spX cl f vs H1 Q (fun cls _ H2 => E cls none H2))
    congr 1
    funext vs H1
    rw [List.append_nil]
    rfl
  rw [e0]
  intro F B H σ ρ o D R e q
  refine msx_x (cl := cl) (T := T) (te := tCallX (spX cl f) t) hT hk (mex_call h) F B H σ ρ o D _ R e ?_
  cases o with
  | ok o => exact q
  | er c ρ1 => exact fun B1 H1 σ1 R1 => q B1 H1 σ1 R1
theorem mse_retX {cl : Str → Value} {E : XK} {f : List D → Option ((D × Bool) ⊕ Str)} {t : TA} {m : Rho → Option (List RV × Rho)} (h : MA t m) : MSE (fun c H => E (cl c) none H) (tRet (tCall (spX cl f) [] E t)) (eX mRet (mCallX f m)) := mse_x (T := tRet) (fun te D σ H q => q _) (fun t m h => ms_ret h) h
theorem mse_setX {cl : Str → Value} {E : XK} {i : Nat} {f : List D → Option ((D × Bool) ⊕ Str)} {t : TA} {m : Rho → Option (List RV × Rho)} (h : MA t m) : MSE (fun c H => E (cl c) none H) (tAsg (tCall (spX cl f) [] E t) (gName i)) (eX (mAsg i) (mCallX f m)) := mse_x (T := fun te => tAsg te (gName i)) (fun te D σ H q => q _) (fun t m h => ms_asg h) h
end
end Mir
set_option Elab.async false
set_option linter.all false
set_option maxRecDepth 100000
namespace Mir
open PySem L2
section
variable [Zc]
end
end Mir
set_option Elab.async false
set_option linter.all false
set_option maxRecDepth 100000
namespace L2
open PySem PySem.Spec PyProof.Rows PySem.W
def excAt (e : Addr) (cls : Value) : Heap → Prop := fun h => ∃ oe, h.get? e = some oe ∧ oe.cls = cls
def tTryK (tb : TX) (i : Nat) (ok : Value → Prop) (th : Value → Addr → TS) : TS := fun D σ H => tb (fun σ1 cls H2 => ok cls ∧ ∀ e : Addr, H2 e = none → th cls e (D.drop i) (σ1.set i (some (.ref e))) (upd H2 e (.ext (excAt e cls)))) D σ H
theorem Inv.outM {X : Cx} {pins : List (Addr × Obj)} {σ : St} {H : Hp} {s : Shared} {e : Addr} (ok : X.Ok) (I : Inv (X.mkd e) pins σ H s) : Inv X pins σ H s :=
  ⟨ok, I.os, I.bare, I.base, I.loc, I.cell, I.free, I.freeC, I.pin, I.hok, I.len⟩
section
variable {X : Cx}
theorem ps_tryK {K : PySem.W.Frag} {C : Addr} {xC n : Str} {np pos hpos : Pos} {i : Nat} {body : List Stmt} {tb : TX} {th : Value → Addr → TS} {b₀ : Stmt} {suite : List Stmt} (hK : X.K = K) (hb : PXs X body tb)
    (hst : X.stack = X.env :: X.outer) (hfr : X.env.frame = some X.env.locals) (hgC : Gl X xC) (hmC : X.mg xC = some (.ref C)) (hN : X.N.Nodup) (hi : X.N[i]? = some n) (hln : X.env.scope.names.lookup n = some .local)
    (hS : ∀ (cls : Value) (e : Addr), PSs (X.mkd e) (b₀ :: suite) (th cls e))
    (hdC : (xC == ("__debug__" : Str)) = false := by decide) : PS X (.Try body [.ExceptHandler (some (.Name xC np)) (some n) (b₀ :: suite) hpos] [] [] pos) (tTryK tb i (L2.okX K C) th) := by
  subst hK
  intro pins s σ H D I h
  refine wpAny_Try_except ?_
  refine wpAny_mono (hb pins s σ H D _ I h) (fun f s1 q => ?_) fun ev s' hq => ?_
  · cases f with
    | next => exact wpAny_execs_nil q
    | ret v => exact q
    | brk => exact q
    | cont => exact q
  · obtain ⟨ea, t', cls, B, H2, s1, H1, σ1, rfl, I1, fl⟩ := hq
    obtain ⟨okc, hth⟩ := fl.wish
    have fly := fl.fly
    rw [hst] at fly
    refine wpAny_looks_onW (by rw [I.ok.frames, hst]) hfr fly fun h4 held4 sm4 => ?_
    refine wpAny_landsW held4 fun h5 fly5 sm5 => ?_
    have sm : s'.heap.UpToSlots h5 := sm4.trans sm5
    have I5 : Inv X pins σ1 H2 { s' with heap := h5 } := fl.inv I1 (by rw [hst]; exact fly5) sm
    have I5m := I5.mkd (e := ea)
    refine wpAny_handleBy_cons (codeAny_handlers_test (ld_glob I5m hgC hmC ?_ hdC)) (by intro q; cases q)
    have LT : PySem.W.Looks (model X.prog X.w) h5 (typeOf (.ref ea)) cls := by
      obtain ⟨ob, hob, hobc⟩ := fly5.there
      exact hobc ▸ (PySem.W.Looks.ld hob).andThen .now
    have hex : PySem.W.exmOne X.K cls (.ref C) = some true := by obtain ⟨_, _, _, z⟩ := id okc; exact z
    refine (PySem.W.exm_one I5.kIn LT hex) _ _ _ _ (fun _ _ z => z) ?_
    refine codeAny_handlers_suite_as ?_
    refine lands_againW fly5 fun h6 fly6 sm6 => ?_
    have I6 : Inv X pins σ1 H2 { s' with heap := h6 } := fl.inv I1 (by rw [hst]; exact fly6) (sm.trans sm6)
    obtain ⟨oe, ws, hoe, hoec, hoed, _⟩ := fly6.first
    have hHe : H2 ea = none := by
      cases z : H2 ea with
      | none => rfl
      | some u =>
        obtain ⟨o', q'⟩ := (fl.hok ea u z).is
        rw [fly6.2.1] at q'
        cases q'
    have nfr : ea ∉ frs (X.env :: X.outer) := fun hm' => by
      obtain ⟨_, o', q', hd⟩ := fly6.2.2.1.mem hm'
      rw [hoe] at q'
      cases q'
      exact hd ws hoed
    have hne : ∀ b o, s1.heap.get? b = some o → b ≠ ea := fun b o q z => by
      subst z
      obtain ⟨o', q'⟩ := fl.there b o q (by rw [hst]; exact nfr)
      rw [fly6.2.1] at q'
      cases q'
    have nul : ∀ b, b ≠ ea → upd H2 ea (.ext (excAt ea cls)) b = H2 b := fun b z => upd_ne z
    have Ik : Inv (X.mkd ea) pins σ1 (upd H2 ea (.ext (excAt ea cls))) { s' with heap := h6 } := by
      refine ⟨I.ok.mkd, I6.os, I6.bare, ⟨I6.base.keep, I6.base.slot, fun b o q n hx => ?_, I6.base.there, fun b xs q => ?_, fun b o u q => ?_, fun b ps q => ?_⟩, I6.loc, I6.cell, ?_, fun x c hc => ?_, fun p hp => ?_, fun b u q => ?_, I6.len⟩
      · obtain ⟨o', q'⟩ := I1.base.there b o q hx
        rw [nul b (hne b o' q')]; exact I6.base.free b o q n hx
      · have z := I6.base.tups b xs q
        rw [nul b (ne_of_none z hHe)]; exact z
      · have z := I6.base.frzs b o u q
        rw [nul b (ne_of_none z hHe)]; exact z
      · obtain ⟨m, z⟩ := I6.base.tbls b ps q
        exact ⟨m, by rw [nul b (ne_of_none z hHe)]; exact z⟩
      · obtain ⟨m, ⟨o, es, ep, ho, _⟩, _⟩ := I1.loc
        show upd H2 ea _ X.env.locals = none
        rw [nul _ (hne _ _ ho)]; exact I6.free
      · obtain ⟨v, o, ho, _⟩ := I1.cell x c hc
        rw [nul _ (hne _ _ ho)]; exact I6.freeC x c hc
      · obtain ⟨a1, a2, a3, a4, a5⟩ := I6.pin p hp
        exact ⟨a1, by rw [nul _ (hne _ _ (I1.pin p hp).1)]; exact a2, a3, a4, a5⟩
      · by_cases z : b = ea
        · subst z
          rw [upd_same] at q
          cases q
          exact ⟨⟨oe, hoe, hoec⟩, ⟨oe, hoe⟩, fun h1 h2 ⟨o1, p1, p2⟩ k => ⟨o1, k o1 p1, p2⟩⟩
        · rw [nul b z] at q
          exact (I6.hok b u q).stay (fun _ _ _ r => r) (fun c r => by rw [nul c (ne_of_none r hHe)]; exact r) fun c xs r => by rw [nul c (ne_of_none r hHe)]; exact r
    refine store_ok (X := X.mkd ea) Ik hN hi (.inl hln) (v := .ref ea) rfl (fun s7 I7 => ?_) (.inr hln)
    refine wpAny_mono (hS cls ea pins s7 _ _ (D.drop i) I7 (hth ea hHe)) (fun fl' s8 q8 => ?_) (fun _ _ z => z.elim)
    cases fl' with
    | next =>
      obtain ⟨σ8, H8, I8, q8⟩ := q8
      exact goes_ok (I8.outM I.ok) hN hi hln fun s9 I9 => ⟨_, H8, I9, q8⟩
    | brk =>
      obtain ⟨σ8, H8, I8, q8⟩ := q8
      exact goes_ok (I8.outM I.ok) hN hi hln fun s9 I9 => ⟨_, H8, I9, q8⟩
    | cont =>
      obtain ⟨σ8, H8, I8, q8⟩ := q8
      exact goes_ok (I8.outM I.ok) hN hi hln fun s9 I9 => ⟨_, H8, I9, q8⟩
    | ret u =>
      obtain ⟨v8, σ8, H8, I8, r8, q8⟩ := q8
      exact goes_ok (I8.outM I.ok) hN hi hln fun s9 I9 => ⟨v8, _, H8, I9, r8, q8⟩
def rIsiH (K : PySem.W.Frag) : List V → Hp → VK → Prop := fun vs H Q => ∃ e D c cv b, vs = [.ref e, c] ∧ H e = some (.ext (excAt e (.ref D))) ∧ ExcK K D ∧ (∀ u, RelV c u → u = cv) ∧ kitOne K (.ref D) cv = some b ∧ Q (.bl b) H
theorem call_isiH {K : PySem.W.Frag} (hK : X.K = K) : CallR X (.builtin "isinstance") (rIsiH K) := by
  subst hK
  intro pins s σ H vs us Q I r h
  obtain ⟨e, D, c, cv, b, rfl, hH, Z, hcv, hk, q⟩ := h
  obtain ⟨⟨oe, hx, hc⟩, _, _⟩ := I.hok e _ hH
  cases r with
  | cons r1 r =>
    cases r with
    | cons r2 r =>
      cases r
      obtain rfl := r1
      obtain rfl := hcv _ r2
      exact kia_one (kitx_exc (a := e) Z hc) I.kIn hx hk (by intro z; cases z) fun tk => ⟨.bl b, H, I.tok tk, rfl, q⟩
end
end L2
namespace Mir
open PySem L2
def keepN (j : Nat) (ρ1 : Rho) : Option Out := match ρ1[j]? with
  | some (.fz .none) => some (.rt (.bool false, .fz) ρ1)
  | _ => none
def mKeep (b : EM) (i j : Nat) (g : Str → Option Bool) : SM := fun ρ => (b ρ).bind fun o => match o with
  | .ok (.nx ρ1) => keepN j ρ1
  | .er c ρ0 => (g c).bind fun x => if i < ρ0.length ∧ j < ρ0.length then some (.rt (.bool x, .fz) ρ0) else none
  | _ => none
theorem ms_keep [z : Zc] {cl : Str → Value} {tb : TX} {b : EM} {i j : Nat} {g : Str → Option Bool} {ok : Value → Prop} {TR : TE} (h : MSX cl tb b) (hok : ∀ c x, g c = some x → ok (cl c)) (hj : i ≠ j)
    (hF : ∀ σ H Q, σ[j]? = some (some .non) → Q (.bl false) H → TR σ H Q)
    (hT : ∀ c x, g c = some x → ∀ e σ H Q, σ[j]? = some (some (.ref e)) → H e = some (.ext (excAt e (cl c))) → Q (.bl x) H → TR σ H Q) :
    MS (tSeq (tTryK tb i ok (fun _ _ => tAsg (tVar i) (gName j))) (tRet TR)) (mKeep b i j g) := by
  intro F B H σ ρ o D R e q
  obtain ⟨x, e1, e⟩ := Option.bind_eq_some_iff.mp e
  refine h F B H σ ρ x _ _ R e1 ?_
  cases x with
  | ok o' =>
    cases o' with
    | nx ρ1 =>
      intro B1 H1 σ1 R1
      replace e : keepN j ρ1 = some o := e
      unfold keepN at e
      split at e
      · rename_i hz
        cases e
        obtain ⟨v, hv, rv⟩ := R1.slot j _ hz
        cases rv
        exact hF σ1 H1 _ hv (q _ B1 H1 σ1 R1 (.bl false))
      · cases e
    | rt r ρ1 => cases e
    | bk ρ1 => cases e
    | ct ρ1 => cases e
  | er c ρ0 =>
    obtain ⟨y, e2, e⟩ := Option.bind_eq_some_iff.mp (show (g c).bind _ = some o from e)
    split at e
    rotate_left
    · cases e
    rename_i hl
    cases e
    intro B1 H1 σ1 R1
    obtain ⟨l2, l1⟩ := hl
    rw [R1.len] at l1 l2
    refine ⟨hok c y e2, fun ea hea => ?_⟩
    have R2 : Rel F B1 (upd H1 ea (.ext (excAt ea (cl c)))) σ1 ρ0 := by
      refine R1.grow (fun _ _ z => z) (same_upd hea) (fun q o z => same_upd hea q o (R1.sub q o z)) (fun _ _ z => z) (fun q xs z => ?_) fun q o u z y => ?_
      · by_cases w : q = ea
        · subst w; rw [upd_same] at z; cases z
        · rw [upd_ne w] at z; exact R1.tupB q xs z
      · by_cases w : q = ea
        · subst w; rw [upd_same] at z; cases z
        · rw [upd_ne w, y] at z; cases z
    refine ⟨.ref ea, List.getElem?_set_self l2, ?_⟩
    show TR ((((σ1.set i (some (.ref ea))).set j (some (.ref ea))).set i none)) _ D.rt
    refine hT c y e2 ea _ _ _ ?_ upd_same ?_
    · rw [List.getElem?_set_ne hj, List.getElem?_set_self (by rw [List.length_set]; exact l1)]
    · exact q _ B1 _ σ1 R2 (.bl y)
def EvE (t : TE) (σ : St) (H : Hp) (b : Bool) : Prop := ∀ Q : VK, Q (.bl b) H → t σ H Q
def EvT (t : TT) (σ : St) (H : Hp) (b : Bool) : Prop := ∀ Q : Bool → Hp → Prop, Q b H → t σ H Q
def EvS (t : TS) (σ : St) (H : Hp) (b : Bool) : Prop := ∀ D : Ends, D.rt (.bl b) H → t D σ H
def spG (cl : Str → Value) (g : Str → Option Bool) : Sp := fun vs H Q E => ∃ e c x, vs = [.ref e] ∧ H e = some (.ext (excAt e (cl c))) ∧ g c = some x ∧ Q (.bl x) H
section
variable {σ : St} {H : Hp} {b : Bool} {t u : TE} {c d : TT} {p q : TS}
theorem ev_tB (h : EvE t σ H b) : EvT (tB t) σ H b := fun Q q => h _ ⟨b, rfl, q⟩
theorem evT_or_f (h : EvT c σ H false) (h2 : EvT d σ H b) : EvT (tOr c d) σ H b := fun Q q => h _ (by rw [if_neg (by simp)]; exact h2 _ q)
theorem evE_and_t (h : EvE t σ H true) (h2 : EvE u σ H b) : EvE (tAndV t u) σ H b := fun Q q => h _ ⟨true, rfl, by rw [if_pos rfl]; exact h2 _ q⟩
theorem evE_and_f (h : EvE t σ H false) : EvE (tAndV t u) σ H false := fun Q q => h _ ⟨false, rfl, by rw [if_neg (by simp)]; exact q⟩
theorem evE_not (h : EvE t σ H b) : EvE (tNotV t) σ H (!b) := fun Q q => h _ ⟨b, rfl, q⟩
theorem evS_ret (h : EvE t σ H b) : EvS (tRet t) σ H b := fun D q => h _ q
theorem evS_skip (h : EvT c σ H false) (h2 : EvS q σ H b) : EvS (tSeq (tIfS c p tNext) q) σ H b := fun D z => h _ (by rw [if_neg (by simp)]; exact h2 D z)
theorem ev_isi {K : PySem.W.Frag} {i : Nat} {e Dc : Addr} {k : V} {cv : Value} (h : σ[i]? = some (some (.ref e))) (hH : H e = some (.ext (excAt e (.ref Dc)))) (Z : ExcK K Dc) (hcv : ∀ u, RelV k u → u = cv) (hk : PySem.W.kitOne K (.ref Dc) cv = some b) :
    EvE (tCB (rIsiH K) (tCons (tVar i) (tCons (tC k) tNil))) σ H b := fun Q q => ⟨_, h, e, Dc, k, cv, b, rfl, hH, Z, hcv, hk, q⟩
theorem nn_f : (!decide (V.non = V.non)) = false := by simp
theorem nn_t (e : Addr) : (!decide (V.ref e = V.non)) = true := by simp
end
end Mir
set_option maxHeartbeats 4000000
set_option Elab.async false
set_option linter.all false
set_option maxRecDepth 100000
namespace K38
open PySem L2 Mir
noncomputable def b_law_cell_at : SM :=
    (mSeq (mIfS (mTest (mOp gLt (mVar 1) (mCB gLen (mCons (mVar 0) mNil))))
    (mRet (mOp gIx (mVar 0) (mVar 1)))
    mPass)
    (mRet (mC (.int 0))))
noncomputable def m_law_cell_at : List D → Option (D × Bool) := fnM 2 0 b_law_cell_at
noncomputable def b_queue_put : SM :=
    (mRet (mTup (mCons (mTup (mCons (mCB gList (mCons (mOp gIx (mVar 0) (mC (.int 0))) mNil)) (mCons (mOp gAdd (mOp gIx (mVar 0) (mC (.int 1))) (mLst (mCons (mVar 1) mNil))) mNil))) (mCons (mLst (mCons (mC (.str "laid")) mNil)) mNil))))
noncomputable def m_queue_put : List D → Option (D × Bool) := fnM 2 0 b_queue_put
noncomputable def b_moves : SM :=
    (mRet (mRep (mCons (mC (.str "moved")) mNil) (mCB gLen (mCons (mVar 0) mNil))))
noncomputable def m_moves : List D → Option (D × Bool) := fnM 1 0 b_moves
noncomputable def b_room_put : SM :=
    (mSeq (mAsg 2 (mOp gIx (mVar 0) (mC (.int 0))))
    (mSeq (mAsg 3 (mOp gIx (mVar 0) (mC (.int 1))))
    (mSeq (mAsg 4 (mLst mNil))
    (mSeq (mIfS (mTest (mOp gEq (mCB gLen (mCons (mVar 2) mNil)) (mVar 3)))
    (mSeq (mAsg 3 (mOp gMul (mC (.int 2)) (mVar 3)))
    (mAsg 4 (mCall m_moves (mCons (mVar 2) mNil))))
    mPass)
    (mRet (mTup (mCons (mTup (mCons (mOp gAdd (mVar 2) (mLst (mCons (mVar 1) mNil))) (mCons (mVar 3) mNil))) (mCons (mOp gAdd (mVar 4) (mLst (mCons (mC (.str "laid")) mNil))) mNil))))))))
noncomputable def m_room_put : List D → Option (D × Bool) := fnM 2 3 b_room_put
noncomputable def wc1_queue_take : Rho → Option (Bool × Rho) :=
    (mTest (mOp gGt (mCB gLen (mCons (mVar 2) mNil)) (mC (.int 0))))
noncomputable def wb1_queue_take : SM :=
    (mSeq (mDrop (mMut 1 fAppend (mCons (mMut0 2 fPop) mNil)))
    (mDrop (mMut 3 fAppend (mCons (mC (.str "turned")) mNil))))
noncomputable def xb_queue_take : EM :=
    (eSeq (eLift (mAsg 1 (mCB gList (mCons (mOp gIx (mVar 0) (mC (.int 0))) mNil))))
    (eSeq (eLift (mAsg 2 (mCB gList (mCons (mOp gIx (mVar 0) (mC (.int 1))) mNil))))
    (eSeq (eLift (mAsg 3 (mLst mNil)))
    (eSeq (eLift (mIfS (mTest (mOp gEq (mCB gLen (mCons (mVar 1) mNil)) (mC (.int 0))))
    (mWhile wc1_queue_take
    wb1_queue_take 1000000)
    mPass))
    (eSeq (eIf (mTest (mOp gEq (mCB gLen (mCons (mVar 1) mNil)) (mC (.int 0))))
    (eRaise "Empty" (mCons (mC (.str "the queue has no things")) mNil))
    (eLift mPass))
    (eSeq (eLift (mAsg 4 (mMut0 1 fPop)))
    (eSeq (eLift (mDrop (mMut 3 fAppend (mCons (mC (.str "taken")) mNil))))
    (eLift (mRet (mTup (mCons (mVar 4) (mCons (mTup (mCons (mVar 1) (mCons (mVar 2) mNil))) (mCons (mVar 3) mNil)))))))))))))
noncomputable def x_queue_take : List D → Option ((D × Bool) ⊕ Str) := fnX 1 4 xb_queue_take
noncomputable def b_queue_take : SM :=
    (mSeq (mAsg 1 (mCB gList (mCons (mOp gIx (mVar 0) (mC (.int 0))) mNil)))
    (mSeq (mAsg 2 (mCB gList (mCons (mOp gIx (mVar 0) (mC (.int 1))) mNil)))
    (mSeq (mAsg 3 (mLst mNil))
    (mSeq (mIfS (mTest (mOp gEq (mCB gLen (mCons (mVar 1) mNil)) (mC (.int 0))))
    (mWhile wc1_queue_take
    wb1_queue_take 1000000)
    mPass)
    (mSeq (mIfS (mTest (mOp gEq (mCB gLen (mCons (mVar 1) mNil)) (mC (.int 0))))
    mNever
    mPass)
    (mSeq (mAsg 4 (mMut0 1 fPop))
    (mSeq (mDrop (mMut 3 fAppend (mCons (mC (.str "taken")) mNil)))
    (mRet (mTup (mCons (mVar 4) (mCons (mTup (mCons (mVar 1) (mCons (mVar 2) mNil))) (mCons (mVar 3) mNil))))))))))))
noncomputable def m_queue_take : List D → Option (D × Bool) := fnM 1 4 b_queue_take
noncomputable def xb_room_take : EM :=
    (eSeq (eIf (mTest (mOp gEq (mCB gLen (mCons (mOp gIx (mVar 0) (mC (.int 0))) mNil)) (mC (.int 0))))
    (eRaise "Empty" (mCons (mC (.str "the room has no things")) mNil))
    (eLift mPass))
    (eSeq (eLift (mAsg 1 (mSl gSl (mOp gIx (mVar 0) (mC (.int 0))) mNoPart (mPart (mUn gNeg (mC (.int 1)))))))
    (eSeq (eLift (mAsg 2 (mOp gIx (mVar 0) (mC (.int 1)))))
    (eSeq (eLift (mAsg 3 (mLst (mCons (mC (.str "taken")) mNil))))
    (eSeq (eLift (mIfS (mAnd (mTest (mOp gGt (mVar 2) (mC (.int 4)))) (mTest (mOp gLe (mOp gMul (mC (.int 4)) (mCB gLen (mCons (mVar 1) mNil))) (mVar 2))))
    (mSeq (mAsg 2 (mOp gDiv (mVar 2) (mC (.int 2))))
    (mAsg 3 (mOp gAdd (mVar 3) (mCall m_moves (mCons (mVar 1) mNil)))))
    mPass))
    (eLift (mRet (mTup (mCons (mOp gIx (mOp gIx (mVar 0) (mC (.int 0))) (mUn gNeg (mC (.int 1)))) (mCons (mTup (mCons (mVar 1) (mCons (mVar 2) mNil))) (mCons (mVar 3) mNil)))))))))))
noncomputable def x_room_take : List D → Option ((D × Bool) ⊕ Str) := fnX 1 3 xb_room_take
noncomputable def b_room_take : SM :=
    (mSeq (mIfS (mTest (mOp gEq (mCB gLen (mCons (mOp gIx (mVar 0) (mC (.int 0))) mNil)) (mC (.int 0))))
    mNever
    mPass)
    (mSeq (mAsg 1 (mSl gSl (mOp gIx (mVar 0) (mC (.int 0))) mNoPart (mPart (mUn gNeg (mC (.int 1))))))
    (mSeq (mAsg 2 (mOp gIx (mVar 0) (mC (.int 1))))
    (mSeq (mAsg 3 (mLst (mCons (mC (.str "taken")) mNil)))
    (mSeq (mIfS (mAnd (mTest (mOp gGt (mVar 2) (mC (.int 4)))) (mTest (mOp gLe (mOp gMul (mC (.int 4)) (mCB gLen (mCons (mVar 1) mNil))) (mVar 2))))
    (mSeq (mAsg 2 (mOp gDiv (mVar 2) (mC (.int 2))))
    (mAsg 3 (mOp gAdd (mVar 3) (mCall m_moves (mCons (mVar 1) mNil)))))
    mPass)
    (mRet (mTup (mCons (mOp gIx (mOp gIx (mVar 0) (mC (.int 0))) (mUn gNeg (mC (.int 1)))) (mCons (mTup (mCons (mVar 1) (mCons (mVar 2) mNil))) (mCons (mVar 3) mNil))))))))))
noncomputable def m_room_take : List D → Option (D × Bool) := fnM 1 3 b_room_take
noncomputable def b_put_first : SM :=
    (mRet (mTup (mCons (mTup (mCons (mOp gAdd (mOp gIx (mVar 0) (mC (.int 0))) (mLst (mCons (mVar 1) mNil))) (mCons (mCB gList (mCons (mOp gIx (mVar 0) (mC (.int 1))) mNil)) mNil))) (mCons (mLst (mCons (mC (.str "laid")) mNil)) mNil))))
noncomputable def m_put_first : List D → Option (D × Bool) := fnM 2 0 b_put_first
noncomputable def b_put_last : SM :=
    (mRet (mTup (mCons (mTup (mCons (mCB gList (mCons (mOp gIx (mVar 0) (mC (.int 0))) mNil)) (mCons (mOp gAdd (mOp gIx (mVar 0) (mC (.int 1))) (mLst (mCons (mVar 1) mNil))) mNil))) (mCons (mLst (mCons (mC (.str "laid")) mNil)) mNil))))
noncomputable def m_put_last : List D → Option (D × Bool) := fnM 2 0 b_put_last
noncomputable def xb_take_near : EM :=
    (eSeq (eLift (mIfS (mTest (mOp gGt (mCB gLen (mCons (mVar 0) mNil)) (mC (.int 0))))
    (mRet (mTup (mCons (mOp gIx (mVar 0) (mUn gNeg (mC (.int 1)))) (mCons (mTup (mCons (mSl gSl (mVar 0) mNoPart (mPart (mUn gNeg (mC (.int 1))))) (mCons (mCB gList (mCons (mVar 1) mNil)) mNil))) (mCons (mLst (mCons (mC (.str "taken")) mNil)) mNil)))))
    mPass))
    (eSeq (eIf (mTest (mOp gEq (mCB gLen (mCons (mVar 1) mNil)) (mC (.int 0))))
    (eRaise "Empty" (mCons (mC (.str "the double has no things")) mNil))
    (eLift mPass))
    (eSeq (eLift (mAsg 2 (mOp gDiv (mOp gAdd (mCB gLen (mCons (mVar 1) mNil)) (mC (.int 1))) (mC (.int 2)))))
    (eSeq (eLift (mAsg 3 (mCB gListRev (mCons (mSl gSl (mVar 1) mNoPart (mPart (mVar 2))) mNil))))
    (eSeq (eLift (mAsg 4 (mMut0 3 fPop)))
    (eLift (mRet (mTup (mCons (mVar 4) (mCons (mTup (mCons (mVar 3) (mCons (mSl gSl (mVar 1) (mPart (mVar 2)) mNoPart) mNil))) (mCons (mOp gAdd (mRep (mCons (mC (.str "moved")) mNil) (mCB gLen (mCons (mVar 1) mNil))) (mLst (mCons (mC (.str "taken")) mNil))) mNil)))))))))))
noncomputable def x_take_near : List D → Option ((D × Bool) ⊕ Str) := fnX 2 3 xb_take_near
noncomputable def b_take_near : SM :=
    (mSeq (mIfS (mTest (mOp gGt (mCB gLen (mCons (mVar 0) mNil)) (mC (.int 0))))
    (mRet (mTup (mCons (mOp gIx (mVar 0) (mUn gNeg (mC (.int 1)))) (mCons (mTup (mCons (mSl gSl (mVar 0) mNoPart (mPart (mUn gNeg (mC (.int 1))))) (mCons (mCB gList (mCons (mVar 1) mNil)) mNil))) (mCons (mLst (mCons (mC (.str "taken")) mNil)) mNil)))))
    mPass)
    (mSeq (mIfS (mTest (mOp gEq (mCB gLen (mCons (mVar 1) mNil)) (mC (.int 0))))
    mNever
    mPass)
    (mSeq (mAsg 2 (mOp gDiv (mOp gAdd (mCB gLen (mCons (mVar 1) mNil)) (mC (.int 1))) (mC (.int 2))))
    (mSeq (mAsg 3 (mCB gListRev (mCons (mSl gSl (mVar 1) mNoPart (mPart (mVar 2))) mNil)))
    (mSeq (mAsg 4 (mMut0 3 fPop))
    (mRet (mTup (mCons (mVar 4) (mCons (mTup (mCons (mVar 3) (mCons (mSl gSl (mVar 1) (mPart (mVar 2)) mNoPart) mNil))) (mCons (mOp gAdd (mRep (mCons (mC (.str "moved")) mNil) (mCB gLen (mCons (mVar 1) mNil))) (mLst (mCons (mC (.str "taken")) mNil))) mNil))))))))))
noncomputable def m_take_near : List D → Option (D × Bool) := fnM 2 3 b_take_near
noncomputable def xb_take_first : EM :=
    (eX mRet (mCallX x_take_near (mCons (mOp gIx (mVar 0) (mC (.int 0))) (mCons (mOp gIx (mVar 0) (mC (.int 1))) mNil))))
noncomputable def x_take_first : List D → Option ((D × Bool) ⊕ Str) := fnX 1 0 xb_take_first
noncomputable def b_take_first : SM :=
    (mRet (mCall m_take_near (mCons (mOp gIx (mVar 0) (mC (.int 0))) (mCons (mOp gIx (mVar 0) (mC (.int 1))) mNil))))
noncomputable def m_take_first : List D → Option (D × Bool) := fnM 1 0 b_take_first
noncomputable def xb_take_last : EM :=
    (eSeq (eX (mAsg 1) (mCallX x_take_near (mCons (mOp gIx (mVar 0) (mC (.int 1))) (mCons (mOp gIx (mVar 0) (mC (.int 0))) mNil))))
    (eLift (mRet (mTup (mCons (mOp gIx (mVar 1) (mC (.int 0))) (mCons (mTup (mCons (mOp gIx (mOp gIx (mVar 1) (mC (.int 1))) (mC (.int 1))) (mCons (mOp gIx (mOp gIx (mVar 1) (mC (.int 1))) (mC (.int 0))) mNil))) (mCons (mOp gIx (mVar 1) (mC (.int 2))) mNil)))))))
noncomputable def x_take_last : List D → Option ((D × Bool) ⊕ Str) := fnX 1 1 xb_take_last
noncomputable def b_take_last : SM :=
    (mSeq (mAsg 1 (mCall m_take_near (mCons (mOp gIx (mVar 0) (mC (.int 1))) (mCons (mOp gIx (mVar 0) (mC (.int 0))) mNil))))
    (mRet (mTup (mCons (mOp gIx (mVar 1) (mC (.int 0))) (mCons (mTup (mCons (mOp gIx (mOp gIx (mVar 1) (mC (.int 1))) (mC (.int 1))) (mCons (mOp gIx (mOp gIx (mVar 1) (mC (.int 1))) (mC (.int 0))) mNil))) (mCons (mOp gIx (mVar 1) (mC (.int 2))) mNil))))))
noncomputable def m_take_last : List D → Option (D × Bool) := fnM 1 1 b_take_last
noncomputable def lb1_law_emptied : SM :=
    (mSeq (mAsg 2 (mOp gIx (mCall m_queue_take (mCons (mVar 2) mNil)) (mC (.int 1))))
    (mSeq (mAsg 4 (mOp gIx (mCall m_room_take (mCons (mVar 4) mNil)) (mC (.int 1))))
    (mIfS (mTest (mOp gEq (mOp gMod (mOp gShr (mVar 1) (mOp gAdd (mVar 0) (mVar 5))) (mC (.int 2))) (mC (.int 1))))
    (mAsg 3 (mOp gIx (mCall m_take_first (mCons (mVar 3) mNil)) (mC (.int 1))))
    (mAsg 3 (mOp gIx (mCall m_take_last (mCons (mVar 3) mNil)) (mC (.int 1)))))))
noncomputable def lb2_law_emptied : SM :=
    (mSeq (mAsg 2 (mOp gIx (mCall m_queue_put (mCons (mVar 2) (mCons (mVar 5) mNil))) (mC (.int 0))))
    (mSeq (mAsg 4 (mOp gIx (mCall m_room_put (mCons (mVar 4) (mCons (mVar 5) mNil))) (mC (.int 0))))
    (mIfS (mTest (mOp gEq (mOp gMod (mOp gShr (mVar 1) (mVar 5)) (mC (.int 2))) (mC (.int 1))))
    (mAsg 3 (mOp gIx (mCall m_put_first (mCons (mVar 3) (mCons (mVar 5) mNil))) (mC (.int 0))))
    (mAsg 3 (mOp gIx (mCall m_put_last (mCons (mVar 3) (mCons (mVar 5) mNil))) (mC (.int 0)))))))
noncomputable def b_law_emptied : SM :=
    (mSeq (mAsg 2 (mTup (mCons (mLst mNil) (mCons (mLst mNil) mNil))))
    (mSeq (mAsg 3 (mTup (mCons (mLst mNil) (mCons (mLst mNil) mNil))))
    (mSeq (mAsg 4 (mTup (mCons (mLst mNil) (mCons (mC (.int 4)) mNil))))
    (mSeq (mFor (mRg1 (mCons (mVar 0) mNil)) (mgN 5)
    lb2_law_emptied)
    (mSeq (mFor (mRg1 (mCons (mVar 0) mNil)) (mgN 5)
    lb1_law_emptied)
    (mRet (mLst (mCons (mVar 2) (mCons (mVar 3) (mCons (mVar 4) mNil))))))))))
noncomputable def m_law_emptied : List D → Option (D × Bool) := fnM 2 4 b_law_emptied
noncomputable def b_law_thing_by : SM :=
    (mSeq (mIfS (mTest (mOp gEq (mOp gMod (mVar 0) (mC (.int 6))) (mC (.int 0))))
    (mRet (mC .none))
    mPass)
    (mSeq (mIfS (mTest (mOp gEq (mOp gMod (mVar 0) (mC (.int 6))) (mC (.int 1))))
    (mRet (mOp gIx (mLst (mCons (mC (.str "")) (mCons (mC (.str " A1 ")) (mCons (mC (.str "b ~")) mNil)))) (mOp gMod (mOp gDiv (mVar 0) (mC (.int 6))) (mC (.int 3)))))
    mPass)
    (mSeq (mIfS (mTest (mOp gEq (mOp gMod (mVar 0) (mC (.int 6))) (mC (.int 2))))
    (mRet (mTup (mCons (mOp gMod (mOp gDiv (mVar 0) (mC (.int 6))) (mC (.int 100))) (mCons (mC (.str "t")) (mCons (mTup (mCons (mC .none) (mCons (mTup mNil) mNil))) mNil)))))
    mPass)
    (mSeq (mIfS (mTest (mOp gEq (mOp gMod (mVar 0) (mC (.int 6))) (mC (.int 3))))
    (mRet (mOp gSub (mOp gMod (mOp gDiv (mVar 0) (mC (.int 6))) (mC (.int 13))) (mC (.int 6))))
    mPass)
    (mSeq (mIfS (mTest (mOp gEq (mOp gMod (mVar 0) (mC (.int 6))) (mC (.int 4))))
    (mRet (mTup mNil))
    mPass)
    (mRet (mOp gAdd (mOp gSub (mOp gMod (mOp gDiv (mVar 0) (mC (.int 6))) (mOp gSub (mOp gMul (mC (.int 2)) (mOp gPow (mC (.int 10)) (mC (.int 60)))) (mC (.int 1)))) (mOp gPow (mC (.int 10)) (mC (.int 60)))) (mC (.int 1)))))))))
noncomputable def m_law_thing_by : List D → Option (D × Bool) := fnM 1 0 b_law_thing_by
noncomputable def b_queue_row : SM :=
    (mRet (mOp gAdd (mCB gListRev (mCons (mOp gIx (mVar 0) (mC (.int 0))) mNil)) (mOp gIx (mVar 0) (mC (.int 1)))))
noncomputable def m_queue_row : List D → Option (D × Bool) := fnM 1 0 b_queue_row
noncomputable def b_double_row : SM :=
    (mRet (mOp gAdd (mCB gListRev (mCons (mOp gIx (mVar 0) (mC (.int 0))) mNil)) (mOp gIx (mVar 0) (mC (.int 1)))))
noncomputable def m_double_row : List D → Option (D × Bool) := fnM 1 0 b_double_row
noncomputable def b_queue_credit : SM :=
    (mRet (mCB gLen (mCons (mOp gIx (mVar 0) (mC (.int 1))) mNil)))
noncomputable def m_queue_credit : List D → Option (D × Bool) := fnM 1 0 b_queue_credit
noncomputable def b_double_credit : SM :=
    (mRet (mCB gAbs (mCons (mOp gSub (mCB gLen (mCons (mOp gIx (mVar 0) (mC (.int 0))) mNil)) (mCB gLen (mCons (mOp gIx (mVar 0) (mC (.int 1))) mNil))) mNil)))
noncomputable def m_double_credit : List D → Option (D × Bool) := fnM 1 0 b_double_credit
noncomputable def b_room_credit : SM :=
    (mSeq (mAsg 1 (mCB gLen (mCons (mOp gIx (mVar 0) (mC (.int 0))) mNil)))
    (mSeq (mAsg 2 (mOp gIx (mVar 0) (mC (.int 1))))
    (mSeq (mIfS (mTest (mOp gGt (mOp gMul (mC (.int 2)) (mVar 1)) (mVar 2)))
    (mRet (mOp gSub (mOp gMul (mC (.int 2)) (mVar 1)) (mVar 2)))
    mPass)
    (mSeq (mIfS (mTest (mOp gGt (mVar 2) (mC (.int 4))))
    (mRet (mOp gSub (mOp gDiv (mVar 2) (mC (.int 2))) (mVar 1)))
    mPass)
    (mRet (mC (.int 0)))))))
noncomputable def m_room_credit : List D → Option (D × Bool) := fnM 1 2 b_room_credit
noncomputable def b_law_bare : SM :=
    (mSeq (mAsgG (mVar 0) (mgU 3 (mgsCons (mgN 1) (mgsCons (mgN 2) (mgsCons (mgN 3) mgsNil)))))
    (mSeq (mIfS (mOr (mTest (mOp gNe (mCall m_queue_row (mCons (mVar 1) mNil)) (mLst mNil))) (mOr (mTest (mOp gNe (mCall m_double_row (mCons (mVar 2) mNil)) (mLst mNil))) (mTest (mOp gNe (mVar 3) (mTup (mCons (mLst mNil) (mCons (mC (.int 4)) mNil)))))))
    (mRet (mC (.bool false)))
    mPass)
    (mRet (mAndV (mOp gEq (mCall m_queue_credit (mCons (mVar 1) mNil)) (mC (.int 0))) (mAndV (mOp gEq (mCall m_double_credit (mCons (mVar 2) mNil)) (mC (.int 0))) (mOp gEq (mCall m_room_credit (mCons (mVar 3) mNil)) (mC (.int 0))))))))
noncomputable def m_law_bare : List D → Option (D × Bool) := fnM 1 3 b_law_bare
noncomputable def ce1_law_same (self : List D → Option (D × Bool)) : PM :=
    (mCall self (mCons (mVar 0) (mCons (mVar 1) mNil)))
noncomputable def b_law_same (self : List D → Option (D × Bool)) : SM :=
    (mSeq (mIfS (mOr (mTest (mIsi "bool" (mVar 0))) (mTest (mOp gNe (mIsi "tuple" (mVar 0)) (mIsi "tuple" (mVar 1)))))
    (mRet (mC (.bool false)))
    mPass)
    (mSeq (mIfS (mTest (mIsi "tuple" (mVar 1)))
    (mRet (mAndV (mOp gEq (mCB gLen (mCons (mVar 0) mNil)) (mCB gLen (mCons (mVar 1) mNil))) (mCB gAll (mCons (mLC2 [] (mItZT (mCons (mVar 0) (mCons (mVar 1) mNil))) mYes (ce1_law_same self)) mNil))))
    mPass)
    (mRet (mOp gEq (mVar 0) (mVar 1)))))
noncomputable def m_law_same : Nat → List D → Option (D × Bool)
  | 0 => fun _ => none
  | n + 1 => fnM 2 0 (b_law_same (m_law_same n))
noncomputable def xb_law_take : EM :=
    (eSeq (eIf (mTest (mOp gEq (mVar 0) (mC (.int 0))))
    (eX mRet (mCallX x_queue_take (mCons (mVar 1) mNil)))
    (eLift mPass))
    (eSeq (eIf (mTest (mOp gEq (mVar 0) (mC (.int 1))))
    (eX mRet (mCallX x_take_first (mCons (mVar 1) mNil)))
    (eLift mPass))
    (eSeq (eIf (mTest (mOp gEq (mVar 0) (mC (.int 2))))
    (eX mRet (mCallX x_take_last (mCons (mVar 1) mNil)))
    (eLift mPass))
    (eX mRet (mCallX x_room_take (mCons (mVar 1) mNil))))))
noncomputable def x_law_take : List D → Option ((D × Bool) ⊕ Str) := fnX 2 0 xb_law_take
def g_law_is_empty : Str → Option Bool := fun c => if c = "Empty" then some true else none
noncomputable def b_law_refused : SM :=
    (mSeq (mAsg 2 (mC .none))
    (mKeep (eX mDrop (mCallX x_law_take (mCons (mVar 0) (mCons (mVar 1) mNil)))) 3 2 g_law_is_empty))
noncomputable def m_law_refused : List D → Option (D × Bool) := fnM 2 2 b_law_refused
noncomputable def lb1_law : SM :=
    (mIfS (mOr (mNot (mTest (mCall (m_law_same 8) (mCons (mOp gIx (mCall m_take_first (mCons (mVar 8) mNil)) (mC (.int 0))) (mCons (mVar 3) mNil))))) (mNot (mTest (mCall (m_law_same 8) (mCons (mOp gIx (mCall m_take_last (mCons (mVar 8) mNil)) (mC (.int 0))) (mCons (mVar 3) mNil))))))
    (mRet (mC (.bool false)))
    mPass)
noncomputable def lb2_law : SM :=
    (mIfS (mOr (mNot (mTest (mCall m_law_refused (mCons (mVar 4) (mCons (mOp gIx (mVar 2) (mOp gIx (mLst (mCons (mC (.int 0)) (mCons (mC (.int 1)) (mCons (mC (.int 1)) (mCons (mC (.int 2)) mNil))))) (mVar 4))) mNil))))) (mNot (mTest (mCall m_law_bare (mCons (mVar 2) mNil)))))
    (mRet (mC (.bool false)))
    mPass)
noncomputable def b_law : SM :=
    (mSeq (mAsg 1 (mCall m_law_cell_at (mCons (mVar 0) (mCons (mC (.int 0)) mNil))))
    (mSeq (mAsg 2 (mCall m_law_emptied (mCons (mOp gMod (mVar 1) (mC (.int 9))) (mCons (mOp gMod (mOp gDiv (mVar 1) (mC (.int 9))) (mC (.int 65536))) mNil))))
    (mSeq (mAsg 3 (mCall m_law_thing_by (mCons (mCall m_law_cell_at (mCons (mVar 0) (mCons (mC (.int 1)) mNil))) mNil)))
    (mSeq (mFor (mRg1 (mCons (mC (.int 4)) mNil)) (mgN 4)
    lb2_law)
    (mSeq (mAsg 5 (mOp gIx (mCall m_queue_put (mCons (mOp gIx (mVar 2) (mC (.int 0))) (mCons (mVar 3) mNil))) (mC (.int 0))))
    (mSeq (mAsg 6 (mOp gIx (mCall m_room_put (mCons (mOp gIx (mVar 2) (mC (.int 2))) (mCons (mVar 3) mNil))) (mC (.int 0))))
    (mSeq (mAsg 7 (mLst (mCons (mOp gIx (mCall m_put_first (mCons (mOp gIx (mVar 2) (mC (.int 1))) (mCons (mVar 3) mNil))) (mC (.int 0))) (mCons (mOp gIx (mCall m_put_last (mCons (mOp gIx (mVar 2) (mC (.int 1))) (mCons (mVar 3) mNil))) (mC (.int 0))) mNil))))
    (mSeq (mIfS (mOr (mNot (mTest (mCall (m_law_same 8) (mCons (mOp gIx (mCall m_queue_take (mCons (mVar 5) mNil)) (mC (.int 0))) (mCons (mVar 3) mNil))))) (mNot (mTest (mCall (m_law_same 8) (mCons (mOp gIx (mCall m_room_take (mCons (mVar 6) mNil)) (mC (.int 0))) (mCons (mVar 3) mNil))))))
    (mRet (mC (.bool false)))
    mPass)
    (mSeq (mFor (mFoL (mVar 7)) (mgN 8)
    lb1_law)
    (mRet (mCall m_law_bare (mCons (mVar 2) mNil))))))))))))
noncomputable def m_law : List D → Option (D × Bool) := fnM 1 8 b_law
end K38
set_option Elab.async false
set_option linter.all false
set_option maxRecDepth 100000
namespace K38
open PySem L2 Mir
local macro_rules | `(tactic| walk_at "mir") => `(tactic| simp only [*, fnM, mSeq, mIfS, mTest, mOp, sv, mVar, mC, mCB, mCons, mNil, refr, gB0, gI0, gI, gAdd, gMul, gNeg, gIx, atI_map, gSl, gLen, gMax, gMin, gAbs, gInt, gIs, gIsNot, resK_f, resK_l, resK_t, asB, asI, mUn, mIsi, gEq_int, gNe_int, gEq_ints, gNe_ints, gEq_bool, gNe_bool, isi_int_int, isi_int_bool, isi_list_list, isi_tuple_tuple, isNone,
  mAnd, mOr, mNot, mAndV, mOrV, mNotV, mIfE, mTup, mLst, fzAll, fzOne, mAsg, sto, setSl, mRet, mRetN, mDrop, mPass, mAug, retD, mCall, pureR_int, pureR_bool, pureR_str, pureR_none, pureR_list, pureR_tup, pureR_new, pureDs_nil, pureDs_int, pureDs_bool, pureDs_list, pureDs_ints, kO_f, kO_t, mRg1, mRg2, rg1, rg2, mItL, mFoL, asL, asT, mFor, mgN, mgT, mgU, asS, mgsCons, mgsNil, mAsgG, mgSub, ownL, Mir.putAt, Sl.put, mMut, mMut0, fAppend, fPop, fClear,
  List.length_cons, List.length_nil, List.map_cons, List.map_nil, List.cons_append, List.nil_append, List.replicate, List.getElem?_cons_zero, List.getElem?_cons_succ, List.getElem?_nil, List.set_cons_zero, List.set_cons_succ,
  Option.bind_some, Option.bind_none, Option.map_some, Option.map_none, if_true, if_false, cIf_true, Bool.false_eq_true, reduceIte, decide_true, decide_false, Bool.not_true, Bool.not_false, ite_true, ite_false, Nat.reduceAdd, Nat.reduceEqDiff, Bool.and_true, Bool.true_and, Bool.and_false, Bool.not_eq_true, not_true_eq_false, not_false_eq_true, Int.reduceLT, Int.reduceLE, Int.reduceEq, Nat.reduceLeDiff])
local macro_rules | `(tactic| walk_at "st") => `(tactic| (apply seq_nx; · (walk_at "mir"; try exact rfl)))
def cell (ns : List Int) (k : Nat) : Int := ns.getD k 0
theorem cell_at (ns : List Int) (k : Nat) : m_law_cell_at [.list (ns.map .int), .int k] = some (.int (cell ns k), false) := by
  unfold m_law_cell_at b_law_cell_at cell
  by_cases h : k < ns.length
  · have c : (k : Int) < ((ns.map PyData.int).length : Int) := by simp only [List.length_map]; omega
    have e : L2.atI ns (k : Int) = some ns[k] := by rw [Mir.atI_nat, List.getElem?_eq_getElem h]
    rw [List.getD_eq_getElem?_getD, List.getElem?_eq_getElem h, Option.getD_some]
    walk_at "mir"
  · have c : ¬ (k : Int) < ((ns.map PyData.int).length : Int) := by simp only [List.length_map]; omega
    rw [List.getD_eq_getElem?_getD, List.getElem?_eq_none (by omega), Option.getD_none]
    walk_at "mir"
theorem op_ro {a b : PM} {ρ ρ1 ρ2 : Rho} {x : D} {r : RV} {res : D × Bool} {g : D → D → Option (D × Bool)} (h1 : sv a ρ = some ((x, .ro), ρ1)) (h2 : sv b ρ1 = some (r, ρ2)) (h3 : g x r.1 = some res) : mOp g a b ρ = some (resK res, ρ2) := by
  unfold mOp; rw [h1, Option.bind_some]; dsimp only; rw [h2, Option.bind_some]; dsimp only [refr, Option.bind_some]; rw [h3, Option.map_some]
theorem call_fz {f : List D → Option (D × Bool)} {m : Rho → Option (List RV × Rho)} {ρ ρ1 : Rho} {rs : List RV} {d : D} {o : Bool} {ds : List D} (h1 : m ρ = some (rs, ρ1)) (h2 : f (rs.map (·.1)) = some (d, o)) (h3 : fzAll rs ρ1 = some (ds, ρ1)) : mCall f m ρ = some (kO d o, ρ1) := by
  unfold mCall; rw [h1, Option.bind_some]; dsimp only; rw [h2, Option.bind_some]
  split
  · rfl
  · rw [h3]; rfl
theorem eseq_nx {a b : EM} {ρ ρ1 : Rho} {o : Option OutE} (h1 : a ρ = some (.ok (.nx ρ1))) (h2 : b ρ1 = o) : eSeq a b ρ = o := by unfold eSeq; rw [h1]; exact h2
theorem eseq_er {a b : EM} {ρ ρ1 : Rho} {c : Str} (h1 : a ρ = some (.er c ρ1)) : eSeq a b ρ = some (.er c ρ1) := by unfold eSeq; rw [h1]; rfl
theorem elift_ev {m : SM} {ρ : Rho} {o : Out} (h : m ρ = some o) : eLift m ρ = some (.ok o) := by unfold eLift; rw [h]; rfl
theorem eif_t {c : Rho → Option (Bool × Rho)} {a b : EM} {ρ ρ1 : Rho} {o : Option OutE} (h1 : c ρ = some (true, ρ1)) (h2 : a ρ1 = o) : eIf c a b ρ = o := by unfold eIf; rw [h1, Option.bind_some]; dsimp only; rw [if_pos rfl, h2]
theorem eif_f {c : Rho → Option (Bool × Rho)} {a b : EM} {ρ ρ1 : Rho} {o : Option OutE} (h1 : c ρ = some (false, ρ1)) (h2 : b ρ1 = o) : eIf c a b ρ = o := by unfold eIf; rw [h1, Option.bind_some]; dsimp only; rw [if_neg Bool.false_ne_true, h2]
theorem fnX_er {n k : Nat} {b : EM} {ds : List D} {c : Str} {ρ : Rho} (hl : ds.length = n) (h : b (ds.map .fz ++ List.replicate k .no) = some (.er c ρ)) : fnX n k b ds = some (.inr c) := by
  unfold fnX; rw [if_pos hl, h]; rfl
theorem fnX_ok {n k : Nat} {b : EM} {ds : List D} {o : Out} {r : D × Bool} (hl : ds.length = n) (h : b (ds.map .fz ++ List.replicate k .no) = some (.ok o)) (hr : retD o = some r) : fnX n k b ds = some (.inl r) := by
  unfold fnX; rw [if_pos hl, h]; show (retD o).map _ = _; rw [hr]; rfl
def NIo (s : Sl) : Prop := ∀ d, s ≠ .io d
theorem NIo.no : NIo .no := fun d h => by cases h
theorem NIo.fz (x : D) : NIo (.fz x) := fun d h => by cases h
theorem NIo.own (x : D) : NIo (.own x) := fun d h => by cases h
theorem set_nio {ρ : Rho} {i : Nat} {s : Sl} (q : Sl) (h : ρ[i]? = some s) (hs : NIo s) : setSl ρ i q = some (ρ.set i q) := by
  unfold setSl
  rw [h]
  cases s <;> first | rfl | exact absurd rfl (hs _)
theorem mgN_nio {ρ : Rho} {i : Nat} {s : Sl} {d : D} (h : ρ[i]? = some s) (hs : NIo s) : mgN i d ρ = some (ρ.set i (.fz d)) := set_nio _ h hs
local macro_rules | `(tactic| walk_at "szo") => `(tactic| (try simp only [List.length_append, List.length_cons, List.length_nil, List.length_reverse, List.length_replicate, List.length_map]; omega))
theorem lc2_ev {fr : List (Str × Nat)} {it : Rho → Option (List D × Rho)} {c : Rho → Option (Bool × Rho)} {e : PM} {ds ys : List D} {ρ ρ1 : Rho} (h1 : it ρ = some (ds, ρ1)) (h2 : compL2 c e (fr.map fun p => demote ρ1 p.2) ds = some ys) (h3 : ys.length ≤ 100000) : mLC2 fr it c e ρ = some ((.list ys, .new), ρ1) := by
  unfold mLC2; rw [h1, Option.bind_some]; dsimp only; rw [h2, Option.bind_some, cIf_pos (sz_lt h3)]
theorem zipD_self (ds : List D) : zipD ds ds = ds.map fun d => PyData.tuple [d, d] := by
  unfold zipD
  induction ds with
  | nil => rfl
  | cons d ds ih => rw [List.zipWith_cons_cons, ih, List.map_cons]
theorem compL2_all {e : PM} {ρn : Rho} : ∀ ds : List D, (∀ d ∈ ds, ∃ ρ, sv e (.fz d :: .fz d :: ρn) = some ((.bool true, .fz), ρ)) → compL2 mYes e ρn (ds.map fun d => PyData.tuple [d, d]) = some (ds.map fun _ => PyData.bool true)
  | [], _ => rfl
  | d :: ds, h => by
    obtain ⟨ρ, h1⟩ := h d List.mem_cons_self
    have ih := compL2_all ds fun x hx => h x (List.mem_cons_of_mem _ hx)
    rw [List.map_cons, List.map_cons]
    unfold compL2
    show ((mYes (.fz d :: .fz d :: ρn)).bind fun b => if b.1 = true then (sv e (.fz d :: .fz d :: ρn)).bind fun y => (asF y.1).bind fun z => (compL2 mYes e ρn (ds.map fun d => PyData.tuple [d, d])).map (z :: ·) else compL2 mYes e ρn (ds.map fun d => PyData.tuple [d, d])) = _
    rw [h1, ih]
    rfl
theorem boolsOf_true : ∀ ds : List D, boolsOf (ds.map fun _ => PyData.bool true) = some (ds.map fun _ => true)
  | [] => rfl
  | d :: ds => by rw [List.map_cons]; unfold boolsOf; rw [boolsOf_true ds]; rfl
theorem gAll_true (ds : List D) : gAll [.list (ds.map fun _ => PyData.bool true)] = some (.bool true, false) := by
  show (boolsOf _).map _ = _
  rw [boolsOf_true, Option.map_some]
  have : (ds.map fun _ => true).all id = true := by simp
  rw [this]
theorem callX_er {f : List D → Option ((D × Bool) ⊕ Str)} {m : Rho → Option (List RV × Rho)} {ρ ρ1 ρ2 : Rho} {rs : List RV} {ds : List D} {c : Str} (h1 : m ρ = some (rs, ρ1)) (h2 : fzAll rs ρ1 = some (ds, ρ2)) (h3 : f ds = some (.inr c)) : mCallX f m ρ = some (.inr (c, ρ2)) := by
  unfold mCallX; rw [h1, Option.bind_some]; dsimp only; rw [h2, Option.bind_some]; dsimp only; rw [h3]; rfl
theorem eX_er {k : PM → SM} {m : XM} {ρ ρ1 : Rho} {c : Str} (h : m ρ = some (.inr (c, ρ1))) : eX k m ρ = some (.er c ρ1) := by
  unfold eX; rw [h, Option.bind_some]
theorem var_io {ρ : Rho} {i : Nat} {d : D} (h : ρ[i]? = some (.io d)) : mVar i ρ = some ((d, .at i), ρ) := by unfold mVar; rw [h]
theorem op_io {a b : PM} {ρ ρ1 ρ2 : Rho} {x y : D} {r : RV} {res : D × Bool} {g : D → D → Option (D × Bool)} {i : Nat} (h1 : sv a ρ = some ((x, .at i), ρ1)) (h2 : sv b ρ1 = some (r, ρ2)) (h4 : ρ2[i]? = some (.io y)) (h3 : g y r.1 = some res) : mOp g a b ρ = some (resK res, ρ2) := by
  unfold mOp; rw [h1, Option.bind_some]; dsimp only; rw [h2, Option.bind_some]; simp only [refr, h4, Option.bind_some, h3, Option.map_some]
inductive Thing : D → Prop
  | non : Thing .none
  | s0 : Thing (.str "")
  | s1 : Thing (.str " A1 ")
  | s2 : Thing (.str "b ~")
  | int (i : Int) : Thing (.int i)
  | unit : Thing (.tuple [])
  | tup (i : Int) : Thing (.tuple [.int i, .str "t", .tuple [.none, .tuple []]])
def Ths (l : List D) : Prop := ∀ d ∈ l, Thing d
theorem Ths.nil : Ths [] := fun d h => by cases h
theorem Ths.cons {d : D} {l : List D} (h : Thing d) (t : Ths l) : Ths (d :: l) := fun x hx => by
  rcases List.mem_cons.mp hx with rfl | hx
  · exact h
  · exact t x hx
theorem Ths.append {a b : List D} (h : Ths a) (t : Ths b) : Ths (a ++ b) := fun x hx => (List.mem_append.mp hx).elim (h x) (t x)
theorem Thing.lay {d : D} (h : Thing d) : d.canLay0 = true ∧ d.depth ≤ 8 := by
  cases h with
  | non => exact ⟨rfl, by simp [PyData.depth]⟩
  | s0 => exact ⟨by decide +kernel, by simp [PyData.depth]⟩
  | s1 => exact ⟨by decide +kernel, by simp [PyData.depth]⟩
  | s2 => exact ⟨by decide +kernel, by simp [PyData.depth]⟩
  | int i => exact ⟨rfl, by simp [PyData.depth]⟩
  | unit => exact ⟨rfl, by simp [PyData.depth, PyData.depthAll]⟩
  | tup i =>
    refine ⟨?_, by simp [PyData.depth, PyData.depthAll]⟩
    simp only [PyData.canLay0, PyData.canLayAll0, Bool.and_true, Bool.true_and]
    decide +kernel
theorem isi_tuple_bool (l : List D) : gIsi "bool" (.tuple l) = some (.bool false, false) := by simp [gIsi, tyD, tyAsked, tyIs]
theorem same_flat (n : Nat) (d : D) (hb : gIsi "bool" d = some (.bool false, false)) (ht : gIsi "tuple" d = some (.bool false, false)) (he : gEq d d = some (.bool true, false)) : m_law_same (n + 1) [d, d] = some (.bool true, false) := by
  show fnM 2 0 (b_law_same (m_law_same n)) [d, d] = _
  refine fn_of (o := .rt (.bool true, .fz) [.fz d, .fz d]) rfl ?_ rfl
  refine seq_nx (ρ1 := [.fz d, .fz d]) (if_f (or_f (test_ev (k := .fz) (isi_ev (sv_fz (var_fz rfl)) hb)) (test_ev (k := .fz) (op_ev (r := (.bool false, .fz)) (res := (.bool false, false)) (sv_fz (isi_ev (sv_fz (var_fz rfl)) ht)) (sv_fz (isi_ev (sv_fz (var_fz rfl)) ht)) (gNe_bool false false)))) rfl) ?_
  refine seq_nx (ρ1 := [.fz d, .fz d]) (if_f (test_ev (k := .fz) (isi_ev (sv_fz (var_fz rfl)) ht)) rfl) ?_
  exact ret_eq (op_ev (r := (d, .fz)) (res := (.bool true, false)) (sv_fz (var_fz rfl)) (sv_fz (var_fz rfl)) he)
theorem same_tup (n : Nat) (ds : List D) (hz : ds.length ≤ 100000) (h : ∀ d ∈ ds, m_law_same n [d, d] = some (.bool true, false)) : m_law_same (n + 1) [.tuple ds, .tuple ds] = some (.bool true, false) := by
  show fnM 2 0 (b_law_same (m_law_same n)) [.tuple ds, .tuple ds] = _
  have ht := isi_tuple_tuple ds
  have hb := isi_tuple_bool ds
  refine fn_of (o := .rt (.bool true, .fz) [.fz (.tuple ds), .fz (.tuple ds)]) rfl ?_ rfl
  refine seq_nx (ρ1 := [.fz (.tuple ds), .fz (.tuple ds)]) (if_f (or_f (test_ev (k := .fz) (isi_ev (sv_fz (var_fz rfl)) hb)) (test_ev (k := .fz) (op_ev (r := (.bool true, .fz)) (res := (.bool false, false)) (sv_fz (isi_ev (sv_fz (var_fz rfl)) ht)) (sv_fz (isi_ev (sv_fz (var_fz rfl)) ht)) (gNe_bool true true)))) rfl) ?_
  refine seq_rt (if_t (test_ev (k := .fz) (isi_ev (sv_fz (var_fz rfl)) ht)) (ret_eq ?_))
  have ln : ∀ i : Nat, [Sl.fz (.tuple ds), Sl.fz (.tuple ds)][i]? = some (.fz (.tuple ds)) → IE (mCB gLen (mCons (mVar i) mNil)) [.fz (.tuple ds), .fz (.tuple ds)] (ds.length : Int) := fun i hi => cb_ev (rs := [(.tuple ds, .fz)]) (res := (.int (ds.length : Int), false)) (cons_fz (sv_fz (var_fz hi)) nil_ev) rfl
  refine be_and (u := true) (v := true) ((be_eq (ln 0 rfl) (ln 1 rfl)).is (decide_eq_true rfl)) (fun _ => ?_) (fun h => by cases h)
  refine cb_ev (rs := [(.list (ds.map fun _ => PyData.bool true), .fz)]) (res := (.bool true, false)) (cons_fz (sv_new (lc2_ev (ds := ds.map fun d => PyData.tuple [d, d]) ?_ (compL2_all ds fun d hd => ⟨_, sv_fz (be_call (rs := [(d, .fz), (d, .fz)]) rfl (h d hd))⟩) (by rw [List.length_map]; exact hz))) nil_ev) (gAll_true ds)
  show (some (zipD ds ds, [Sl.fz (.tuple ds), Sl.fz (.tuple ds)])) = _
  rw [zipD_self]
theorem gEq_str (x : Str) (h : PyData.strOk x = true) : gEq (.str x) (.str x) = some (.bool true, false) := by
  unfold gEq
  have s : SeqAt.shaped (.str x) = true := by
    unfold SeqAt.shaped
    rw [decide_eq_true (by simp [PyData.depth]), Bool.and_true]
    simp only [PyData.canLay0, h]
  rw [if_pos ⟨s, s⟩]
  simp only [PyData.eqv, beq_self_eq_true]
theorem isi_str_b (x : Str) : gIsi "bool" (.str x) = some (.bool false, false) := by simp [gIsi, tyD, tyAsked, tyIs]
theorem isi_str_t (x : Str) : gIsi "tuple" (.str x) = some (.bool false, false) := by simp [gIsi, tyD, tyAsked, tyIs]
theorem isi_non_b : gIsi "bool" .none = some (.bool false, false) := by simp [gIsi, tyD, tyAsked, tyIs]
theorem isi_non_t : gIsi "tuple" .none = some (.bool false, false) := by simp [gIsi, tyD, tyAsked, tyIs]
theorem isi_int_t (i : Int) : gIsi "tuple" (.int i) = some (.bool false, false) := by simp [gIsi, tyD, tyAsked, tyIs]
theorem gEq_non : gEq .none .none = some (.bool true, false) := by unfold gEq; rw [if_pos ⟨rfl, rfl⟩]; simp only [PyData.eqv]
theorem same_thing {d : D} (h : Thing d) (n : Nat) : m_law_same (n + 3) [d, d] = some (.bool true, false) := by
  have si : ∀ (n : Nat) (i : Int), m_law_same (n + 1) [.int i, .int i] = some (.bool true, false) := fun n i => same_flat n _ (isi_int_bool i) (isi_int_t i) ((gEq_int i i).trans (by rw [decide_eq_true rfl]))
  have sn : ∀ n : Nat, m_law_same (n + 1) [.none, .none] = some (.bool true, false) := fun n => same_flat n _ isi_non_b isi_non_t gEq_non
  have ss : ∀ (n : Nat) (x : Str), PyData.strOk x = true → m_law_same (n + 1) [.str x, .str x] = some (.bool true, false) := fun n x hx => same_flat n _ (isi_str_b x) (isi_str_t x) (gEq_str x hx)
  have su : ∀ n : Nat, m_law_same (n + 1) [.tuple [], .tuple []] = some (.bool true, false) := fun n => same_tup n [] (by simp) (fun d h => by cases h)
  cases h with
  | non => exact sn _
  | s0 => exact ss _ _ (by decide +kernel)
  | s1 => exact ss _ _ (by decide +kernel)
  | s2 => exact ss _ _ (by decide +kernel)
  | int i => exact si _ i
  | unit => exact su _
  | tup i =>
    refine same_tup (n + 2) _ (by simp) fun d hd => ?_
    simp only [List.mem_cons, List.not_mem_nil, or_false] at hd
    rcases hd with rfl | rfl | rfl
    · exact si _ i
    · exact ss _ _ (by decide +kernel)
    · refine same_tup (n + 1) _ (by simp) fun d hd => ?_
      simp only [List.mem_cons, List.not_mem_nil, or_false] at hd
      rcases hd with rfl | rfl
      · exact sn _
      · exact su _
theorem same_str (n : Nat) (x : Str) (hx : PyData.strOk x = true) : m_law_same (n + 1) [.str x, .str x] = some (.bool true, false) := same_flat n _ (isi_str_b x) (isi_str_t x) (gEq_str x hx)
def Sms (l : List D) : Prop := ∀ d ∈ l, m_law_same 8 [d, d] = some (.bool true, false)
theorem Ths.sm {l : List D} (h : Ths l) : Sms l := fun d hd => same_thing (h d hd) 5
theorem Sms.append {a b : List D} (h : Sms a) (t : Sms b) : Sms (a ++ b) := fun x hx => (List.mem_append.mp hx).elim (h x) (t x)
theorem Sms.rep (x : Str) (hx : PyData.strOk x = true) (n : Nat) : Sms (List.replicate n (.str x)) := fun d hd => by rw [List.eq_of_mem_replicate hd]; exact same_str 7 x hx
theorem Sms.one (x : Str) (hx : PyData.strOk x = true) : Sms [.str x] := fun d hd => by rw [List.mem_singleton.mp hd]; exact same_str 7 x hx
theorem thing_by (c : Int) : ∃ t, Thing t ∧ m_law_thing_by [.int c] = some (t, false) := by
  have em : ∀ {ρ : Rho}, IE (mOp gMod (mVar 0) (mC (.int 6))) (.fz (.int c) :: ρ) (c % 6) := fun {ρ} => ie_mod (ie_var rfl) ie_c (by decide)
  have ed : ∀ {ρ : Rho}, IE (mOp gDiv (mVar 0) (mC (.int 6))) (.fz (.int c) :: ρ) (c / 6) := fun {ρ} => ie_div (ie_var rfl) ie_c ⟨by decide, by decide⟩
  by_cases h0 : c % 6 = 0
  · exact ⟨_, .non, fn_of (o := .rt (.none, .fz) [.fz (.int c)]) rfl (seq_rt (if_t (tEq em ie_c h0) (ret_eq rfl))) rfl⟩
  by_cases h1 : c % 6 = 1
  · have q : c / 6 % 3 = 0 ∨ c / 6 % 3 = 1 ∨ c / 6 % 3 = 2 := by omega
    have ls : mLst (mCons (mC (.str "")) (mCons (mC (.str " A1 ")) (mCons (mC (.str "b ~")) mNil))) [.fz (.int c)] = some ((.list [.str "", .str " A1 ", .str "b ~"], .new), [.fz (.int c)]) := lst_ev rfl rfl (by simp)
    have ei : IE (mOp gMod (mOp gDiv (mVar 0) (mC (.int 6))) (mC (.int 3))) [.fz (.int c)] (c / 6 % 3) := ie_mod ed ie_c (by decide)
    have fin : ∀ t : D, gIx (.list [.str "", .str " A1 ", .str "b ~"]) (.int (c / 6 % 3)) = some (t, false) → m_law_thing_by [.int c] = some (t, false) := fun t ht =>
      fn_of (o := .rt (t, .fz) [.fz (.int c)]) rfl (seq_nx (ρ1 := [.fz (.int c)]) (if_f (tNe em ie_c h0) rfl) (seq_rt (if_t (tEq em ie_c h1) (ret_eq (op_ev (r := (.int (c / 6 % 3), .fz)) (res := (t, false)) (sv_new ls) (sv_fz ei) ht))))) rfl
    rcases q with q | q | q
    · exact ⟨_, .s0, fin _ (by rw [q]; rfl)⟩
    · exact ⟨_, .s1, fin _ (by rw [q]; rfl)⟩
    · exact ⟨_, .s2, fin _ (by rw [q]; rfl)⟩
  by_cases h2 : c % 6 = 2
  · refine ⟨_, .tup (c / 6 % 100), fn_of (o := .rt (.tuple [.int (c / 6 % 100), .str "t", .tuple [.none, .tuple []]], .fz) [.fz (.int c)]) rfl (seq_nx (ρ1 := [.fz (.int c)]) (if_f (tNe em ie_c h0) rfl) (seq_nx (ρ1 := [.fz (.int c)]) (if_f (tNe em ie_c h1) rfl) (seq_rt (if_t (tEq em ie_c h2) (ret_eq ?_))))) rfl⟩
    have t0 : mTup mNil [.fz (.int c)] = some ((.tuple [], .fz), [.fz (.int c)]) := tup_ev rfl rfl (by simp)
    have t1 : mTup (mCons (mC .none) (mCons (mTup mNil) mNil)) [.fz (.int c)] = some ((.tuple [.none, .tuple []], .fz), [.fz (.int c)]) := tup_ev (rs := [(.none, .fz), (.tuple [], .fz)]) (cons_fz (sv_fz rfl) (cons_fz (sv_fz t0) nil_ev)) rfl (by simp)
    exact tup_ev (rs := [(.int (c / 6 % 100), .fz), (.str "t", .fz), (.tuple [.none, .tuple []], .fz)]) (consI (ie_mod ed ie_c (by decide)) (cons_fz (sv_fz rfl) (cons_fz (sv_fz t1) nil_ev))) rfl (by simp)
  by_cases h3 : c % 6 = 3
  · exact ⟨_, .int (c / 6 % 13 - 6), fn_of (o := .rt (.int (c / 6 % 13 - 6), .fz) [.fz (.int c)]) rfl (seq_nx (ρ1 := [.fz (.int c)]) (if_f (tNe em ie_c h0) rfl) (seq_nx (ρ1 := [.fz (.int c)]) (if_f (tNe em ie_c h1) rfl) (seq_nx (ρ1 := [.fz (.int c)]) (if_f (tNe em ie_c h2) rfl) (seq_rt (if_t (tEq em ie_c h3) (ret_eq (ie_sub (ie_mod ed ie_c (by decide)) ie_c))))))) rfl⟩
  by_cases h4 : c % 6 = 4
  · have t0 : mTup mNil [.fz (.int c)] = some ((.tuple [], .fz), [.fz (.int c)]) := tup_ev rfl rfl (by simp)
    exact ⟨_, .unit, fn_of (o := .rt (.tuple [], .fz) [.fz (.int c)]) rfl (seq_nx (ρ1 := [.fz (.int c)]) (if_f (tNe em ie_c h0) rfl) (seq_nx (ρ1 := [.fz (.int c)]) (if_f (tNe em ie_c h1) rfl) (seq_nx (ρ1 := [.fz (.int c)]) (if_f (tNe em ie_c h2) rfl) (seq_nx (ρ1 := [.fz (.int c)]) (if_f (tNe em ie_c h3) rfl) (seq_rt (if_t (tEq em ie_c h4) (ret_eq t0))))))) rfl⟩
  · have ep : ∀ {ρ : Rho}, IE (mOp gPow (mC (.int 10)) (mC (.int 60))) ρ ((10 : Int) ^ (60 : Int).toNat) := fun {ρ} => ie_pow ie_c ie_c ⟨by decide, by decide, by decide⟩
    have e2 : IE (mOp gMul (mC (.int 2)) (mOp gPow (mC (.int 10)) (mC (.int 60)))) [.fz (.int c)] (2 * (10 : Int) ^ (60 : Int).toNat) := ie_mul ie_c ep (IntMulOk.of_left (by decide))
    exact ⟨_, .int _, fn_of (o := .rt (.int (c / 6 % (2 * (10 : Int) ^ (60 : Int).toNat - 1) - (10 : Int) ^ (60 : Int).toNat + 1), .fz) [.fz (.int c)]) rfl (seq_nx (ρ1 := [.fz (.int c)]) (if_f (tNe em ie_c h0) rfl) (seq_nx (ρ1 := [.fz (.int c)]) (if_f (tNe em ie_c h1) rfl) (seq_nx (ρ1 := [.fz (.int c)]) (if_f (tNe em ie_c h2) rfl) (seq_nx (ρ1 := [.fz (.int c)]) (if_f (tNe em ie_c h3) rfl) (seq_nx (ρ1 := [.fz (.int c)]) (if_f (tNe em ie_c h4) rfl) (ret_eq (ie_add (ie_sub (ie_mod ed (ie_sub e2 ie_c) (by decide +kernel)) ep) ie_c))))))) rfl⟩
theorem ix0 (a b : D) : gIx (.tuple [a, b]) (.int 0) = some (a, false) := rfl
theorem ix1 (a b : D) : gIx (.tuple [a, b]) (.int 1) = some (b, false) := rfl
theorem qlen {ρ : Rho} {i : Nat} {l : List D} (h : ρ[i]? = some (.own (.list l))) : IE (mCB gLen (mCons (mVar i) mNil)) ρ (l.length : Int) :=
  cb_ev (rs := [(.list l, .at i)]) (res := (.int (l.length : Int), false)) (cons_at (sv_at (var_own h)) nil_ev h) rfl
theorem lenfz {ρ : Rho} {a : PM} {l : List D} {k : Kd} (h : sv a ρ = some ((.list l, .fz), ρ)) : IE (mCB gLen (mCons a mNil)) ρ (l.length : Int) :=
  cb_ev (rs := [(.list l, .fz)]) (res := (.int (l.length : Int), false)) (cons_fz h nil_ev) rfl
theorem cut_last (ds : List D) (d : D) : cutD (ds ++ [d]) none (some (-1)) = ds := by
  unfold cutD
  have e : HT.sIx (ds ++ [d]).length (ds ++ [d]).length (some (-1)) = ds.length := by
    unfold HT.sIx
    simp
    omega
  rw [HT.sIx_none, e, List.drop_zero, Nat.sub_zero, List.take_append_of_le_length (Nat.le_refl _), List.take_length]
theorem ix_last (ds : List D) (d : D) : gIx (.list (ds ++ [d])) (.int (-1)) = some (d, false) := by
  show (L2.atI (ds ++ [d]) (-1)).map (fun d => (d, false)) = _
  rw [Mir.atI_last]; simp
theorem rep_one (d : D) (n : Nat) (h : n ≤ 90000) : repD (.list [d]) (.int (n : Int)) = some (.list (List.replicate n d)) := by
  show cIf _ _ _ = _
  rw [cIf_pos ⟨by omega, by omega, by rw [Int.toNat_natCast, List.length_singleton, Nat.one_mul]; exact sz_le (by omega)⟩, Int.toNat_natCast]
  congr 2
  induction n with
  | zero => rfl
  | succ n ih => rw [List.replicate_succ, List.flatten_cons, ih (by omega), List.replicate_succ]; rfl
abbrev Qd (f b : List D) : D := .tuple [.list f, .list b]
theorem qrow_is (f b : List D) (hz : f.length + b.length ≤ 90000) : m_queue_row [Qd f b] = some (.list (f.reverse ++ b), true) := by
  refine fn_of (o := .rt (.list (f.reverse ++ b), .new) [.fz (Qd f b)]) rfl (ret_eq ?_) rfl
  have e0 : mOp gIx (mVar 0) (mC (.int 0)) [.fz (Qd f b)] = some ((.list f, .fz), [.fz (Qd f b)]) := op_ev (r := (.int 0, .fz)) (res := (.list f, false)) (sv_fz (var_fz rfl)) (sv_fz rfl) (ix0 _ _)
  have e1 : mOp gIx (mVar 0) (mC (.int 1)) [.fz (Qd f b)] = some ((.list b, .fz), [.fz (Qd f b)]) := op_ev (r := (.int 1, .fz)) (res := (.list b, false)) (sv_fz (var_fz rfl)) (sv_fz rfl) (ix1 _ _)
  exact op_ev (r := (.list b, .fz)) (res := (.list (f.reverse ++ b), true)) (sv_new (cb_ev (rs := [(.list f, .fz)]) (res := (.list f.reverse, true)) (cons_fz (sv_fz e0) nil_ev) rfl)) (sv_fz e1) (gAdd_list _ _ (by rw [List.length_reverse]; omega))
theorem qcred_is (f b : List D) : m_queue_credit [Qd f b] = some (.int (b.length : Int), false) := by
  refine fn_of (o := .rt (.int (b.length : Int), .fz) [.fz (Qd f b)]) rfl (ret_eq ?_) rfl
  have e1 : mOp gIx (mVar 0) (mC (.int 1)) [.fz (Qd f b)] = some ((.list b, .fz), [.fz (Qd f b)]) := op_ev (r := (.int 1, .fz)) (res := (.list b, false)) (sv_fz (var_fz rfl)) (sv_fz rfl) (ix1 _ _)
  exact cb_ev (rs := [(.list b, .fz)]) (res := (.int (b.length : Int), false)) (cons_fz (sv_fz e1) nil_ev) rfl
theorem qput_is (f b : List D) (t : D) (hz : f.length + b.length ≤ 90000) : m_queue_put [Qd f b, t] = some (.tuple [Qd f (b ++ [t]), .list [.str "laid"]], false) := by
  refine fn_of (o := .rt (.tuple [Qd f (b ++ [t]), .list [.str "laid"]], .fz) [.fz (Qd f b), .fz t]) rfl (ret_eq ?_) rfl
  have e0 : mOp gIx (mVar 0) (mC (.int 0)) [.fz (Qd f b), .fz t] = some ((.list f, .fz), [.fz (Qd f b), .fz t]) := op_ev (r := (.int 0, .fz)) (res := (.list f, false)) (sv_fz (var_fz rfl)) (sv_fz rfl) (ix0 _ _)
  have e1 : mOp gIx (mVar 0) (mC (.int 1)) [.fz (Qd f b), .fz t] = some ((.list b, .fz), [.fz (Qd f b), .fz t]) := op_ev (r := (.int 1, .fz)) (res := (.list b, false)) (sv_fz (var_fz rfl)) (sv_fz rfl) (ix1 _ _)
  have l1 : mLst (mCons (mVar 1) mNil) [.fz (Qd f b), .fz t] = some ((.list [t], .new), [.fz (Qd f b), .fz t]) := lst_ev (rs := [(t, .fz)]) (cons_fz (sv_fz (var_fz rfl)) nil_ev) rfl (by simp)
  have l2 : mLst (mCons (mC (.str "laid")) mNil) [.fz (Qd f b), .fz t] = some ((.list [.str "laid"], .new), [.fz (Qd f b), .fz t]) := lst_ev (rs := [(.str "laid", .fz)]) rfl rfl (by simp)
  have a1 : mCB gList (mCons (mOp gIx (mVar 0) (mC (.int 0))) mNil) [.fz (Qd f b), .fz t] = some ((.list f, .new), [.fz (Qd f b), .fz t]) := cb_ev (rs := [(.list f, .fz)]) (res := (.list f, true)) (cons_fz (sv_fz e0) nil_ev) rfl
  have a2 : mOp gAdd (mOp gIx (mVar 0) (mC (.int 1))) (mLst (mCons (mVar 1) mNil)) [.fz (Qd f b), .fz t] = some ((.list (b ++ [t]), .new), [.fz (Qd f b), .fz t]) := op_ev (r := (.list [t], .fz)) (res := (.list (b ++ [t]), true)) (sv_fz e1) (sv_new l1) (gAdd_list _ _ (by walk_at "szo"))
  have tq := tup_ev (rs := [(.list f, .fz), (.list (b ++ [t]), .fz)]) (cons_fz (sv_new a1) (cons_fz (sv_new a2) nil_ev)) rfl (by simp)
  exact tup_ev (rs := [(Qd f (b ++ [t]), .fz), (.list [.str "laid"], .fz)]) (cons_fz (sv_fz tq) (cons_fz (sv_new l2) nil_ev)) rfl (by simp)
abbrev turned (n : Nat) : List D := List.replicate n (.str "turned")
theorem take_loop (Q : D) : ∀ (c fr st : List D) (fuel : Nat), c.length < fuel → fr.length + c.length ≤ 90000 → st.length + c.length ≤ 90000 →
    mWhile wc1_queue_take wb1_queue_take fuel [.fz Q, .own (.list fr), .own (.list c.reverse), .own (.list st), .no] = some (.nx [.fz Q, .own (.list (fr ++ c)), .own (.list []), .own (.list (st ++ turned c.length)), .no])
  | c, fr, st, 0, h, _, _ => by omega
  | [], fr, st, fuel + 1, _, _, _ => by
    rw [List.append_nil, List.length_nil, show turned 0 = [] from rfl, List.append_nil, List.reverse_nil]
    exact while_end (tstB (be_gt (qlen rfl) ie_c) (decide_eq_false (by simp)))
  | x :: c, fr, st, fuel + 1, h, h1, h2 => by
    rw [List.length_cons] at h h1 h2
    have ih := take_loop Q c (fr ++ [x]) (st ++ [.str "turned"]) fuel (by omega) (by rw [List.length_append, List.length_singleton]; omega) (by rw [List.length_append, List.length_singleton]; omega)
    rw [List.append_assoc, List.singleton_append, List.append_assoc, List.singleton_append] at ih
    rw [List.reverse_cons]
    refine while_go (ρ1 := [.fz Q, .own (.list fr), .own (.list (c.reverse ++ [x])), .own (.list st), .no]) (ρ2 := [.fz Q, .own (.list (fr ++ [x])), .own (.list c.reverse), .own (.list (st ++ [.str "turned"])), .no]) (tstB (be_gt (qlen rfl) ie_c) (decide_eq_true (by walk_at "szo"))) ?_ ih
    have pp := pop_ev (i := 2) (ρ := [.fz Q, .own (.list fr), .own (.list (c.reverse ++ [x])), .own (.list st), .no]) x c.reverse rfl rfl
    exact seq_nx (app_ev x fr rfl (cons_fz (sv_fz pp) nil_ev) rfl rfl (by omega) rfl) (app_ev (.str "turned") st rfl (cons_fz (sv_fz rfl) nil_ev) rfl rfl (by omega) rfl)
theorem qtake_is (f b : List D) (t : D) (p : List D) (hp : f.reverse ++ b = t :: p) (hz : f.length + b.length ≤ 90000) : ∃ f' b' st, f'.reverse ++ b' = p ∧ st.length + b'.length = b.length + 1 ∧ f'.length + b'.length ≤ f.length + b.length ∧ x_queue_take [Qd f b] = some (.inl (.tuple [t, Qd f' b', .list st], false)) := by
  have e0 : ∀ {s1 s2 s3 s4 : Sl}, mOp gIx (mVar 0) (mC (.int 0)) [.fz (Qd f b), s1, s2, s3, s4] = some ((.list f, .fz), [.fz (Qd f b), s1, s2, s3, s4]) := op_ev (r := (.int 0, .fz)) (res := (.list f, false)) (sv_fz (var_fz rfl)) (sv_fz rfl) (ix0 _ _)
  have e1 : ∀ {s1 s2 s3 s4 : Sl}, mOp gIx (mVar 0) (mC (.int 1)) [.fz (Qd f b), s1, s2, s3, s4] = some ((.list b, .fz), [.fz (Qd f b), s1, s2, s3, s4]) := op_ev (r := (.int 1, .fz)) (res := (.list b, false)) (sv_fz (var_fz rfl)) (sv_fz rfl) (ix1 _ _)
  have tl : ∀ (fs bb st : List D), fs.length ≤ 90000 → st.length ≤ 90000 →
      eSeq (eIf (mTest (mOp gEq (mCB gLen (mCons (mVar 1) mNil)) (mC (.int 0)))) (eRaise "Empty" (mCons (mC (.str "the queue has no things")) mNil)) (eLift mPass))
        (eSeq (eLift (mAsg 4 (mMut0 1 fPop))) (eSeq (eLift (mDrop (mMut 3 fAppend (mCons (mC (.str "taken")) mNil)))) (eLift (mRet (mTup (mCons (mVar 4) (mCons (mTup (mCons (mVar 1) (mCons (mVar 2) mNil))) (mCons (mVar 3) mNil))))))))
        [.fz (Qd f b), .own (.list (fs ++ [t])), .own (.list bb), .own (.list st), .no] = some (.ok (.rt (.tuple [t, Qd fs bb, .list (st ++ [.str "taken"])], .fz) [.fz (Qd f b), .fz (.list fs), .fz (.list bb), .fz (.list (st ++ [.str "taken"])), .fz t])) := fun fs bb st h1 h2 => by
    refine eseq_nx (ρ1 := [.fz (Qd f b), .own (.list (fs ++ [t])), .own (.list bb), .own (.list st), .no]) (eif_f (tNe (qlen rfl) ie_c (by walk_at "szo")) (elift_ev rfl)) ?_
    have pp := pop_ev (i := 1) (ρ := [.fz (Qd f b), .own (.list (fs ++ [t])), .own (.list bb), .own (.list st), .no]) t fs rfl rfl
    refine eseq_nx (ρ1 := [.fz (Qd f b), .own (.list fs), .own (.list bb), .own (.list st), .fz t]) (elift_ev (asg_fz pp rfl)) ?_
    refine eseq_nx (ρ1 := [.fz (Qd f b), .own (.list fs), .own (.list bb), .own (.list (st ++ [.str "taken"])), .fz t]) (elift_ev (app_ev (.str "taken") st rfl (cons_fz (sv_fz rfl) nil_ev) rfl rfl (by omega) rfl)) ?_
    refine elift_ev (ret_eq ?_)
    have tq : mTup (mCons (mVar 1) (mCons (mVar 2) mNil)) [.fz (Qd f b), .own (.list fs), .own (.list bb), .own (.list (st ++ [.str "taken"])), .fz t] = some ((Qd fs bb, .fz), [.fz (Qd f b), .fz (.list fs), .fz (.list bb), .own (.list (st ++ [.str "taken"])), .fz t]) := tup_ev (rs := [(.list fs, .at 1), (.list bb, .at 2)]) rfl rfl (by simp)
    exact tup_ev (rs := [(t, .fz), (Qd fs bb, .fz), (.list (st ++ [.str "taken"]), .at 3)]) (cons_fz (sv_fz (var_fz rfl)) (cons_fz (sv_fz tq) rfl)) rfl (by simp)
  have hd : ∀ (k : EM) (o : Option OutE), k [.fz (Qd f b), .own (.list f), .own (.list b), .own (.list []), .no] = o → eSeq (eLift (mAsg 1 (mCB gList (mCons (mOp gIx (mVar 0) (mC (.int 0))) mNil)))) (eSeq (eLift (mAsg 2 (mCB gList (mCons (mOp gIx (mVar 0) (mC (.int 1))) mNil)))) (eSeq (eLift (mAsg 3 (mLst mNil))) k)) [.fz (Qd f b), .no, .no, .no, .no] = o := fun k o hk => by
    refine eseq_nx (ρ1 := [.fz (Qd f b), .own (.list f), .no, .no, .no]) (elift_ev (asg_new (cb_ev (rs := [(.list f, .fz)]) (res := (.list f, true)) (cons_fz (sv_fz e0) nil_ev) rfl) rfl)) ?_
    refine eseq_nx (ρ1 := [.fz (Qd f b), .own (.list f), .own (.list b), .no, .no]) (elift_ev (asg_new (cb_ev (rs := [(.list b, .fz)]) (res := (.list b, true)) (cons_fz (sv_fz e1) nil_ev) rfl) rfl)) ?_
    exact eseq_nx (ρ1 := [.fz (Qd f b), .own (.list f), .own (.list b), .own (.list []), .no]) (elift_ev (asg_new (lst_ev rfl rfl (by simp)) rfl)) hk
  cases f with
  | nil =>
    rw [List.reverse_nil, List.nil_append] at hp
    subst hp
    rw [List.length_nil, List.length_cons] at hz
    refine ⟨p.reverse, [], turned (p.length + 1) ++ [.str "taken"], by simp, by simp, by simp, ?_⟩
    refine fnX_ok (o := .rt (.tuple [t, Qd p.reverse [], .list (turned (p.length + 1) ++ [.str "taken"])], .fz) [.fz (Qd [] (t :: p)), .fz (.list p.reverse), .fz (.list []), .fz (.list (turned (p.length + 1) ++ [.str "taken"])), .fz t]) rfl (hd _ _ ?_) rfl
    have lp := take_loop (Qd [] (t :: p)) (t :: p).reverse [] [] 1000000 (by walk_at "szo") (by walk_at "szo") (by walk_at "szo")
    rw [List.reverse_reverse, List.nil_append, List.nil_append, List.reverse_cons] at lp
    refine eseq_nx (ρ1 := [.fz (Qd [] (t :: p)), .own (.list (p.reverse ++ [t])), .own (.list []), .own (.list (turned (p.length + 1))), .no]) (elift_ev (if_t (tEq (qlen (i := 1) (l := []) (ρ := [.fz (Qd [] (t :: p)), .own (.list []), .own (.list (t :: p)), .own (.list []), .no]) rfl) ie_c rfl) ?_)) (tl p.reverse [] _ (by walk_at "szo") (by walk_at "szo"))
    rw [lp]
    simp
  | cons a f =>
    have : ∃ fs, a :: f = fs ++ [t] := by
      have h1 : (a :: f).reverse ++ b = t :: p := hp
      cases e : (a :: f).reverse with
      | nil => simp at e
      | cons u fs =>
        rw [e, List.cons_append] at h1
        cases h1
        refine ⟨fs.reverse, ?_⟩
        rw [← List.reverse_cons, ← e, List.reverse_reverse]
    obtain ⟨fs, e⟩ := this
    have hlen : (a :: f).length = fs.length + 1 := by rw [e]; simp
    rw [e] at hd e0 e1 hp hz tl ⊢
    rw [List.reverse_append, List.reverse_singleton, List.singleton_append, List.cons_append] at hp
    rw [List.length_append, List.length_singleton] at hz
    refine ⟨fs, b, [.str "taken"], by cases hp; rfl, by walk_at "szo", by walk_at "szo", ?_⟩
    refine fnX_ok (o := .rt (.tuple [t, Qd fs b, .list ([] ++ [.str "taken"])], .fz) [.fz (Qd (fs ++ [t]) b), .fz (.list fs), .fz (.list b), .fz (.list ([] ++ [.str "taken"])), .fz t]) rfl (hd _ _ ?_) rfl
    exact eseq_nx (ρ1 := [.fz (Qd (fs ++ [t]) b), .own (.list (fs ++ [t])), .own (.list b), .own (.list []), .no]) (elift_ev (if_f (tNe (qlen rfl) ie_c (by walk_at "szo")) rfl)) (tl fs b [] (by omega) (by simp))
theorem qtake_no : x_queue_take [Qd [] []] = some (.inr "Empty") := by
  have e0 : ∀ {s1 s2 s3 s4 : Sl}, mOp gIx (mVar 0) (mC (.int 0)) [.fz (Qd [] []), s1, s2, s3, s4] = some ((.list [], .fz), [.fz (Qd [] []), s1, s2, s3, s4]) := op_ev (r := (.int 0, .fz)) (res := (.list [], false)) (sv_fz (var_fz rfl)) (sv_fz rfl) (ix0 _ _)
  have e1 : ∀ {s1 s2 s3 s4 : Sl}, mOp gIx (mVar 0) (mC (.int 1)) [.fz (Qd [] []), s1, s2, s3, s4] = some ((.list [], .fz), [.fz (Qd [] []), s1, s2, s3, s4]) := op_ev (r := (.int 1, .fz)) (res := (.list [], false)) (sv_fz (var_fz rfl)) (sv_fz rfl) (ix1 _ _)
  refine fnX_er (ρ := [.fz (Qd [] []), .own (.list []), .own (.list []), .own (.list []), .no]) rfl ?_
  refine eseq_nx (ρ1 := [.fz (Qd [] []), .own (.list []), .no, .no, .no]) (elift_ev (asg_new (cb_ev (rs := [(.list [], .fz)]) (res := (.list [], true)) (cons_fz (sv_fz e0) nil_ev) rfl) rfl)) ?_
  refine eseq_nx (ρ1 := [.fz (Qd [] []), .own (.list []), .own (.list []), .no, .no]) (elift_ev (asg_new (cb_ev (rs := [(.list [], .fz)]) (res := (.list [], true)) (cons_fz (sv_fz e1) nil_ev) rfl) rfl)) ?_
  refine eseq_nx (ρ1 := [.fz (Qd [] []), .own (.list []), .own (.list []), .own (.list []), .no]) (elift_ev (asg_new (lst_ev rfl rfl (by simp)) rfl)) ?_
  have lp := take_loop (Qd [] []) [] [] [] 1000000 (by simp) (by simp) (by simp)
  refine eseq_nx (ρ1 := [.fz (Qd [] []), .own (.list []), .own (.list []), .own (.list []), .no]) (elift_ev (if_t (tEq (qlen rfl) ie_c rfl) lp)) ?_
  refine eseq_er (eif_t (tEq (qlen rfl) ie_c rfl) rfl)
def ab (i : Int) : Int := if i < 0 then -i else i
theorem drow_is (f b : List D) (hz : f.length + b.length ≤ 90000) : m_double_row [Qd f b] = some (.list (f.reverse ++ b), true) := by
  refine fn_of (o := .rt (.list (f.reverse ++ b), .new) [.fz (Qd f b)]) rfl (ret_eq ?_) rfl
  have e0 : mOp gIx (mVar 0) (mC (.int 0)) [.fz (Qd f b)] = some ((.list f, .fz), [.fz (Qd f b)]) := op_ev (r := (.int 0, .fz)) (res := (.list f, false)) (sv_fz (var_fz rfl)) (sv_fz rfl) (ix0 _ _)
  have e1 : mOp gIx (mVar 0) (mC (.int 1)) [.fz (Qd f b)] = some ((.list b, .fz), [.fz (Qd f b)]) := op_ev (r := (.int 1, .fz)) (res := (.list b, false)) (sv_fz (var_fz rfl)) (sv_fz rfl) (ix1 _ _)
  exact op_ev (r := (.list b, .fz)) (res := (.list (f.reverse ++ b), true)) (sv_new (cb_ev (rs := [(.list f, .fz)]) (res := (.list f.reverse, true)) (cons_fz (sv_fz e0) nil_ev) rfl)) (sv_fz e1) (gAdd_list _ _ (by rw [List.length_reverse]; omega))
theorem dcred_is (f b : List D) : m_double_credit [Qd f b] = some (.int (ab ((f.length : Int) - b.length)), false) := by
  refine fn_of (o := .rt (.int (ab ((f.length : Int) - b.length)), .fz) [.fz (Qd f b)]) rfl (ret_eq ?_) rfl
  have e0 : mOp gIx (mVar 0) (mC (.int 0)) [.fz (Qd f b)] = some ((.list f, .fz), [.fz (Qd f b)]) := op_ev (r := (.int 0, .fz)) (res := (.list f, false)) (sv_fz (var_fz rfl)) (sv_fz rfl) (ix0 _ _)
  have e1 : mOp gIx (mVar 0) (mC (.int 1)) [.fz (Qd f b)] = some ((.list b, .fz), [.fz (Qd f b)]) := op_ev (r := (.int 1, .fz)) (res := (.list b, false)) (sv_fz (var_fz rfl)) (sv_fz rfl) (ix1 _ _)
  exact cb_ev (rs := [(.int ((f.length : Int) - b.length), .fz)]) (res := (.int (ab ((f.length : Int) - b.length)), false)) (consI (ie_sub (lenfz (k := .fz) (sv_fz e0)) (lenfz (k := .fz) (sv_fz e1))) nil_ev) rfl
theorem pfirst_is (f b : List D) (t : D) (hz : f.length + b.length ≤ 90000) : m_put_first [Qd f b, t] = some (.tuple [Qd (f ++ [t]) b, .list [.str "laid"]], false) := by
  refine fn_of (o := .rt (.tuple [Qd (f ++ [t]) b, .list [.str "laid"]], .fz) [.fz (Qd f b), .fz t]) rfl (ret_eq ?_) rfl
  have e0 : mOp gIx (mVar 0) (mC (.int 0)) [.fz (Qd f b), .fz t] = some ((.list f, .fz), [.fz (Qd f b), .fz t]) := op_ev (r := (.int 0, .fz)) (res := (.list f, false)) (sv_fz (var_fz rfl)) (sv_fz rfl) (ix0 _ _)
  have e1 : mOp gIx (mVar 0) (mC (.int 1)) [.fz (Qd f b), .fz t] = some ((.list b, .fz), [.fz (Qd f b), .fz t]) := op_ev (r := (.int 1, .fz)) (res := (.list b, false)) (sv_fz (var_fz rfl)) (sv_fz rfl) (ix1 _ _)
  have l1 : mLst (mCons (mVar 1) mNil) [.fz (Qd f b), .fz t] = some ((.list [t], .new), [.fz (Qd f b), .fz t]) := lst_ev (rs := [(t, .fz)]) (cons_fz (sv_fz (var_fz rfl)) nil_ev) rfl (by simp)
  have l2 : mLst (mCons (mC (.str "laid")) mNil) [.fz (Qd f b), .fz t] = some ((.list [.str "laid"], .new), [.fz (Qd f b), .fz t]) := lst_ev (rs := [(.str "laid", .fz)]) rfl rfl (by simp)
  have a1 : mCB gList (mCons (mOp gIx (mVar 0) (mC (.int 1))) mNil) [.fz (Qd f b), .fz t] = some ((.list b, .new), [.fz (Qd f b), .fz t]) := cb_ev (rs := [(.list b, .fz)]) (res := (.list b, true)) (cons_fz (sv_fz e1) nil_ev) rfl
  have a2 : mOp gAdd (mOp gIx (mVar 0) (mC (.int 0))) (mLst (mCons (mVar 1) mNil)) [.fz (Qd f b), .fz t] = some ((.list (f ++ [t]), .new), [.fz (Qd f b), .fz t]) := op_ev (r := (.list [t], .fz)) (res := (.list (f ++ [t]), true)) (sv_fz e0) (sv_new l1) (gAdd_list _ _ (by walk_at "szo"))
  have tq := tup_ev (rs := [(.list (f ++ [t]), .fz), (.list b, .fz)]) (cons_fz (sv_new a2) (cons_fz (sv_new a1) nil_ev)) rfl (by simp)
  exact tup_ev (rs := [(Qd (f ++ [t]) b, .fz), (.list [.str "laid"], .fz)]) (cons_fz (sv_fz tq) (cons_fz (sv_new l2) nil_ev)) rfl (by simp)
theorem plast_is (f b : List D) (t : D) (hz : f.length + b.length ≤ 90000) : m_put_last [Qd f b, t] = some (.tuple [Qd f (b ++ [t]), .list [.str "laid"]], false) := by
  refine fn_of (o := .rt (.tuple [Qd f (b ++ [t]), .list [.str "laid"]], .fz) [.fz (Qd f b), .fz t]) rfl (ret_eq ?_) rfl
  have e0 : mOp gIx (mVar 0) (mC (.int 0)) [.fz (Qd f b), .fz t] = some ((.list f, .fz), [.fz (Qd f b), .fz t]) := op_ev (r := (.int 0, .fz)) (res := (.list f, false)) (sv_fz (var_fz rfl)) (sv_fz rfl) (ix0 _ _)
  have e1 : mOp gIx (mVar 0) (mC (.int 1)) [.fz (Qd f b), .fz t] = some ((.list b, .fz), [.fz (Qd f b), .fz t]) := op_ev (r := (.int 1, .fz)) (res := (.list b, false)) (sv_fz (var_fz rfl)) (sv_fz rfl) (ix1 _ _)
  have l1 : mLst (mCons (mVar 1) mNil) [.fz (Qd f b), .fz t] = some ((.list [t], .new), [.fz (Qd f b), .fz t]) := lst_ev (rs := [(t, .fz)]) (cons_fz (sv_fz (var_fz rfl)) nil_ev) rfl (by simp)
  have l2 : mLst (mCons (mC (.str "laid")) mNil) [.fz (Qd f b), .fz t] = some ((.list [.str "laid"], .new), [.fz (Qd f b), .fz t]) := lst_ev (rs := [(.str "laid", .fz)]) rfl rfl (by simp)
  have a1 : mCB gList (mCons (mOp gIx (mVar 0) (mC (.int 0))) mNil) [.fz (Qd f b), .fz t] = some ((.list f, .new), [.fz (Qd f b), .fz t]) := cb_ev (rs := [(.list f, .fz)]) (res := (.list f, true)) (cons_fz (sv_fz e0) nil_ev) rfl
  have a2 : mOp gAdd (mOp gIx (mVar 0) (mC (.int 1))) (mLst (mCons (mVar 1) mNil)) [.fz (Qd f b), .fz t] = some ((.list (b ++ [t]), .new), [.fz (Qd f b), .fz t]) := op_ev (r := (.list [t], .fz)) (res := (.list (b ++ [t]), true)) (sv_fz e1) (sv_new l1) (gAdd_list _ _ (by walk_at "szo"))
  have tq := tup_ev (rs := [(.list f, .fz), (.list (b ++ [t]), .fz)]) (cons_fz (sv_new a1) (cons_fz (sv_new a2) nil_ev)) rfl (by simp)
  exact tup_ev (rs := [(Qd f (b ++ [t]), .fz), (.list [.str "laid"], .fz)]) (cons_fz (sv_fz tq) (cons_fz (sv_new l2) nil_ev)) rfl (by simp)
theorem neg1 {ρ : Rho} : mPart (mUn gNeg (mC (.int 1))) ρ = some (some (-1), ρ) := rfl
theorem cut_to (ds : List D) (k : Nat) (h : k ≤ ds.length) : cutD ds none (some (k : Int)) = ds.take k := by
  unfold cutD
  rw [HT.sIx_nat, HT.sIx_none, Nat.min_eq_left h, List.drop_zero, Nat.sub_zero]
theorem cut_from (ds : List D) (j : Nat) (h : j ≤ ds.length) : cutD ds (some (j : Int)) none = ds.drop j := by
  unfold cutD
  rw [HT.sIx_nat, HT.sIx_none, Nat.min_eq_left h, List.take_of_length_le (by rw [List.length_drop]; omega)]
theorem near_no : x_take_near [.list [], .list []] = some (.inr "Empty") := by
  refine fnX_er (ρ := [.fz (.list []), .fz (.list []), .no, .no, .no]) rfl ?_
  refine eseq_nx (ρ1 := [.fz (.list []), .fz (.list []), .no, .no, .no]) (elift_ev (if_f (tstB (be_gt (lenfz (k := .fz) (l := []) (sv_fz (var_fz rfl))) ie_c) (decide_eq_false (by simp))) rfl)) ?_
  exact eseq_er (eif_t (tEq (lenfz (k := .fz) (l := []) (sv_fz (var_fz rfl))) ie_c rfl) rfl)
theorem near_is (n f : List D) (t : D) (p : List D) (hp : n.reverse ++ f = t :: p) (hz : n.length + f.length ≤ 80000) : ∃ n' f' st : List D, n'.reverse ++ f' = p ∧ (st.length : Int) + ab ((n'.length : Int) - f'.length) ≤ ab ((n.length : Int) - f.length) + 2 ∧ x_take_near [.list n, .list f] = some (.inl (.tuple [t, Qd n' f', .list st], false)) := by
  cases n with
  | cons a n0 =>
    have : ∃ fs, a :: n0 = fs ++ [t] := by
      have h1 : (a :: n0).reverse ++ f = t :: p := hp
      cases e : (a :: n0).reverse with
      | nil => simp at e
      | cons u fs =>
        rw [e, List.cons_append] at h1
        cases h1
        refine ⟨fs.reverse, ?_⟩
        rw [← List.reverse_cons, ← e, List.reverse_reverse]
    obtain ⟨fs, e⟩ := this
    rw [e] at hp hz ⊢
    rw [List.reverse_append, List.reverse_singleton, List.singleton_append, List.cons_append] at hp
    rw [List.length_append, List.length_singleton] at hz
    refine ⟨fs, f, [.str "taken"], by cases hp; rfl, by rw [List.length_append, List.length_singleton, List.length_singleton]; unfold ab; split <;> split <;> omega, ?_⟩
    have xl := ix_last fs t
    have cl := cut_last fs t
    have hln : (fs ++ [t]).length = fs.length + 1 := by simp
    generalize fs ++ [t] = N at *
    refine fnX_ok (o := .rt (.tuple [t, Qd fs f, .list [.str "taken"]], .fz) [.fz (.list N), .fz (.list f), .no, .no, .no]) rfl ?_ rfl
    have e1 : mRet (mTup (mCons (mOp gIx (mVar 0) (mUn gNeg (mC (.int 1)))) (mCons (mTup (mCons (mSl gSl (mVar 0) mNoPart (mPart (mUn gNeg (mC (.int 1))))) (mCons (mCB gList (mCons (mVar 1) mNil)) mNil))) (mCons (mLst (mCons (mC (.str "taken")) mNil)) mNil)))) [.fz (.list N), .fz (.list f), .no, .no, .no] = some (.rt (.tuple [t, Qd fs f, .list [.str "taken"]], .fz) [.fz (.list N), .fz (.list f), .no, .no, .no]) := by
      have el : mOp gIx (mVar 0) (mUn gNeg (mC (.int 1))) [.fz (.list N), .fz (.list f), .no, .no, .no] = some ((t, .fz), [.fz (.list N), .fz (.list f), .no, .no, .no]) := op_ev (r := (.int (-1), .fz)) (res := (t, false)) (sv_fz (var_fz rfl)) (sv_fz (ie_neg ie_c)) xl
      have sl : mSl gSl (mVar 0) mNoPart (mPart (mUn gNeg (mC (.int 1)))) [.fz (.list N), .fz (.list f), .no, .no, .no] = some ((.list fs, .new), [.fz (.list N), .fz (.list f), .no, .no, .no]) := by
        show some ((PyData.list (cutD N none (some (-1))), Kd.new), _) = _
        rw [cl]
      have g1 : mCB gList (mCons (mVar 1) mNil) [.fz (.list N), .fz (.list f), .no, .no, .no] = some ((.list f, .new), [.fz (.list N), .fz (.list f), .no, .no, .no]) := cb_ev (rs := [(.list f, .fz)]) (res := (.list f, true)) (cons_fz (sv_fz (var_fz rfl)) nil_ev) rfl
      have l2 : mLst (mCons (mC (.str "taken")) mNil) [.fz (.list N), .fz (.list f), .no, .no, .no] = some ((.list [.str "taken"], .new), [.fz (.list N), .fz (.list f), .no, .no, .no]) := lst_ev (rs := [(.str "taken", .fz)]) rfl rfl (by simp)
      have tq := tup_ev (rs := [(.list fs, .fz), (.list f, .fz)]) (cons_fz (sv_new sl) (cons_fz (sv_new g1) nil_ev)) rfl (by simp)
      exact ret_eq (tup_ev (rs := [(t, .fz), (Qd fs f, .fz), (.list [.str "taken"], .fz)]) (cons_fz (sv_fz el) (cons_fz (sv_fz tq) (cons_fz (sv_new l2) nil_ev))) rfl (by simp))
    show eSeq _ _ [.fz (.list N), .fz (.list f), .no, .no, .no] = _
    unfold eSeq
    rw [elift_ev (if_t (tstB (be_gt (lenfz (k := .fz) (l := N) (sv_fz (var_fz rfl))) ie_c) (decide_eq_true (by omega))) e1)]
    rfl
  | nil =>
    rw [List.reverse_nil, List.nil_append] at hp
    subst hp
    rw [List.length_nil, List.length_cons] at hz
    obtain ⟨k, hk⟩ : ∃ k, k = (p.length + 2) / 2 := ⟨_, rfl⟩
    have hk1 : 1 ≤ k := by omega
    have hk2 : k ≤ p.length + 1 := by omega
    refine ⟨(p.take (k - 1)).reverse, p.drop (k - 1), List.replicate (p.length + 1) (.str "moved") ++ [.str "taken"], by rw [List.reverse_reverse, List.take_append_drop], ?_, ?_⟩
    · rw [List.length_reverse, List.length_take, List.length_drop, List.length_append, List.length_replicate, List.length_singleton, List.length_nil, List.length_cons]
      unfold ab
      split <;> split <;> omega
    have ct : cutD (t :: p) none (some (k : Int)) = t :: p.take (k - 1) := by
      rw [cut_to _ _ (by rw [List.length_cons]; omega)]
      cases k with
      | zero => omega
      | succ k => rfl
    have cf : cutD (t :: p) (some (k : Int)) none = p.drop (k - 1) := by
      rw [cut_from _ _ (by rw [List.length_cons]; omega)]
      cases k with
      | zero => omega
      | succ k => rfl
    have rv : (t :: p.take (k - 1)).reverse = (p.take (k - 1)).reverse ++ [t] := List.reverse_cons ..
    have hln : (t :: p).length = p.length + 1 := List.length_cons
    generalize hA : (p.take (k - 1)).reverse = A at *
    generalize hB : p.drop (k - 1) = B at *
    generalize hF : t :: p = F at *
    refine fnX_ok (o := .rt (.tuple [t, Qd A B, .list (List.replicate (p.length + 1) (.str "moved") ++ [.str "taken"])], .fz) [.fz (.list []), .fz (.list F), .fz (.int (k : Int)), .fz (.list A), .fz t]) rfl ?_ rfl
    refine eseq_nx (ρ1 := [.fz (.list []), .fz (.list F), .no, .no, .no]) (elift_ev (if_f (tstB (be_gt (lenfz (k := .fz) (l := []) (sv_fz (var_fz rfl))) ie_c) (decide_eq_false (by simp))) rfl)) ?_
    refine eseq_nx (ρ1 := [.fz (.list []), .fz (.list F), .no, .no, .no]) (eif_f (tNe (lenfz (k := .fz) (l := F) (sv_fz (var_fz rfl))) ie_c (by omega)) (elift_ev rfl)) ?_
    refine eseq_nx (ρ1 := [.fz (.list []), .fz (.list F), .fz (.int (k : Int)), .no, .no]) (elift_ev (asgI ((ie_div (ie_add (lenfz (k := .fz) (l := F) (sv_fz (var_fz rfl))) ie_c) ie_c ⟨by decide, by decide⟩).is (j := (k : Int)) (by omega)) rfl)) ?_
    have s1 : mSl gSl (mVar 1) mNoPart (mPart (mVar 2)) [.fz (.list []), .fz (.list F), .fz (.int (k : Int)), .no, .no] = some ((.list (t :: p.take (k - 1)), .new), [.fz (.list []), .fz (.list F), .fz (.int (k : Int)), .no, .no]) := by
      show some ((PyData.list (cutD F none (some (k : Int))), Kd.new), _) = _
      rw [ct]
    refine eseq_nx (ρ1 := [.fz (.list []), .fz (.list F), .fz (.int (k : Int)), .own (.list (A ++ [t])), .no]) (elift_ev (asg_new (cb_ev (rs := [(.list (t :: p.take (k - 1)), .fz)]) (res := (.list (A ++ [t]), true)) (cons_fz (sv_new s1) nil_ev) (by show some (PyData.list (t :: p.take (k - 1)).reverse, true) = _; rw [rv])) rfl)) ?_
    refine eseq_nx (ρ1 := [.fz (.list []), .fz (.list F), .fz (.int (k : Int)), .own (.list A), .fz t]) (elift_ev (asg_fz (pop_ev (i := 3) t A rfl rfl) rfl)) ?_
    refine elift_ev (ret_eq ?_)
    have s2 : mSl gSl (mVar 1) (mPart (mVar 2)) mNoPart [.fz (.list []), .fz (.list F), .fz (.int (k : Int)), .own (.list A), .fz t] = some ((.list B, .new), [.fz (.list []), .fz (.list F), .fz (.int (k : Int)), .own (.list A), .fz t]) := by
      show some ((PyData.list (cutD F (some (k : Int)) none), Kd.new), _) = _
      rw [cf]
    have tq : mTup (mCons (mVar 3) (mCons (mSl gSl (mVar 1) (mPart (mVar 2)) mNoPart) mNil)) [.fz (.list []), .fz (.list F), .fz (.int (k : Int)), .own (.list A), .fz t] = some ((Qd A B, .fz), [.fz (.list []), .fz (.list F), .fz (.int (k : Int)), .fz (.list A), .fz t]) := tup_ev (rs := [(.list A, .at 3), (.list B, .fz)]) (cons_at (sv_at (var_own rfl)) (cons_fz (sv_new s2) nil_ev) rfl) rfl (by simp)
    have rp : mRep (mCons (mC (.str "moved")) mNil) (mCB gLen (mCons (mVar 1) mNil)) [.fz (.list []), .fz (.list F), .fz (.int (k : Int)), .fz (.list A), .fz t] = some ((.list (List.replicate (p.length + 1) (.str "moved")), .new), [.fz (.list []), .fz (.list F), .fz (.int (k : Int)), .fz (.list A), .fz t]) := by
      unfold mRep
      rw [lst_ev (rs := [(.str "moved", .fz)]) (ds := [.str "moved"]) rfl rfl (by simp), Option.bind_some]
      dsimp only
      rw [sv_fz (lenfz (k := .fz) (l := F) (sv_fz (var_fz rfl))), Option.bind_some]
      dsimp only
      rw [hln, rep_one _ _ (by omega)]; rfl
    have l2 : mLst (mCons (mC (.str "taken")) mNil) [.fz (.list []), .fz (.list F), .fz (.int (k : Int)), .fz (.list A), .fz t] = some ((.list [.str "taken"], .new), [.fz (.list []), .fz (.list F), .fz (.int (k : Int)), .fz (.list A), .fz t]) := lst_ev (rs := [(.str "taken", .fz)]) rfl rfl (by simp)
    have a2 : mOp gAdd (mRep (mCons (mC (.str "moved")) mNil) (mCB gLen (mCons (mVar 1) mNil))) (mLst (mCons (mC (.str "taken")) mNil)) [.fz (.list []), .fz (.list F), .fz (.int (k : Int)), .fz (.list A), .fz t] = some ((.list (List.replicate (p.length + 1) (.str "moved") ++ [.str "taken"]), .new), [.fz (.list []), .fz (.list F), .fz (.int (k : Int)), .fz (.list A), .fz t]) := op_ev (g := gAdd) (r := (.list [.str "taken"], .fz)) (res := (.list (List.replicate (p.length + 1) (PyData.str "moved") ++ [PyData.str "taken"]), true)) (sv_new rp) (sv_new l2) (gAdd_list _ _ (by walk_at "szo"))
    exact tup_ev (rs := [(t, .fz), (Qd A B, .fz), (.list (List.replicate (p.length + 1) (PyData.str "moved") ++ [PyData.str "taken"]), .fz)]) (cons_fz (sv_fz (var_fz rfl)) (cons_fz (sv_fz tq) (cons_fz (sv_new a2) nil_ev))) rfl (by simp)
theorem qix0 {ρ : Rho} {l r : List D} (h : ρ[0]? = some (.fz (Qd l r))) : mOp gIx (mVar 0) (mC (.int 0)) ρ = some ((.list l, .fz), ρ) := op_ev (r := (.int 0, .fz)) (res := (.list l, false)) (sv_fz (var_fz h)) (sv_fz rfl) (ix0 _ _)
theorem qix1 {ρ : Rho} {l r : List D} (h : ρ[0]? = some (.fz (Qd l r))) : mOp gIx (mVar 0) (mC (.int 1)) ρ = some ((.list r, .fz), ρ) := op_ev (r := (.int 1, .fz)) (res := (.list r, false)) (sv_fz (var_fz h)) (sv_fz rfl) (ix1 _ _)
theorem first_no : x_take_first [Qd [] []] = some (.inr "Empty") := fnX_er (ρ := [.fz (Qd [] [])]) rfl (eX_er (callX_er (rs := [(.list [], .fz), (.list [], .fz)]) (cons_fz (sv_fz (qix0 rfl)) (cons_fz (sv_fz (qix1 rfl)) nil_ev)) rfl near_no))
theorem last_no : x_take_last [Qd [] []] = some (.inr "Empty") := fnX_er (ρ := [.fz (Qd [] []), .no]) rfl (eseq_er (eX_er (callX_er (rs := [(.list [], .fz), (.list [], .fz)]) (cons_fz (sv_fz (qix1 rfl)) (cons_fz (sv_fz (qix0 rfl)) nil_ev)) rfl near_no)))
abbrev Rm (th : List D) (s : Nat) : D := .tuple [.list th, .int (s : Int)]
def crd (m s : Nat) : Int := if (s : Int) < 2 * (m : Int) then 2 * (m : Int) - s else if (4 : Int) < s then (s : Int) / 2 - m else 0
def Pw (s : Nat) : Prop := s = 4 ∨ s = 8 ∨ s = 16 ∨ s = 32 ∨ s = 64 ∨ s = 128 ∨ s = 256 ∨ s = 512 ∨ s = 1024 ∨ s = 2048 ∨ s = 4096
structure Fm (m s : Nat) : Prop where
  pw : Pw s
  le : m ≤ s
  low : s = 4 ∨ s < 4 * m
def up (m s : Nat) : Nat := if m = s then 2 * s else s
def ups (m s : Nat) : Nat := if m = s then m + 1 else 1
def dn (m s : Nat) : Nat := if 4 < s ∧ 4 * m ≤ s then s / 2 else s
def dns (m s : Nat) : Nat := if 4 < s ∧ 4 * m ≤ s then m + 1 else 1
theorem Fm.put {m s : Nat} (h : Fm m s) (hm : m ≤ 1000) : Fm (m + 1) (up m s) ∧ (ups m s : Int) + crd (m + 1) (up m s) ≤ crd m s + 3 := by
  obtain ⟨p, l, w⟩ := h
  unfold up ups
  by_cases e : m = s
  · rw [if_pos e, if_pos e]
    refine ⟨⟨?_, by omega, by unfold Pw at p; omega⟩, ?_⟩
    · unfold Pw at p ⊢; omega
    · unfold crd
      rw [if_pos (by omega), if_pos (by unfold Pw at p; omega)]
      omega
  · rw [if_neg e, if_neg e]
    refine ⟨⟨p, by omega, by omega⟩, ?_⟩
    unfold crd Pw at *
    split <;> split <;> (try split) <;> omega
theorem Fm.take {m s : Nat} (h : Fm (m + 1) s) : Fm m (dn m s) ∧ (dns m s : Int) + crd m (dn m s) ≤ crd (m + 1) s + 2 := by
  obtain ⟨p, l, w⟩ := h
  unfold dn dns
  by_cases e : 4 < s ∧ 4 * m ≤ s
  · rw [if_pos e, if_pos e]
    unfold Pw at p
    refine ⟨⟨by unfold Pw; omega, by omega, by omega⟩, ?_⟩
    unfold crd
    split <;> split <;> (try split) <;> omega
  · rw [if_neg e, if_neg e]
    unfold Pw at p
    refine ⟨⟨by unfold Pw; omega, by omega, by omega⟩, ?_⟩
    unfold crd
    split <;> split <;> (try split) <;> omega
theorem moves_is (th : List D) (h : th.length ≤ 90000) : m_moves [.list th] = some (.list (List.replicate th.length (.str "moved")), true) := by
  refine fn_of (o := .rt (.list (List.replicate th.length (.str "moved")), .new) [.fz (.list th)]) rfl (ret_eq ?_) rfl
  show mRep (mCons (mC (.str "moved")) mNil) (mCB gLen (mCons (mVar 0) mNil)) [.fz (.list th)] = _
  unfold mRep
  rw [lst_ev (rs := [(.str "moved", .fz)]) (ds := [.str "moved"]) rfl rfl (by simp), Option.bind_some]
  dsimp only
  rw [sv_fz (show mCB gLen (mCons (mVar 0) mNil) [.fz (.list th)] = some ((.int (th.length : Int), .fz), [.fz (.list th)]) from rfl), Option.bind_some]
  dsimp only
  rw [rep_one _ _ h]; rfl
theorem rcred_is (th : List D) (s : Nat) : m_room_credit [Rm th s] = some (.int (crd th.length s), false) := by
  have e0 : ∀ {s1 s2 : Sl}, mOp gIx (mVar 0) (mC (.int 0)) [.fz (Rm th s), s1, s2] = some ((.list th, .fz), [.fz (Rm th s), s1, s2]) := op_ev (r := (.int 0, .fz)) (res := (.list th, false)) (sv_fz (var_fz rfl)) (sv_fz rfl) (ix0 _ _)
  have e1 : ∀ {s1 s2 : Sl}, IE (mOp gIx (mVar 0) (mC (.int 1))) [.fz (Rm th s), s1, s2] (s : Int) := op_ev (r := (.int 1, .fz)) (res := (.int (s : Int), false)) (sv_fz (var_fz rfl)) (sv_fz rfl) (ix1 _ _)
  refine fn_of (o := .rt (.int (crd th.length s), .fz) [.fz (Rm th s), .fz (.int (th.length : Int)), .fz (.int (s : Int))]) rfl ?_ rfl
  refine seq_nx (ρ1 := [.fz (Rm th s), .fz (.int (th.length : Int)), .no]) (asgI (lenfz (k := .fz) (sv_fz e0)) rfl) ?_
  refine seq_nx (ρ1 := [.fz (Rm th s), .fz (.int (th.length : Int)), .fz (.int (s : Int))]) (asgI e1 rfl) ?_
  have e2 : IE (mOp gMul (mC (.int 2)) (mVar 1)) [.fz (Rm th s), .fz (.int (th.length : Int)), .fz (.int (s : Int))] (2 * (th.length : Int)) := ie_mul ie_c (ie_var rfl) (IntMulOk.of_left (by decide))
  unfold crd
  by_cases h1 : (s : Int) < 2 * (th.length : Int)
  · rw [if_pos h1]
    exact seq_rt (if_t (tstB (be_gt e2 (ie_var rfl)) (decide_eq_true h1)) (ret_eq (ie_sub e2 (ie_var rfl))))
  · rw [if_neg h1]
    refine seq_nx (ρ1 := [.fz (Rm th s), .fz (.int (th.length : Int)), .fz (.int (s : Int))]) (if_f (tstB (be_gt e2 (ie_var rfl)) (decide_eq_false h1)) rfl) ?_
    by_cases h2 : (4 : Int) < s
    · rw [if_pos h2]
      exact seq_rt (if_t (tstB (be_gt (ie_var rfl) ie_c) (decide_eq_true h2)) (ret_eq (ie_sub (ie_div (ie_var rfl) ie_c ⟨by decide, by decide⟩) (ie_var rfl))))
    · rw [if_neg h2]
      exact seq_nx (ρ1 := [.fz (Rm th s), .fz (.int (th.length : Int)), .fz (.int (s : Int))]) (if_f (tstB (be_gt (ie_var rfl) ie_c) (decide_eq_false h2)) rfl) (ret_eq ie_c)
theorem rput_is (th : List D) (s : Nat) (t : D) (hz : th.length ≤ 80000) : ∃ st : List D, st.length = ups th.length s ∧ m_room_put [Rm th s, t] = some (.tuple [Rm (th ++ [t]) (up th.length s), .list st], false) := by
  have e0 : ∀ {s1 s2 s3 s4 : Sl}, mOp gIx (mVar 0) (mC (.int 0)) [.fz (Rm th s), s1, s2, s3, s4] = some ((.list th, .fz), [.fz (Rm th s), s1, s2, s3, s4]) := op_ev (r := (.int 0, .fz)) (res := (.list th, false)) (sv_fz (var_fz rfl)) (sv_fz rfl) (ix0 _ _)
  have e1 : ∀ {s1 s2 s3 s4 : Sl}, IE (mOp gIx (mVar 0) (mC (.int 1))) [.fz (Rm th s), s1, s2, s3, s4] (s : Int) := op_ev (r := (.int 1, .fz)) (res := (.int (s : Int), false)) (sv_fz (var_fz rfl)) (sv_fz rfl) (ix1 _ _)
  have fin : ∀ (s' : Nat) (st : List D), st.length ≤ 80000 → mRet (mTup (mCons (mTup (mCons (mOp gAdd (mVar 2) (mLst (mCons (mVar 1) mNil))) (mCons (mVar 3) mNil))) (mCons (mOp gAdd (mVar 4) (mLst (mCons (mC (.str "laid")) mNil))) mNil))) [.fz (Rm th s), .fz t, .fz (.list th), .fz (.int (s' : Int)), .own (.list st)] = some (.rt (.tuple [Rm (th ++ [t]) s', .list (st ++ [.str "laid"])], .fz) [.fz (Rm th s), .fz t, .fz (.list th), .fz (.int (s' : Int)), .own (.list st)]) := fun s' st hst => by
    have l1 : mLst (mCons (mVar 1) mNil) [.fz (Rm th s), .fz t, .fz (.list th), .fz (.int (s' : Int)), .own (.list st)] = some ((.list [t], .new), [.fz (Rm th s), .fz t, .fz (.list th), .fz (.int (s' : Int)), .own (.list st)]) := lst_ev (rs := [(t, .fz)]) (cons_fz (sv_fz (var_fz rfl)) nil_ev) rfl (by simp)
    have l2 : mLst (mCons (mC (.str "laid")) mNil) [.fz (Rm th s), .fz t, .fz (.list th), .fz (.int (s' : Int)), .own (.list st)] = some ((.list [.str "laid"], .new), [.fz (Rm th s), .fz t, .fz (.list th), .fz (.int (s' : Int)), .own (.list st)]) := lst_ev (rs := [(.str "laid", .fz)]) rfl rfl (by simp)
    have a1 : mOp gAdd (mVar 2) (mLst (mCons (mVar 1) mNil)) [.fz (Rm th s), .fz t, .fz (.list th), .fz (.int (s' : Int)), .own (.list st)] = some ((.list (th ++ [t]), .new), _) := op_ev (r := (.list [t], .fz)) (res := (.list (th ++ [t]), true)) (sv_fz (var_fz rfl)) (sv_new l1) (gAdd_list _ _ (by walk_at "szo"))
    have a2 : mOp gAdd (mVar 4) (mLst (mCons (mC (.str "laid")) mNil)) [.fz (Rm th s), .fz t, .fz (.list th), .fz (.int (s' : Int)), .own (.list st)] = some ((.list (st ++ [.str "laid"]), .new), _) := op_at (r := (.list [.str "laid"], .fz)) (res := (.list (st ++ [.str "laid"]), true)) (sv_at (var_own rfl)) (sv_new l2) rfl (gAdd_list _ _ (by walk_at "szo"))
    have tq : mTup (mCons (mOp gAdd (mVar 2) (mLst (mCons (mVar 1) mNil))) (mCons (mVar 3) mNil)) [.fz (Rm th s), .fz t, .fz (.list th), .fz (.int (s' : Int)), .own (.list st)] = some ((Rm (th ++ [t]) s', .fz), [.fz (Rm th s), .fz t, .fz (.list th), .fz (.int (s' : Int)), .own (.list st)]) := tup_ev (rs := [(.list (th ++ [t]), .fz), (.int (s' : Int), .fz)]) (cons_fz (sv_new a1) (cons_fz (sv_fz (var_fz rfl)) nil_ev)) rfl (by simp)
    exact ret_eq (tup_ev (rs := [(Rm (th ++ [t]) s', .fz), (.list (st ++ [.str "laid"]), .fz)]) (cons_fz (sv_fz tq) (cons_fz (sv_new a2) nil_ev)) rfl (by simp))
  have hd : ∀ (k : SM) (o : Option Out), k [.fz (Rm th s), .fz t, .fz (.list th), .fz (.int (s : Int)), .own (.list [])] = o → mSeq (mAsg 2 (mOp gIx (mVar 0) (mC (.int 0)))) (mSeq (mAsg 3 (mOp gIx (mVar 0) (mC (.int 1)))) (mSeq (mAsg 4 (mLst mNil)) k)) [.fz (Rm th s), .fz t, .no, .no, .no] = o := fun k o hk => by
    refine seq_nx (ρ1 := [.fz (Rm th s), .fz t, .fz (.list th), .no, .no]) (asg_fz e0 rfl) ?_
    refine seq_nx (ρ1 := [.fz (Rm th s), .fz t, .fz (.list th), .fz (.int (s : Int)), .no]) (asgI e1 rfl) ?_
    exact seq_nx (ρ1 := [.fz (Rm th s), .fz t, .fz (.list th), .fz (.int (s : Int)), .own (.list [])]) (asg_new (lst_ev rfl rfl (by simp)) rfl) hk
  unfold ups up
  by_cases h : th.length = s
  · rw [if_pos h, if_pos h]
    refine ⟨List.replicate th.length (.str "moved") ++ [.str "laid"], by simp, Mir.fn_of (o := .rt (.tuple [Rm (th ++ [t]) (2 * s), .list (List.replicate th.length (.str "moved") ++ [.str "laid"])], .fz) [.fz (Rm th s), .fz t, .fz (.list th), .fz (.int ((2 * s : Nat) : Int)), .own (.list (List.replicate th.length (.str "moved")))]) rfl (hd _ _ ?_) rfl⟩
    refine seq_nx (ρ1 := [.fz (Rm th s), .fz t, .fz (.list th), .fz (.int ((2 * s : Nat) : Int)), .own (.list (List.replicate th.length (.str "moved")))]) (if_t (tEq (lenfz (k := .fz) (l := th) (sv_fz (var_fz rfl))) (ie_var (i := (s : Int)) rfl) (by omega)) ?_) (fin (2 * s) _ (by rw [List.length_replicate]; exact hz))
    refine seq_nx (ρ1 := [.fz (Rm th s), .fz t, .fz (.list th), .fz (.int ((2 * s : Nat) : Int)), .own (.list [])]) (asgI ((ie_mul ie_c (ie_var rfl) (IntMulOk.of_left (by decide))).is (j := ((2 * s : Nat) : Int)) (by omega)) rfl) ?_
    exact asg_new (call_fz (rs := [(.list th, .fz)]) (cons_fz (sv_fz (var_fz rfl)) nil_ev) (moves_is th (by omega)) rfl) rfl
  · rw [if_neg h, if_neg h]
    refine ⟨[] ++ [.str "laid"], by simp, Mir.fn_of (o := .rt (.tuple [Rm (th ++ [t]) s, .list ([] ++ [.str "laid"])], .fz) [.fz (Rm th s), .fz t, .fz (.list th), .fz (.int (s : Int)), .own (.list [])]) rfl (hd _ _ ?_) rfl⟩
    exact seq_nx (ρ1 := [.fz (Rm th s), .fz t, .fz (.list th), .fz (.int (s : Int)), .own (.list [])]) (if_f (tNe (lenfz (k := .fz) (l := th) (sv_fz (var_fz rfl))) (ie_var (i := (s : Int)) rfl) (by omega)) rfl) (fin s [] (by simp))
theorem rtake_no (s : Nat) : x_room_take [Rm [] s] = some (.inr "Empty") := by
  have e0 : mOp gIx (mVar 0) (mC (.int 0)) [.fz (Rm [] s), .no, .no, .no] = some ((.list [], .fz), [.fz (Rm [] s), .no, .no, .no]) := op_ev (r := (.int 0, .fz)) (res := (.list [], false)) (sv_fz (var_fz rfl)) (sv_fz rfl) (ix0 _ _)
  exact fnX_er (ρ := [.fz (Rm [] s), .no, .no, .no]) rfl (eseq_er (eif_t (tEq (lenfz (k := .fz) (sv_fz e0)) ie_c rfl) rfl))
theorem rtake_is (fs : List D) (t : D) (s : Nat) (hz : fs.length ≤ 80000) : ∃ st : List D, st.length = dns fs.length s ∧ x_room_take [Rm (fs ++ [t]) s] = some (.inl (.tuple [t, Rm fs (dn fs.length s), .list st], false)) := by
  generalize hR : Rm (fs ++ [t]) s = R
  have e0 : ∀ {s1 s2 s3 : Sl}, mOp gIx (mVar 0) (mC (.int 0)) [.fz R, s1, s2, s3] = some ((.list (fs ++ [t]), .fz), [.fz R, s1, s2, s3]) := op_ev (r := (.int 0, .fz)) (res := (.list (fs ++ [t]), false)) (sv_fz (var_fz rfl)) (sv_fz rfl) (by rw [← hR]; rfl)
  have e1 : ∀ {s1 s2 s3 : Sl}, IE (mOp gIx (mVar 0) (mC (.int 1))) [.fz R, s1, s2, s3] (s : Int) := op_ev (r := (.int 1, .fz)) (res := (.int (s : Int), false)) (sv_fz (var_fz rfl)) (sv_fz rfl) (by rw [← hR]; rfl)
  have el : ∀ {s1 s2 s3 : Sl}, mOp gIx (mOp gIx (mVar 0) (mC (.int 0))) (mUn gNeg (mC (.int 1))) [.fz R, s1, s2, s3] = some ((t, .fz), [.fz R, s1, s2, s3]) := op_ev (r := (.int (-1), .fz)) (res := (t, false)) (sv_fz e0) (sv_fz (ie_neg ie_c)) (ix_last fs t)
  have sl : mSl gSl (mOp gIx (mVar 0) (mC (.int 0))) mNoPart (mPart (mUn gNeg (mC (.int 1)))) [.fz R, .no, .no, .no] = some ((.list fs, .new), [.fz R, .no, .no, .no]) := by
    unfold mSl
    rw [sv_fz e0, Option.bind_some]
    dsimp only [mNoPart, Option.bind_some]
    rw [neg1, Option.bind_some]
    show some ((PyData.list (cutD (fs ++ [t]) none (some (-1))), Kd.new), _) = _
    rw [cut_last]
  have fin : ∀ (s' : Nat) (st : List D), mRet (mTup (mCons (mOp gIx (mOp gIx (mVar 0) (mC (.int 0))) (mUn gNeg (mC (.int 1)))) (mCons (mTup (mCons (mVar 1) (mCons (mVar 2) mNil))) (mCons (mVar 3) mNil)))) [.fz R, .own (.list fs), .fz (.int (s' : Int)), .own (.list st)] = some (.rt (.tuple [t, Rm fs s', .list st], .fz) [.fz R, .fz (.list fs), .fz (.int (s' : Int)), .fz (.list st)]) := fun s' st => by
    have tq : mTup (mCons (mVar 1) (mCons (mVar 2) mNil)) [.fz R, .own (.list fs), .fz (.int (s' : Int)), .own (.list st)] = some ((Rm fs s', .fz), [.fz R, .fz (.list fs), .fz (.int (s' : Int)), .own (.list st)]) := tup_ev (rs := [(.list fs, .at 1), (.int (s' : Int), .fz)]) rfl rfl (by simp)
    exact ret_eq (tup_ev (rs := [(t, .fz), (Rm fs s', .fz), (.list st, .at 3)]) (cons_fz (sv_fz el) (cons_fz (sv_fz tq) rfl)) rfl (by simp))
  have hd : ∀ (k : EM) (o : Option OutE), k [.fz R, .own (.list fs), .fz (.int (s : Int)), .own (.list [.str "taken"])] = o →
      eSeq (eIf (mTest (mOp gEq (mCB gLen (mCons (mOp gIx (mVar 0) (mC (.int 0))) mNil)) (mC (.int 0)))) (eRaise "Empty" (mCons (mC (.str "the room has no things")) mNil)) (eLift mPass)) (eSeq (eLift (mAsg 1 (mSl gSl (mOp gIx (mVar 0) (mC (.int 0))) mNoPart (mPart (mUn gNeg (mC (.int 1))))))) (eSeq (eLift (mAsg 2 (mOp gIx (mVar 0) (mC (.int 1))))) (eSeq (eLift (mAsg 3 (mLst (mCons (mC (.str "taken")) mNil)))) k))) [.fz R, .no, .no, .no] = o := fun k o hk => by
    refine eseq_nx (ρ1 := [.fz R, .no, .no, .no]) (eif_f (tNe (lenfz (k := .fz) (sv_fz e0)) ie_c (by walk_at "szo")) (elift_ev rfl)) ?_
    refine eseq_nx (ρ1 := [.fz R, .own (.list fs), .no, .no]) (elift_ev (asg_new sl rfl)) ?_
    refine eseq_nx (ρ1 := [.fz R, .own (.list fs), .fz (.int (s : Int)), .no]) (elift_ev (asgI e1 rfl)) ?_
    exact eseq_nx (ρ1 := [.fz R, .own (.list fs), .fz (.int (s : Int)), .own (.list [.str "taken"])]) (elift_ev (asg_new (lst_ev (rs := [(.str "taken", .fz)]) rfl rfl (by simp)) rfl)) hk
  have t1 : mTest (mOp gGt (mVar 2) (mC (.int 4))) [.fz R, .own (.list fs), .fz (.int (s : Int)), .own (.list [.str "taken"])] = some (decide ((4 : Int) < s), _) := (be_gt (ie_var rfl) ie_c).t
  have t2 : mTest (mOp gLe (mOp gMul (mC (.int 4)) (mCB gLen (mCons (mVar 1) mNil))) (mVar 2)) [.fz R, .own (.list fs), .fz (.int (s : Int)), .own (.list [.str "taken"])] = some (decide (4 * (fs.length : Int) ≤ s), _) := (be_le (ie_mul ie_c (qlen rfl) (IntMulOk.of_left (by decide))) (ie_var rfl)).t
  unfold dns dn
  by_cases h : 4 < s ∧ 4 * fs.length ≤ s
  · rw [if_pos h, if_pos h]
    rw [decide_eq_true (by omega)] at t1 t2
    refine ⟨[.str "taken"] ++ List.replicate fs.length (.str "moved"), by walk_at "szo", fnX_ok (o := .rt (.tuple [t, Rm fs (s / 2), .list ([.str "taken"] ++ List.replicate fs.length (.str "moved"))], .fz) [.fz R, .fz (.list fs), .fz (.int ((s / 2 : Nat) : Int)), .fz (.list ([.str "taken"] ++ List.replicate fs.length (.str "moved")))]) rfl (hd _ _ ?_) rfl⟩
    refine eseq_nx (ρ1 := [.fz R, .own (.list fs), .fz (.int ((s / 2 : Nat) : Int)), .own (.list ([.str "taken"] ++ List.replicate fs.length (.str "moved")))]) (elift_ev (if_t (and_t t1 t2) ?_)) (elift_ev (fin (s / 2) _))
    refine seq_nx (ρ1 := [.fz R, .own (.list fs), .fz (.int ((s / 2 : Nat) : Int)), .own (.list [.str "taken"])]) (asgI ((ie_div (ie_var rfl) ie_c ⟨by decide, by decide⟩).is (j := ((s / 2 : Nat) : Int)) (by omega)) rfl) ?_
    refine asg_new (op_at (r := (.list (List.replicate fs.length (.str "moved")), .fz)) (res := (.list ([.str "taken"] ++ List.replicate fs.length (.str "moved")), true)) (sv_at (var_own rfl)) (sv_new (call_pure (rs := [(.list fs, .at 1)]) rfl (moves_is fs (by omega)) ?_)) rfl (gAdd_list _ _ (by walk_at "szo"))) rfl
    rw [pureR_new]
    generalize fs.length = n
    induction n with
    | zero => exact pureDs_nil
    | succ n ih => rw [List.replicate_succ]; simp only [pureDs, pureD, Bool.true_and, ih]
  · rw [if_neg h, if_neg h]
    refine ⟨[.str "taken"], by simp, fnX_ok (o := .rt (.tuple [t, Rm fs s, .list [.str "taken"]], .fz) [.fz R, .fz (.list fs), .fz (.int (s : Int)), .fz (.list [.str "taken"])]) rfl (hd _ _ ?_) rfl⟩
    refine eseq_nx (ρ1 := [.fz R, .own (.list fs), .fz (.int (s : Int)), .own (.list [.str "taken"])]) (elift_ev (if_f ?_ rfl)) (elift_ev (fin s _))
    by_cases h4 : (4 : Int) < s
    · rw [decide_eq_true h4] at t1
      rw [decide_eq_false (by omega)] at t2
      exact and_t t1 t2
    · rw [decide_eq_false h4] at t1
      exact and_f t1
theorem fol_own {i : Nat} {ρ : Rho} {ds : List D} (h : ρ[i]? = some (.own (.list ds))) : mFoL (mVar i) ρ = some (ds, ρ.set i (.fz (.list ds))) := by
  unfold mFoL
  rw [sv_at (var_own h), Option.bind_some]
  dsimp only [fzOne]
  rw [h]; rfl
def Low (e : EM) (m : SM) : Prop := ∀ ρ o, e ρ = some (.ok o) → m ρ = some o
theorem low_lift {m : SM} : Low (eLift m) m := fun ρ o h => by
  obtain ⟨x, e1, e⟩ := Option.map_eq_some_iff.mp h
  cases e; exact e1
theorem low_seq {a b : EM} {m n : SM} (h1 : Low a m) (h2 : Low b n) : Low (eSeq a b) (mSeq m n) := fun ρ o h => by
  obtain ⟨x, e1, e⟩ := Option.bind_eq_some_iff.mp h
  cases x with
  | er c ρ1 => cases e
  | ok x =>
    have := h1 ρ x e1
    unfold mSeq
    rw [this]
    cases x with
    | nx ρ1 => exact h2 ρ1 o e
    | rt r ρ1 => cases e; rfl
    | bk ρ1 => cases e; rfl
    | ct ρ1 => cases e; rfl
theorem low_if {c : Rho → Option (Bool × Rho)} {a b : EM} {m n : SM} (h1 : Low a m) (h2 : Low b n) : Low (eIf c a b) (mIfS c m n) := fun ρ o h => by
  obtain ⟨x, e1, e⟩ := Option.bind_eq_some_iff.mp h
  obtain ⟨v, ρ1⟩ := x
  cases v with
  | true => exact if_t e1 (h1 ρ1 o e)
  | false => exact if_f e1 (h2 ρ1 o e)
theorem low_raise {c : Str} {a : Rho → Option (List RV × Rho)} {m : SM} : Low (eRaise c a) m := fun ρ o h => by
  obtain ⟨x, e1, e⟩ := Option.bind_eq_some_iff.mp h
  split at e <;> cases e
theorem low_fn {e : EM} {m : SM} {n k : Nat} {ds : List D} {w : D × Bool} (h : Low e m) (hx : fnX n k e ds = some (.inl w)) : fnM n k m ds = some w := by
  unfold fnX at hx
  split at hx
  · rename_i hl
    obtain ⟨x, e1, e⟩ := Option.bind_eq_some_iff.mp hx
    cases x with
    | er c ρ1 => cases e
    | ok x =>
      unfold fnM
      rw [if_pos hl, h _ _ e1]
      obtain ⟨y, e2, e⟩ := Option.map_eq_some_iff.mp (show (retD x).map Sum.inl = some (.inl w) from e)
      cases e; exact e2
  · cases hx
theorem qtakeM {ds : List D} {w : D × Bool} (h : x_queue_take ds = some (.inl w)) : m_queue_take ds = some w :=
  low_fn (low_seq low_lift (low_seq low_lift (low_seq low_lift (low_seq low_lift (low_seq (low_if low_raise low_lift) (low_seq low_lift (low_seq low_lift low_lift))))))) h
theorem rtakeM {ds : List D} {w : D × Bool} (h : x_room_take ds = some (.inl w)) : m_room_take ds = some w :=
  low_fn (low_seq (low_if low_raise low_lift) (low_seq low_lift (low_seq low_lift (low_seq low_lift (low_seq low_lift low_lift))))) h
theorem nearM {ds : List D} {w : D × Bool} (h : x_take_near ds = some (.inl w)) : m_take_near ds = some w :=
  low_fn (low_seq low_lift (low_seq (low_if low_raise low_lift) (low_seq low_lift (low_seq low_lift (low_seq low_lift low_lift))))) h
theorem first_m (l r : List D) (t : D) (p : List D) (hp : l.reverse ++ r = t :: p) (hz : l.length + r.length ≤ 80000) : ∃ l' r' st : List D, l'.reverse ++ r' = p ∧ m_take_first [Qd l r] = some (.tuple [t, Qd l' r', .list st], false) := by
  obtain ⟨n', f', st, h1, h2, nr⟩ := near_is l r t p hp hz
  exact ⟨n', f', st, h1, fn_of (o := .rt (.tuple [t, Qd n' f', .list st], .fz) [.fz (Qd l r)]) rfl (ret_eq (call_fz (rs := [(.list l, .fz), (.list r, .fz)]) (cons_fz (sv_fz (qix0 rfl)) (cons_fz (sv_fz (qix1 rfl)) nil_ev)) (nearM nr) rfl)) rfl⟩
theorem last_m (l r : List D) (t : D) (p : List D) (hp : l.reverse ++ r = p ++ [t]) (hz : l.length + r.length ≤ 80000) : ∃ l' r' st : List D, l'.reverse ++ r' = p ∧ m_take_last [Qd l r] = some (.tuple [t, Qd l' r', .list st], false) := by
  have hp' : r.reverse ++ l = t :: p.reverse := by
    have := congrArg List.reverse hp
    rw [List.reverse_append, List.reverse_reverse, List.reverse_append, List.reverse_singleton, List.singleton_append] at this
    exact this
  obtain ⟨n', f', st, h1, h2, nr0⟩ := near_is r l t p.reverse hp' (by omega)
  have nr := nearM nr0
  refine ⟨f', n', st, ?_, ?_⟩
  · have := congrArg List.reverse h1
    rw [List.reverse_append, List.reverse_reverse, List.reverse_reverse] at this
    exact this
  · generalize hT : PyData.tuple [t, Qd n' f', .list st] = T at nr
    have e0 : mOp gIx (mVar 1) (mC (.int 0)) [.fz (Qd l r), .fz T] = some ((t, .fz), [.fz (Qd l r), .fz T]) := op_ev (r := (.int 0, .fz)) (res := (t, false)) (sv_fz (var_fz rfl)) (sv_fz rfl) (by rw [← hT]; rfl)
    have e1 : mOp gIx (mVar 1) (mC (.int 1)) [.fz (Qd l r), .fz T] = some ((Qd n' f', .fz), [.fz (Qd l r), .fz T]) := op_ev (r := (.int 1, .fz)) (res := (Qd n' f', false)) (sv_fz (var_fz rfl)) (sv_fz rfl) (by rw [← hT]; rfl)
    have e2 : mOp gIx (mVar 1) (mC (.int 2)) [.fz (Qd l r), .fz T] = some ((.list st, .fz), [.fz (Qd l r), .fz T]) := op_ev (r := (.int 2, .fz)) (res := (.list st, false)) (sv_fz (var_fz rfl)) (sv_fz rfl) (by rw [← hT]; rfl)
    have e11 : mOp gIx (mOp gIx (mVar 1) (mC (.int 1))) (mC (.int 1)) [.fz (Qd l r), .fz T] = some ((.list f', .fz), [.fz (Qd l r), .fz T]) := op_ev (r := (.int 1, .fz)) (res := (.list f', false)) (sv_fz e1) (sv_fz rfl) (ix1 _ _)
    have e10 : mOp gIx (mOp gIx (mVar 1) (mC (.int 1))) (mC (.int 0)) [.fz (Qd l r), .fz T] = some ((.list n', .fz), [.fz (Qd l r), .fz T]) := op_ev (r := (.int 0, .fz)) (res := (.list n', false)) (sv_fz e1) (sv_fz rfl) (ix0 _ _)
    have tq := tup_ev (rs := [(.list f', .fz), (.list n', .fz)]) (cons_fz (sv_fz e11) (cons_fz (sv_fz e10) nil_ev)) rfl (by simp)
    refine fn_of (o := .rt (.tuple [t, Qd f' n', .list st], .fz) [.fz (Qd l r), .fz T]) rfl ?_ rfl
    refine seq_nx (ρ1 := [.fz (Qd l r), .fz T]) (asg_fz (call_fz (rs := [(.list r, .fz), (.list l, .fz)]) (cons_fz (sv_fz (qix1 rfl)) (cons_fz (sv_fz (qix0 rfl)) nil_ev)) nr rfl) rfl) ?_
    exact ret_eq (tup_ev (rs := [(t, .fz), (Qd f' n', .fz), (.list st, .fz)]) (cons_fz (sv_fz e0) (cons_fz (sv_fz tq) (cons_fz (sv_fz e2) nil_ev))) rfl (by simp))
structure E3 (n : Nat) (q d r : D) : Prop where
  q : ∃ f b : List D, q = Qd f b ∧ f.length + b.length = n
  d : ∃ f b : List D, d = Qd f b ∧ f.length + b.length = n
  r : ∃ (th : List D) (s : Nat), r = Rm th s ∧ th.length = n ∧ Fm n s
theorem ixP {a b : D} {m : PM} {ρ : Rho} (h : m ρ = some ((.tuple [a, b], .fz), ρ)) : mOp gIx m (mC (.int 0)) ρ = some ((a, .fz), ρ) := op_ev (r := (.int 0, .fz)) (res := (a, false)) (sv_fz h) (sv_fz rfl) (ix0 _ _)
theorem ixT0 {a b c : D} {m : PM} {ρ : Rho} (h : m ρ = some ((.tuple [a, b, c], .fz), ρ)) : mOp gIx m (mC (.int 0)) ρ = some ((a, .fz), ρ) := op_ev (r := (.int 0, .fz)) (res := (a, false)) (sv_fz h) (sv_fz rfl) rfl
theorem ixT1 {a b c : D} {m : PM} {ρ : Rho} (h : m ρ = some ((.tuple [a, b, c], .fz), ρ)) : mOp gIx m (mC (.int 1)) ρ = some ((b, .fz), ρ) := op_ev (r := (.int 1, .fz)) (res := (b, false)) (sv_fz h) (sv_fz rfl) rfl
theorem bit_ev {ρ : Rho} {a b : PM} {i : Int} {j : Nat} (h1 : IE a ρ i) (h2 : IE b ρ (j : Int)) : ∃ v : Bool, mTest (mOp gEq (mOp gMod (mOp gShr a b) (mC (.int 2))) (mC (.int 1))) ρ = some (v, ρ) :=
  ⟨_, (be_eq (ie_mod (op_i (g := gShr) h1 h2 (gI_ev (C := fun _ j => 0 ≤ j) (f := fun i j => i / 2 ^ j.toNat) (Int.natCast_nonneg j))) ie_c (by decide)) ie_c).t⟩
theorem puts (m0 e : Int) : ∀ (m k n : Nat) (q d r : D) (s : Sl), E3 n q d r → n + m ≤ 900 → NIo s → ∃ q' d' r' s', E3 (n + m) q' d' r' ∧ NIo s' ∧ forL (mgN 5) lb2_law_emptied ((List.range' k m).map fun k : Nat => PyData.int (k : Int)) [.fz (.int m0), .fz (.int e), .fz q, .fz d, .fz r, s] = some (.nx [.fz (.int m0), .fz (.int e), .fz q', .fz d', .fz r', s'])
  | 0, k, n, q, d, r, s, h, _, hs => ⟨q, d, r, s, h, hs, rfl⟩
  | m + 1, k, n, q, d, r, s, h, hn, hs => by
    obtain ⟨⟨f, b, rfl, hq⟩, ⟨f2, b2, rfl, hd⟩, ⟨th, z, rfl, ht, fm⟩⟩ := h
    obtain ⟨st, _, rp⟩ := rput_is th z (.int (k : Int)) (by omega)
    have fm' := (fm.put (by omega)).1
    have go : ∀ d', (∃ f b : List D, d' = Qd f b ∧ f.length + b.length = n + 1) → lb2_law_emptied [.fz (.int m0), .fz (.int e), .fz (Qd f b), .fz (Qd f2 b2), .fz (Rm th z), .fz (.int (k : Int))] = some (.nx [.fz (.int m0), .fz (.int e), .fz (Qd f (b ++ [.int (k : Int)])), .fz d', .fz (Rm (th ++ [.int (k : Int)]) (up th.length z)), .fz (.int (k : Int))]) → ∃ q' d' r' s', E3 (n + (m + 1)) q' d' r' ∧ NIo s' ∧ forL (mgN 5) lb2_law_emptied ((List.range' k (m + 1)).map fun k : Nat => PyData.int (k : Int)) [.fz (.int m0), .fz (.int e), .fz (Qd f b), .fz (Qd f2 b2), .fz (Rm th z), s] = some (.nx [.fz (.int m0), .fz (.int e), .fz q', .fz d', .fz r', s']) := fun d' hd' hb => by
      obtain ⟨q', d', r', s', g1, g2, g3⟩ := puts m0 e m (k + 1) (n + 1) (Qd f (b ++ [.int (k : Int)])) d' (Rm (th ++ [.int (k : Int)]) (up th.length z)) (.fz (.int (k : Int))) ⟨⟨_, _, rfl, by rw [List.length_append, List.length_singleton]; omega⟩, hd', ⟨_, _, rfl, by rw [List.length_append, List.length_singleton]; omega, by rw [ht]; exact fm'⟩⟩ (by omega) (NIo.fz _)
      refine ⟨q', d', r', s', by rw [show n + (m + 1) = n + 1 + m by omega]; exact g1, g2, ?_⟩
      rw [List.range'_succ, List.map_cons]
      exact forL_cons (mgN_nio (i := 5) rfl hs) hb g3
    obtain ⟨v, hv⟩ := bit_ev (ρ := [.fz (.int m0), .fz (.int e), .fz (Qd f (b ++ [.int (k : Int)])), .fz (Qd f2 b2), .fz (Rm (th ++ [.int (k : Int)]) (up th.length z)), .fz (.int (k : Int))]) (a := mVar 1) (b := mVar 5) (i := e) (j := k) (ie_var rfl) (ie_var rfl)
    have s1 := asg_fz (i := 2) (ρ2 := [.fz (.int m0), .fz (.int e), .fz (Qd f (b ++ [.int (k : Int)])), .fz (Qd f2 b2), .fz (Rm th z), .fz (.int (k : Int))]) (ixP (call_fz (m := mCons (mVar 2) (mCons (mVar 5) mNil)) (ρ := [.fz (.int m0), .fz (.int e), .fz (Qd f b), .fz (Qd f2 b2), .fz (Rm th z), .fz (.int (k : Int))]) (rs := [(Qd f b, .fz), (.int (k : Int), .fz)]) (cons_fz (sv_fz (var_fz rfl)) (cons_fz (sv_fz (var_fz rfl)) nil_ev)) (qput_is f b (.int (k : Int)) (by omega)) rfl)) rfl
    have s2 := asg_fz (i := 4) (ρ2 := [.fz (.int m0), .fz (.int e), .fz (Qd f (b ++ [.int (k : Int)])), .fz (Qd f2 b2), .fz (Rm (th ++ [.int (k : Int)]) (up th.length z)), .fz (.int (k : Int))]) (ixP (call_fz (m := mCons (mVar 4) (mCons (mVar 5) mNil)) (ρ := [.fz (.int m0), .fz (.int e), .fz (Qd f (b ++ [.int (k : Int)])), .fz (Qd f2 b2), .fz (Rm th z), .fz (.int (k : Int))]) (rs := [(Rm th z, .fz), (.int (k : Int), .fz)]) (cons_fz (sv_fz (var_fz rfl)) (cons_fz (sv_fz (var_fz rfl)) nil_ev)) rp rfl)) rfl
    cases v with
    | true => exact go (Qd (f2 ++ [.int (k : Int)]) b2) ⟨_, _, rfl, by rw [List.length_append, List.length_singleton]; omega⟩ (seq_nx s1 (seq_nx s2 (if_t hv (asg_fz (ixP (call_fz (rs := [(Qd f2 b2, .fz), (.int (k : Int), .fz)]) (cons_fz (sv_fz (var_fz rfl)) (cons_fz (sv_fz (var_fz rfl)) nil_ev)) (pfirst_is f2 b2 (.int (k : Int)) (by omega)) rfl)) rfl))))
    | false => exact go (Qd f2 (b2 ++ [.int (k : Int)])) ⟨_, _, rfl, by rw [List.length_append, List.length_singleton]; omega⟩ (seq_nx s1 (seq_nx s2 (if_f hv (asg_fz (ixP (call_fz (rs := [(Qd f2 b2, .fz), (.int (k : Int), .fz)]) (cons_fz (sv_fz (var_fz rfl)) (cons_fz (sv_fz (var_fz rfl)) nil_ev)) (plast_is f2 b2 (.int (k : Int)) (by omega)) rfl)) rfl))))
theorem hd_of {f b : List D} {n : Nat} (h : f.length + b.length = n + 1) : ∃ t p, f.reverse ++ b = t :: p ∧ p.length = n := by
  cases e : f.reverse ++ b with
  | nil => have := congrArg List.length e; rw [List.length_append, List.length_reverse, List.length_nil] at this; omega
  | cons t p => exact ⟨t, p, rfl, by have := congrArg List.length e; rw [List.length_append, List.length_reverse, List.length_cons] at this; omega⟩
theorem tl_of {f b : List D} {n : Nat} (h : f.length + b.length = n + 1) : ∃ t p, f.reverse ++ b = p ++ [t] ∧ p.length = n := by
  rcases List.eq_nil_or_concat (f.reverse ++ b) with e | ⟨p, t, e⟩
  · have := congrArg List.length e; rw [List.length_append, List.length_reverse, List.length_nil] at this; omega
  · exact ⟨t, p, by rw [e, List.concat_eq_append], by have := congrArg List.length e; rw [List.length_append, List.length_reverse, List.concat_eq_append, List.length_append, List.length_singleton] at this; omega⟩
theorem len_of {f b p : List D} {n : Nat} (h : f.reverse ++ b = p) (hp : p.length = n) : f.length + b.length = n := by
  rw [← hp, ← h, List.length_append, List.length_reverse]
theorem takes (m0 : Nat) (e : Int) : ∀ (m k : Nat) (q d r : D) (s : Sl), E3 m q d r → m ≤ 900 → NIo s → ∃ q' d' r' s', E3 0 q' d' r' ∧ NIo s' ∧ forL (mgN 5) lb1_law_emptied ((List.range' k m).map fun k : Nat => PyData.int (k : Int)) [.fz (.int (m0 : Int)), .fz (.int e), .fz q, .fz d, .fz r, s] = some (.nx [.fz (.int (m0 : Int)), .fz (.int e), .fz q', .fz d', .fz r', s'])
  | 0, k, q, d, r, s, h, _, hs => ⟨q, d, r, s, h, hs, rfl⟩
  | m + 1, k, q, d, r, s, h, hn, hs => by
    obtain ⟨⟨f, b, rfl, hq⟩, ⟨f2, b2, rfl, hd⟩, ⟨th, z, rfl, ht, fm⟩⟩ := h
    obtain ⟨t, p, hp, hpl⟩ := hd_of hq
    obtain ⟨f', b', st, g1, _, _, tk⟩ := qtake_is f b t p hp (by omega)
    obtain ⟨t3, fs, e3, h3⟩ : ∃ (t : D) (fs : List D), th = fs ++ [t] ∧ fs.length = m := by
      rcases List.eq_nil_or_concat th with e | ⟨p, t, e⟩
      · rw [e] at ht; simp at ht
      · exact ⟨t, p, by rw [e, List.concat_eq_append], by rw [e, List.concat_eq_append, List.length_append, List.length_singleton] at ht; omega⟩
    subst e3
    obtain ⟨st3, _, rt⟩ := rtake_is fs t3 z (by omega)
    have fm' := (fm.take).1
    have go : ∀ d', (∃ f b : List D, d' = Qd f b ∧ f.length + b.length = m) → lb1_law_emptied [.fz (.int (m0 : Int)), .fz (.int e), .fz (Qd f b), .fz (Qd f2 b2), .fz (Rm (fs ++ [t3]) z), .fz (.int (k : Int))] = some (.nx [.fz (.int (m0 : Int)), .fz (.int e), .fz (Qd f' b'), .fz d', .fz (Rm fs (dn fs.length z)), .fz (.int (k : Int))]) → ∃ q' d' r' s', E3 0 q' d' r' ∧ NIo s' ∧ forL (mgN 5) lb1_law_emptied ((List.range' k (m + 1)).map fun k : Nat => PyData.int (k : Int)) [.fz (.int (m0 : Int)), .fz (.int e), .fz (Qd f b), .fz (Qd f2 b2), .fz (Rm (fs ++ [t3]) z), s] = some (.nx [.fz (.int (m0 : Int)), .fz (.int e), .fz q', .fz d', .fz r', s']) := fun d' hd' hb => by
      obtain ⟨q', d', r', s', g1, g2, g3⟩ := takes m0 e m (k + 1) (Qd f' b') d' (Rm fs (dn fs.length z)) (.fz (.int (k : Int))) ⟨⟨_, _, rfl, len_of g1 hpl⟩, hd', ⟨_, _, rfl, h3, by rw [h3]; exact fm'⟩⟩ (by omega) (NIo.fz _)
      refine ⟨q', d', r', s', g1, g2, ?_⟩
      rw [List.range'_succ, List.map_cons]
      exact forL_cons (mgN_nio (i := 5) rfl hs) hb g3
    have ej : IE (mOp gAdd (mVar 0) (mVar 5)) [.fz (.int (m0 : Int)), .fz (.int e), .fz (Qd f' b'), .fz (Qd f2 b2), .fz (Rm fs (dn fs.length z)), .fz (.int (k : Int))] ((m0 + k : Nat) : Int) := by
      rw [Int.natCast_add]; exact ie_add (ie_var rfl) (ie_var rfl)
    obtain ⟨v, hv⟩ := bit_ev (ρ := [.fz (.int (m0 : Int)), .fz (.int e), .fz (Qd f' b'), .fz (Qd f2 b2), .fz (Rm fs (dn fs.length z)), .fz (.int (k : Int))]) (a := mVar 1) (b := mOp gAdd (mVar 0) (mVar 5)) (i := e) (j := m0 + k) (ie_var rfl) ej
    have s1 := asg_fz (i := 2) (ρ2 := [.fz (.int (m0 : Int)), .fz (.int e), .fz (Qd f' b'), .fz (Qd f2 b2), .fz (Rm (fs ++ [t3]) z), .fz (.int (k : Int))]) (ixT1 (call_fz (m := mCons (mVar 2) mNil) (ρ := [.fz (.int (m0 : Int)), .fz (.int e), .fz (Qd f b), .fz (Qd f2 b2), .fz (Rm (fs ++ [t3]) z), .fz (.int (k : Int))]) (rs := [(Qd f b, .fz)]) (cons_fz (sv_fz (var_fz rfl)) nil_ev) (qtakeM tk) rfl)) rfl
    have s2 := asg_fz (i := 4) (ρ2 := [.fz (.int (m0 : Int)), .fz (.int e), .fz (Qd f' b'), .fz (Qd f2 b2), .fz (Rm fs (dn fs.length z)), .fz (.int (k : Int))]) (ixT1 (call_fz (m := mCons (mVar 4) mNil) (ρ := [.fz (.int (m0 : Int)), .fz (.int e), .fz (Qd f' b'), .fz (Qd f2 b2), .fz (Rm (fs ++ [t3]) z), .fz (.int (k : Int))]) (rs := [(Rm (fs ++ [t3]) z, .fz)]) (cons_fz (sv_fz (var_fz rfl)) nil_ev) (rtakeM rt) rfl)) rfl
    cases v with
    | true =>
      obtain ⟨t2, p2, hp2, hl2⟩ := hd_of hd
      obtain ⟨l', r', st2, w1, w2⟩ := first_m f2 b2 t2 p2 hp2 (by omega)
      exact go (Qd l' r') ⟨_, _, rfl, len_of w1 hl2⟩ (seq_nx s1 (seq_nx s2 (if_t hv (asg_fz (ixT1 (call_fz (rs := [(Qd f2 b2, .fz)]) (cons_fz (sv_fz (var_fz rfl)) nil_ev) w2 rfl)) rfl))))
    | false =>
      obtain ⟨t2, p2, hp2, hl2⟩ := tl_of hd
      obtain ⟨l', r', st2, w1, w2⟩ := last_m f2 b2 t2 p2 hp2 (by omega)
      exact go (Qd l' r') ⟨_, _, rfl, len_of w1 hl2⟩ (seq_nx s1 (seq_nx s2 (if_f hv (asg_fz (ixT1 (call_fz (rs := [(Qd f2 b2, .fz)]) (cons_fz (sv_fz (var_fz rfl)) nil_ev) w2 rfl)) rfl))))
theorem Fm.zero {s : Nat} (h : Fm 0 s) : s = 4 := by
  have := h.pw
  have := h.low
  omega
abbrev Held : D := .list [Qd [] [], Qd [] [], Rm [] 4]
theorem emptied_is (m : Nat) (e : Int) (hm : m ≤ 100) : m_law_emptied [.int (m : Int), .int e] = some (Held, true) := by
  obtain ⟨q1, d1, r1, s1, g1, n1, f1⟩ := puts (m : Int) e m 0 0 (Qd [] []) (Qd [] []) (Rm [] 4) .no ⟨⟨_, _, rfl, rfl⟩, ⟨_, _, rfl, rfl⟩, ⟨_, _, rfl, rfl, ⟨.inl rfl, by omega, by omega⟩⟩⟩ (by omega) NIo.no
  rw [Nat.zero_add] at g1
  obtain ⟨q2, d2, r2, s2, g2, n2, f2⟩ := takes m e m 0 q1 d1 r1 s1 g1 (by omega) n1
  have er : rngD 0 (m : Int).toNat = (List.range' 0 m).map fun k : Nat => PyData.int (k : Int) := by rw [Int.toNat_natCast, rngD_map, List.range_eq_range']
  obtain ⟨⟨f, b, rfl, hq⟩, ⟨f3, b3, rfl, hd⟩, ⟨th, z, rfl, ht, fm⟩⟩ := g2
  obtain rfl : f = [] := List.eq_nil_of_length_eq_zero (by omega)
  obtain rfl : b = [] := List.eq_nil_of_length_eq_zero (by omega)
  obtain rfl : f3 = [] := List.eq_nil_of_length_eq_zero (by omega)
  obtain rfl : b3 = [] := List.eq_nil_of_length_eq_zero (by omega)
  obtain rfl : th = [] := List.eq_nil_of_length_eq_zero (by omega)
  obtain rfl := fm.zero
  refine fn_of (o := .rt (Held, .new) [.fz (.int (m : Int)), .fz (.int e), .fz (Qd [] []), .fz (Qd [] []), .fz (Rm [] 4), s2]) rfl ?_ rfl
  have nl : ∀ ρ : Rho, mLst mNil ρ = some ((.list [], .new), ρ) := fun ρ => lst_ev (rs := []) nil_ev rfl (by simp)
  refine seq_nx (ρ1 := [.fz (.int (m : Int)), .fz (.int e), .fz (Qd [] []), .no, .no, .no]) (asg_fz (tup_ev (rs := [(.list [], .fz), (.list [], .fz)]) (cons_fz (sv_new (nl _)) (cons_fz (sv_new (nl _)) nil_ev)) rfl (by simp)) rfl) ?_
  refine seq_nx (ρ1 := [.fz (.int (m : Int)), .fz (.int e), .fz (Qd [] []), .fz (Qd [] []), .no, .no]) (asg_fz (tup_ev (rs := [(.list [], .fz), (.list [], .fz)]) (cons_fz (sv_new (nl _)) (cons_fz (sv_new (nl _)) nil_ev)) rfl (by simp)) rfl) ?_
  refine seq_nx (ρ1 := [.fz (.int (m : Int)), .fz (.int e), .fz (Qd [] []), .fz (Qd [] []), .fz (Rm [] 4), .no]) (asg_fz (tup_ev (rs := [(.list [], .fz), (.int 4, .fz)]) (cons_fz (sv_new (nl _)) (cons_fz (sv_fz rfl) nil_ev)) rfl (by simp)) rfl) ?_
  refine seq_nx (for_eq (rg1_eq (j := (m : Int)) (k := .fz) (consI (ie_var rfl) nil_ev) ⟨by omega, by omega⟩) (by rw [er]; exact f1)) ?_
  refine seq_nx (for_eq (rg1_eq (j := (m : Int)) (k := .fz) (consI (ie_var rfl) nil_ev) ⟨by omega, by omega⟩) (by rw [er]; exact f2)) ?_
  exact ret_eq (lst_ev (rs := [(Qd [] [], .fz), (Qd [] [], .fz), (Rm [] 4, .fz)]) (cons_fz (sv_fz (var_fz rfl)) (cons_fz (sv_fz (var_fz rfl)) (cons_fz (sv_fz (var_fz rfl)) nil_ev))) rfl (by simp))
theorem bare_is : m_law_bare [Held] = some (.bool true, false) := by
  have nl : ∀ ρ : Rho, mLst mNil ρ = some ((.list [], .new), ρ) := fun ρ => lst_ev (rs := []) nil_ev rfl (by simp)
  have ne0 : gNe (.list []) (.list []) = some (.bool false, false) := by rfl
  have ne1 : gNe (Rm [] 4) (Rm [] 4) = some (.bool false, false) := by rfl
  have qr : m_queue_row [Qd [] []] = some (.list [], true) := qrow_is [] [] (by simp)
  have dr : m_double_row [Qd [] []] = some (.list [], true) := drow_is [] [] (by simp)
  have qc : m_queue_credit [Qd [] []] = some (.int 0, false) := qcred_is [] []
  have dc : m_double_credit [Qd [] []] = some (.int 0, false) := dcred_is [] []
  have rc : m_room_credit [Rm [] 4] = some (.int 0, false) := rcred_is [] 4
  refine fn_of (o := .rt (.bool true, .fz) [.fz Held, .fz (Qd [] []), .fz (Qd [] []), .fz (Rm [] 4)]) rfl ?_ rfl
  refine seq_nx (ρ1 := [.fz Held, .fz (Qd [] []), .fz (Qd [] []), .fz (Rm [] 4)]) rfl ?_
  have a1 : mOp gNe (mCall m_queue_row (mCons (mVar 1) mNil)) (mLst mNil) [.fz Held, .fz (Qd [] []), .fz (Qd [] []), .fz (Rm [] 4)] = some ((.bool false, .fz), [.fz Held, .fz (Qd [] []), .fz (Qd [] []), .fz (Rm [] 4)]) := op_ev (r := (.list [], .fz)) (res := (.bool false, false)) (sv_new (call_fz (rs := [(Qd [] [], .fz)]) (cons_fz (sv_fz (var_fz rfl)) nil_ev) qr rfl)) (sv_new (nl _)) ne0
  have a2 : mOp gNe (mCall m_double_row (mCons (mVar 2) mNil)) (mLst mNil) [.fz Held, .fz (Qd [] []), .fz (Qd [] []), .fz (Rm [] 4)] = some ((.bool false, .fz), [.fz Held, .fz (Qd [] []), .fz (Qd [] []), .fz (Rm [] 4)]) := op_ev (r := (.list [], .fz)) (res := (.bool false, false)) (sv_new (call_fz (rs := [(Qd [] [], .fz)]) (cons_fz (sv_fz (var_fz rfl)) nil_ev) dr rfl)) (sv_new (nl _)) ne0
  have a3 : mOp gNe (mVar 3) (mTup (mCons (mLst mNil) (mCons (mC (.int 4)) mNil))) [.fz Held, .fz (Qd [] []), .fz (Qd [] []), .fz (Rm [] 4)] = some ((.bool false, .fz), [.fz Held, .fz (Qd [] []), .fz (Qd [] []), .fz (Rm [] 4)]) := op_ev (r := (Rm [] 4, .fz)) (res := (.bool false, false)) (sv_fz (var_fz rfl)) (sv_fz (tup_ev (rs := [(.list [], .fz), (.int 4, .fz)]) (cons_fz (sv_new (nl _)) (cons_fz (sv_fz rfl) nil_ev)) rfl (by simp))) ne1
  refine seq_nx (ρ1 := [.fz Held, .fz (Qd [] []), .fz (Qd [] []), .fz (Rm [] 4)]) (if_f (or_f (test_ev (k := .fz) a1) (or_f (test_ev (k := .fz) a2) (test_ev (k := .fz) a3))) rfl) ?_
  refine ret_eq (be_and (u := true) (v := true) ?_ (fun _ => be_and (u := true) (v := true) ?_ (fun _ => ?_) (by simp)) (by simp))
  · have := be_eq (ie_call (ρ := [.fz Held, .fz (Qd [] []), .fz (Qd [] []), .fz (Rm [] 4)]) (m := mCons (mVar 1) mNil) (rs := [(Qd [] [], .fz)]) rfl qc) (ie_c (i := 0))
    rw [decide_eq_true rfl] at this; exact this
  · have := be_eq (ie_call (ρ := [.fz Held, .fz (Qd [] []), .fz (Qd [] []), .fz (Rm [] 4)]) (m := mCons (mVar 2) mNil) (rs := [(Qd [] [], .fz)]) rfl dc) (ie_c (i := 0))
    rw [decide_eq_true rfl] at this; exact this
  · have := be_eq (ie_call (ρ := [.fz Held, .fz (Qd [] []), .fz (Qd [] []), .fz (Rm [] 4)]) (m := mCons (mVar 3) mNil) (rs := [(Rm [] 4, .fz)]) rfl rc) (ie_c (i := 0))
    rw [decide_eq_true rfl] at this; exact this
theorem keep_er {b : EM} {i j : Nat} {g : Str → Option Bool} {ρ ρ0 : Rho} {c : Str} {x : Bool} (h : b ρ = some (.er c ρ0)) (hg : g c = some x) (hl : i < ρ0.length ∧ j < ρ0.length) : mKeep b i j g ρ = some (.rt (.bool x, .fz) ρ0) := by
  unfold mKeep
  rw [h]
  show (g c).bind _ = _
  rw [hg, Option.bind_some, if_pos hl]
theorem isW {ρ : Rho} {w : Int} (h : ρ[0]? = some (.fz (.int w))) (k : Int) : mTest (mOp gEq (mVar 0) (mC (.int k))) ρ = some (decide (w = k), ρ) := (be_eq (ie_var h) ie_c).t
theorem refused_of {w : Int} {h : D} (hx : x_law_take [.int w, h] = some (.inr "Empty")) : m_law_refused [.int w, h] = some (.bool true, false) :=
  fn_of (o := .rt (.bool true, .fz) [.fz (.int w), .fz h, .fz .none, .no]) rfl (seq_nx (ρ1 := [.fz (.int w), .fz h, .fz .none, .no]) (asg_fz rfl rfl) (keep_er (eX_er (callX_er (rs := [(.int w, .fz), (h, .fz)]) (cons_fz (sv_fz (var_fz rfl)) (cons_fz (sv_fz (var_fz rfl)) nil_ev)) rfl hx)) rfl ⟨Nat.lt_of_sub_ne_zero (by simp), Nat.lt_of_sub_ne_zero (by simp)⟩)) rfl
theorem hid {h : D} {w : Int} : mCons (mVar 1) mNil [.fz (.int w), .fz h] = some ([(h, .fz)], [.fz (.int w), .fz h]) := cons_fz (sv_fz (var_fz rfl)) nil_ev
theorem ref0 {w : Int} (e0 : w = 0) : m_law_refused [.int w, Qd [] []] = some (.bool true, false) := refused_of (fnX_er (ρ := [.fz (.int w), .fz (Qd [] [])]) rfl (eseq_er (eif_t ((isW (w := w) rfl 0).trans (by rw [decide_eq_true e0]; try rfl)) (eX_er (callX_er hid rfl qtake_no)))))
theorem ref1 {w : Int} (e0 : w = 1) : m_law_refused [.int w, Qd [] []] = some (.bool true, false) := refused_of (fnX_er (ρ := [.fz (.int w), .fz (Qd [] [])]) rfl (eseq_nx (eif_f ((isW (w := w) rfl 0).trans (by rw [decide_eq_false (by omega)]; try rfl)) (elift_ev rfl)) (eseq_er (eif_t ((isW (w := w) rfl 1).trans (by rw [decide_eq_true e0]; try rfl)) (eX_er (callX_er hid rfl first_no))))))
theorem ref2 {w : Int} (e0 : w = 2) : m_law_refused [.int w, Qd [] []] = some (.bool true, false) := refused_of (fnX_er (ρ := [.fz (.int w), .fz (Qd [] [])]) rfl (eseq_nx (eif_f ((isW (w := w) rfl 0).trans (by rw [decide_eq_false (by omega)]; try rfl)) (elift_ev rfl)) (eseq_nx (eif_f ((isW (w := w) rfl 1).trans (by rw [decide_eq_false (by omega)]; try rfl)) (elift_ev rfl)) (eseq_er (eif_t ((isW (w := w) rfl 2).trans (by rw [decide_eq_true e0]; try rfl)) (eX_er (callX_er hid rfl last_no)))))))
theorem ref3 {w : Int} (e0 : w = 3) : m_law_refused [.int w, Rm [] 4] = some (.bool true, false) := refused_of (fnX_er (ρ := [.fz (.int w), .fz (Rm [] 4)]) rfl (eseq_nx (eif_f ((isW (w := w) rfl 0).trans (by rw [decide_eq_false (by omega)]; try rfl)) (elift_ev rfl)) (eseq_nx (eif_f ((isW (w := w) rfl 1).trans (by rw [decide_eq_false (by omega)]; try rfl)) (elift_ev rfl)) (eseq_nx (eif_f ((isW (w := w) rfl 2).trans (by rw [decide_eq_false (by omega)]; try rfl)) (elift_ev rfl)) (eX_er (callX_er hid rfl (rtake_no 4)))))))
theorem law_true (ns : List Int) (hl : ns.length ≤ 63) (hb : ∀ k ∈ ns, Builtin.Int.intBits k ≤ 1048576) : m_law [.list (ns.map .int)] = some (.bool true, false) := by
  obtain ⟨m, hm, hm2⟩ : ∃ m : Nat, cell ns 0 % 9 = (m : Int) ∧ m ≤ 8 := ⟨(cell ns 0 % 9).toNat, by omega, by omega⟩
  have ca := cell_at ns 0
  have cb := cell_at ns 1
  have em := emptied_is m (cell ns 0 / 9 % 65536) (by omega)
  obtain ⟨t, ht, tb⟩ := thing_by (cell ns 1)
  have sm := same_thing ht 5
  generalize hS : PyData.list (ns.map .int) = X at *
  generalize hc : cell ns 0 = c at *
  generalize hc1 : cell ns 1 = c1 at *
  have hx : ∀ {ρ : Rho} (_ : ρ[2]? = some (.own Held)) (k : Int) (d : D), gIx Held (.int k) = some (d, false) → mOp gIx (mVar 2) (mC (.int k)) ρ = some ((d, .fz), ρ) := fun {ρ} h k d hk => op_at (r := (.int k, .fz)) (res := (d, false)) (sv_at (var_own h)) (sv_fz rfl) h hk
  have bare : ∀ {ρ : Rho}, ρ[2]? = some (.own Held) → mCall m_law_bare (mCons (mVar 2) mNil) ρ = some ((.bool true, .fz), ρ) := fun {ρ} h => call_pure (rs := [(Held, .at 2)]) (cons_at (sv_at (var_own h)) nil_ev h) bare_is rfl
  refine fn_of (o := .rt (.bool true, .fz) [.fz X, .fz (.int c), .own Held, .fz t, .fz (.int 3), .fz (Qd [] [t]), .fz (Rm [t] 4), .fz (.list [Qd [t] [], Qd [] [t]]), .fz (Qd [] [t])]) rfl ?_ rfl
  refine seq_nx (ρ1 := [.fz X, .fz (.int c), .no, .no, .no, .no, .no, .no, .no]) (asg_fz (call_fz (rs := [(X, .fz), (.int 0, .fz)]) (cons_fz (sv_fz (var_fz rfl)) (cons_fz (sv_fz rfl) nil_ev)) ca rfl) rfl) ?_
  refine seq_nx (ρ1 := [.fz X, .fz (.int c), .own Held, .no, .no, .no, .no, .no, .no]) (asg_new (call_fz (rs := [(.int (m : Int), .fz), (.int (c / 9 % 65536), .fz)]) (by rw [← hm]; exact consI (ie_mod (ie_var rfl) ie_c (by decide)) (consI (ie_mod (ie_div (ie_var rfl) ie_c ⟨by decide, by decide⟩) ie_c (by decide)) nil_ev)) em rfl) rfl) ?_
  refine seq_nx (ρ1 := [.fz X, .fz (.int c), .own Held, .fz t, .no, .no, .no, .no, .no]) (asg_fz (call_fz (rs := [(.int c1, .fz)]) (cons_fz (sv_fz (call_fz (rs := [(X, .fz), (.int 1, .fz)]) (cons_fz (sv_fz (var_fz rfl)) (cons_fz (sv_fz rfl) nil_ev)) cb rfl)) nil_ev) tb rfl) rfl) ?_
  have one : ∀ (w : Int) (j : Int) (h : D), gIx (.list [.int 0, .int 1, .int 1, .int 2]) (.int w) = some (.int j, false) → gIx Held (.int j) = some (h, false) → m_law_refused [.int w, h] = some (.bool true, false) → lb2_law [.fz X, .fz (.int c), .own Held, .fz t, .fz (.int w), .no, .no, .no, .no] = some (.nx [.fz X, .fz (.int c), .own Held, .fz t, .fz (.int w), .no, .no, .no, .no]) := fun w j h h1 h2 h3 => by
    have e1 : mOp gIx (mLst (mCons (mC (.int 0)) (mCons (mC (.int 1)) (mCons (mC (.int 1)) (mCons (mC (.int 2)) mNil))))) (mVar 4) [.fz X, .fz (.int c), .own Held, .fz t, .fz (.int w), .no, .no, .no, .no] = some ((.int j, .fz), [.fz X, .fz (.int c), .own Held, .fz t, .fz (.int w), .no, .no, .no, .no]) := op_ev (r := (.int w, .fz)) (res := (.int j, false)) (sv_new (lst_ev (rs := [(.int 0, .fz), (.int 1, .fz), (.int 1, .fz), (.int 2, .fz)]) rfl rfl (by simp))) (sv_fz (var_fz rfl)) h1
    have e2 : mOp gIx (mVar 2) (mOp gIx (mLst (mCons (mC (.int 0)) (mCons (mC (.int 1)) (mCons (mC (.int 1)) (mCons (mC (.int 2)) mNil))))) (mVar 4)) [.fz X, .fz (.int c), .own Held, .fz t, .fz (.int w), .no, .no, .no, .no] = some ((h, .fz), [.fz X, .fz (.int c), .own Held, .fz t, .fz (.int w), .no, .no, .no, .no]) := op_at (r := (.int j, .fz)) (res := (h, false)) (sv_at (var_own rfl)) (sv_fz e1) rfl h2
    exact if_f (or_f (not_ev (v := true) (test_ev (k := .fz) (call_fz (rs := [(.int w, .fz), (h, .fz)]) (cons_fz (sv_fz (var_fz rfl)) (cons_fz (sv_fz e2) nil_ev)) h3 rfl))) (not_ev (v := true) (test_ev (k := .fz) (bare rfl)))) rfl
  have l0 := one 0 0 _ rfl rfl (ref0 rfl)
  have l1 := one 1 1 _ rfl rfl (ref1 rfl)
  have l2 := one 2 1 _ rfl rfl (ref2 rfl)
  have l3 := one 3 2 _ rfl rfl (ref3 rfl)
  refine seq_nx (ρ1 := [.fz X, .fz (.int c), .own Held, .fz t, .fz (.int 3), .no, .no, .no, .no]) (for_eq (rg1_eq (j := 4) (k := .fz) (consI ie_c nil_ev) ⟨by decide, by decide⟩) (forL_cons (d := .int 0) rfl l0 (forL_cons (d := .int 1) rfl l1 (forL_cons (d := .int 2) rfl l2 (forL_cons (d := .int 3) rfl l3 rfl))))) ?_
  have qp : m_queue_put [Qd [] [], t] = some (.tuple [Qd [] [t], .list [.str "laid"]], false) := qput_is [] [] t (by simp)
  have pf : m_put_first [Qd [] [], t] = some (.tuple [Qd [t] [], .list [.str "laid"]], false) := pfirst_is [] [] t (by simp)
  have pl : m_put_last [Qd [] [], t] = some (.tuple [Qd [] [t], .list [.str "laid"]], false) := plast_is [] [] t (by simp)
  obtain ⟨st, _, rp⟩ := rput_is [] 4 t (by simp)
  have up0 : up ([] : List D).length 4 = 4 := by decide
  rw [up0, List.nil_append] at rp
  obtain ⟨f1, b1, st1, _, _, _, qt⟩ := qtake_is [] [t] t [] rfl (by simp)
  obtain ⟨st2, _, rt⟩ := rtake_is [] t 4 (by simp)
  rw [List.nil_append] at rt
  obtain ⟨x1, y1, z1, _, fa⟩ := first_m [t] [] t [] rfl (by simp)
  obtain ⟨x2, y2, z2, _, fb⟩ := first_m [] [t] t [] rfl (by simp)
  obtain ⟨x3, y3, z3, _, la⟩ := last_m [t] [] t [] rfl (by simp)
  obtain ⟨x4, y4, z4, _, lb⟩ := last_m [] [t] t [] rfl (by simp)
  refine seq_nx (ρ1 := [.fz X, .fz (.int c), .own Held, .fz t, .fz (.int 3), .fz (Qd [] [t]), .no, .no, .no]) (asg_fz (ixP (call_fz (rs := [(Qd [] [], .fz), (t, .fz)]) (cons_fz (sv_fz (hx rfl 0 _ rfl)) (cons_fz (sv_fz (var_fz rfl)) nil_ev)) qp rfl)) rfl) ?_
  refine seq_nx (ρ1 := [.fz X, .fz (.int c), .own Held, .fz t, .fz (.int 3), .fz (Qd [] [t]), .fz (Rm [t] 4), .no, .no]) (asg_fz (ixP (call_fz (rs := [(Rm [] 4, .fz), (t, .fz)]) (cons_fz (sv_fz (hx rfl 2 _ rfl)) (cons_fz (sv_fz (var_fz rfl)) nil_ev)) rp rfl)) rfl) ?_
  refine seq_nx (ρ1 := [.fz X, .fz (.int c), .own Held, .fz t, .fz (.int 3), .fz (Qd [] [t]), .fz (Rm [t] 4), .own (.list [Qd [t] [], Qd [] [t]]), .no]) (asg_new (lst_ev (rs := [(Qd [t] [], .fz), (Qd [] [t], .fz)]) (cons_fz (sv_fz (ixP (call_fz (rs := [(Qd [] [], .fz), (t, .fz)]) (cons_fz (sv_fz (hx rfl 1 _ rfl)) (cons_fz (sv_fz (var_fz rfl)) nil_ev)) pf rfl))) (cons_fz (sv_fz (ixP (call_fz (rs := [(Qd [] [], .fz), (t, .fz)]) (cons_fz (sv_fz (hx rfl 1 _ rfl)) (cons_fz (sv_fz (var_fz rfl)) nil_ev)) pl rfl))) nil_ev)) rfl (by simp)) rfl) ?_
  have same : ∀ {ρ : Rho} {a : PM}, a ρ = some ((t, .fz), ρ) → ρ[3]? = some (.fz t) → mNot (mTest (mCall (m_law_same 8) (mCons a (mCons (mVar 3) mNil)))) ρ = some (false, ρ) := fun {ρ a} ha h3 => not_ev (v := true) (test_ev (k := .fz) (call_pure (rs := [(t, .fz), (t, .fz)]) (cons_fz (sv_fz ha) (cons_fz (sv_fz (var_fz h3)) nil_ev)) sm rfl))
  refine seq_nx (ρ1 := [.fz X, .fz (.int c), .own Held, .fz t, .fz (.int 3), .fz (Qd [] [t]), .fz (Rm [t] 4), .own (.list [Qd [t] [], Qd [] [t]]), .no]) (if_f (or_f (same (ixT0 (call_fz (rs := [(Qd [] [t], .fz)]) (cons_fz (sv_fz (var_fz rfl)) nil_ev) (qtakeM qt) rfl)) rfl) (same (ixT0 (call_fz (rs := [(Rm [t] 4, .fz)]) (cons_fz (sv_fz (var_fz rfl)) nil_ev) (rtakeM rt) rfl)) rfl)) rfl) ?_
  have two : ∀ {d : D} {a b c1 d1 : D}, m_take_first [d] = some (.tuple [t, a, b], false) → m_take_last [d] = some (.tuple [t, c1, d1], false) → lb1_law [.fz X, .fz (.int c), .own Held, .fz t, .fz (.int 3), .fz (Qd [] [t]), .fz (Rm [t] 4), .fz (.list [Qd [t] [], Qd [] [t]]), .fz d] = some (.nx [.fz X, .fz (.int c), .own Held, .fz t, .fz (.int 3), .fz (Qd [] [t]), .fz (Rm [t] 4), .fz (.list [Qd [t] [], Qd [] [t]]), .fz d]) := fun h1 h2 =>
    if_f (or_f (same (ixT0 (call_fz (rs := [(_, .fz)]) (cons_fz (sv_fz (var_fz rfl)) nil_ev) h1 rfl)) rfl) (same (ixT0 (call_fz (rs := [(_, .fz)]) (cons_fz (sv_fz (var_fz rfl)) nil_ev) h2 rfl)) rfl)) rfl
  refine seq_nx (ρ1 := [.fz X, .fz (.int c), .own Held, .fz t, .fz (.int 3), .fz (Qd [] [t]), .fz (Rm [t] 4), .fz (.list [Qd [t] [], Qd [] [t]]), .fz (Qd [] [t])]) (for_eq (fol_own rfl) (forL_cons rfl (two fa la) (forL_cons rfl (two fb lb) rfl))) ?_
  exact ret_eq (bare rfl)
end K38
set_option maxHeartbeats 4000000
set_option Elab.async false
set_option linter.all false
set_option maxRecDepth 100000
def PySem.W.Fast.tw5684233288430925590 : Nat := 0
def PySem.W.Fast.tw7948731036807210142 : Nat := 0
def PySem.W.Fast.tw10850562075826940899 : Nat := 0
def PySem.W.Fast.tw16057825321781266589 : Nat := 0
namespace K38
open PySem L2 Mir
def top (i : Nat) : Stmt := PySem.Challenge.pw_creditworks_k38_empty_rows.main.body.getD i (.Pass ⟨0, 0, 0, 0⟩)
abbrev s_law_cell_at : Stmt := top 34
theorem sc_law_cell_at : FnScope ["_law_script", "_law_k"] ["_law_script", "_law_k"] (defScope s_law_cell_at) := ⟨rfl, rfl, rfl, by decide +kernel, rfl, by decide +kernel, by decide +kernel⟩
abbrev s_queue_put : Stmt := top 29
theorem sc_queue_put : FnScope ["queue", "thing"] ["queue", "thing"] (defScope s_queue_put) := ⟨rfl, rfl, rfl, by decide +kernel, rfl, by decide +kernel, by decide +kernel⟩
abbrev s_moves : Stmt := top 18
theorem sc_moves : FnScope ["things"] ["things"] (defScope s_moves) := ⟨rfl, rfl, rfl, by decide +kernel, rfl, by decide +kernel, by decide +kernel⟩
abbrev s_room_put : Stmt := top 16
theorem sc_room_put : FnScope ["room", "thing", "things", "size", "steps"] ["room", "thing"] (defScope s_room_put) := ⟨rfl, rfl, rfl, by decide +kernel, rfl, by decide +kernel, by decide +kernel⟩
abbrev s_queue_take : Stmt := top 30
theorem sc_queue_take : FnScope ["queue", "front", "back", "steps", "thing"] ["queue"] (defScope s_queue_take) := ⟨rfl, rfl, rfl, by decide +kernel, rfl, by decide +kernel, by decide +kernel⟩
abbrev s_room_take : Stmt := top 17
theorem sc_room_take : FnScope ["room", "left", "size", "steps"] ["room"] (defScope s_room_take) := ⟨rfl, rfl, rfl, by decide +kernel, rfl, by decide +kernel, by decide +kernel⟩
abbrev s_put_first : Stmt := top 21
theorem sc_put_first : FnScope ["double", "thing"] ["double", "thing"] (defScope s_put_first) := ⟨rfl, rfl, rfl, by decide +kernel, rfl, by decide +kernel, by decide +kernel⟩
abbrev s_put_last : Stmt := top 22
theorem sc_put_last : FnScope ["double", "thing"] ["double", "thing"] (defScope s_put_last) := ⟨rfl, rfl, rfl, by decide +kernel, rfl, by decide +kernel, by decide +kernel⟩
abbrev s_take_near : Stmt := top 25
theorem sc_take_near : FnScope ["near", "far", "half", "laid", "thing"] ["near", "far"] (defScope s_take_near) := ⟨rfl, rfl, rfl, by decide +kernel, rfl, by decide +kernel, by decide +kernel⟩
abbrev s_take_first : Stmt := top 23
theorem sc_take_first : FnScope ["double"] ["double"] (defScope s_take_first) := ⟨rfl, rfl, rfl, by decide +kernel, rfl, by decide +kernel, by decide +kernel⟩
abbrev s_take_last : Stmt := top 24
theorem sc_take_last : FnScope ["double", "taken"] ["double"] (defScope s_take_last) := ⟨rfl, rfl, rfl, by decide +kernel, rfl, by decide +kernel, by decide +kernel⟩
abbrev s_law_emptied : Stmt := top 40
theorem sc_law_emptied : FnScope ["_law_many", "_law_ends", "_law_queue", "_law_double", "_law_room", "_law_k"] ["_law_many", "_law_ends"] (defScope s_law_emptied) := ⟨rfl, rfl, rfl, by decide +kernel, rfl, by decide +kernel, by decide +kernel⟩
abbrev s_law_thing_by : Stmt := top 36
theorem sc_law_thing_by : FnScope ["_law_cell"] ["_law_cell"] (defScope s_law_thing_by) := ⟨rfl, rfl, rfl, by decide +kernel, rfl, by decide +kernel, by decide +kernel⟩
abbrev s_queue_row : Stmt := top 31
theorem sc_queue_row : FnScope ["queue"] ["queue"] (defScope s_queue_row) := ⟨rfl, rfl, rfl, by decide +kernel, rfl, by decide +kernel, by decide +kernel⟩
abbrev s_double_row : Stmt := top 26
theorem sc_double_row : FnScope ["double"] ["double"] (defScope s_double_row) := ⟨rfl, rfl, rfl, by decide +kernel, rfl, by decide +kernel, by decide +kernel⟩
abbrev s_queue_credit : Stmt := top 32
theorem sc_queue_credit : FnScope ["queue"] ["queue"] (defScope s_queue_credit) := ⟨rfl, rfl, rfl, by decide +kernel, rfl, by decide +kernel, by decide +kernel⟩
abbrev s_double_credit : Stmt := top 27
theorem sc_double_credit : FnScope ["double"] ["double"] (defScope s_double_credit) := ⟨rfl, rfl, rfl, by decide +kernel, rfl, by decide +kernel, by decide +kernel⟩
abbrev s_room_credit : Stmt := top 19
theorem sc_room_credit : FnScope ["room", "many", "size"] ["room"] (defScope s_room_credit) := ⟨rfl, rfl, rfl, by decide +kernel, rfl, by decide +kernel, by decide +kernel⟩
abbrev s_law_bare : Stmt := top 41
theorem sc_law_bare : FnScope ["_law_held", "_law_queue", "_law_double", "_law_room"] ["_law_held"] (defScope s_law_bare) := ⟨rfl, rfl, rfl, by decide +kernel, rfl, by decide +kernel, by decide +kernel⟩
abbrev s_law_same : Stmt := top 35
theorem sc_law_same : FnScope ["_law_found", "_law_due"] ["_law_found", "_law_due"] (defScope s_law_same) := ⟨rfl, rfl, rfl, by decide +kernel, rfl, by decide +kernel, by decide +kernel⟩
abbrev s_law_take : Stmt := top 37
theorem sc_law_take : FnScope ["_law_way", "_law_held"] ["_law_way", "_law_held"] (defScope s_law_take) := ⟨rfl, rfl, rfl, by decide +kernel, rfl, by decide +kernel, by decide +kernel⟩
abbrev s_law_is_empty : Stmt := top 38
theorem sc_law_is_empty : FnScope ["_law_error"] ["_law_error"] (defScope s_law_is_empty) := ⟨rfl, rfl, rfl, by decide +kernel, rfl, by decide +kernel, by decide +kernel⟩
abbrev s_law_refused : Stmt := top 39
theorem sc_law_refused : FnScope ["_law_way", "_law_held", "_law_told", "e"] ["_law_way", "_law_held"] (defScope s_law_refused) := ⟨rfl, rfl, rfl, by decide +kernel, rfl, by decide +kernel, by decide +kernel⟩
abbrev s_law : Stmt := top 42
theorem sc_law : FnScope ["_law_script", "_law_cell", "_law_held", "_law_thing", "_law_way", "_law_queue", "_law_room", "_law_doubles", "_law_double"] ["_law_script"] (defScope s_law) := ⟨rfl, rfl, rfl, by decide +kernel, rfl, by decide +kernel, by decide +kernel⟩
structure CF (K : PySem.W.Frag) (mg : Str → Option Value) (C_Empty C_NoName C_Mixed C_Lacking C_AtTop C_NoRow C_NoPlace C_NoNumber C_Overdrawn C_NotLess C_NoThing C_Twice C_CreditError : Addr) : Prop where
  x_Empty : PySem.W.excIn K C_Empty [.type "ValueError", .type "Exception", .type "BaseException", .type "object"] "ValueError.__new__" = true
  m_Empty : mg "Empty" = some (.ref C_Empty)
  k_Empty : ExcK K C_Empty
  m_NoName : mg "NoName" = some (.ref C_NoName)
  i_Empty_NoName : PySem.W.kitOne K (.ref C_Empty) (.ref C_NoName) = some false
  m_Mixed : mg "Mixed" = some (.ref C_Mixed)
  i_Empty_Mixed : PySem.W.kitOne K (.ref C_Empty) (.ref C_Mixed) = some false
  m_Lacking : mg "Lacking" = some (.ref C_Lacking)
  i_Empty_Lacking : PySem.W.kitOne K (.ref C_Empty) (.ref C_Lacking) = some false
  m_AtTop : mg "AtTop" = some (.ref C_AtTop)
  i_Empty_AtTop : PySem.W.kitOne K (.ref C_Empty) (.ref C_AtTop) = some false
  m_NoRow : mg "NoRow" = some (.ref C_NoRow)
  i_Empty_NoRow : PySem.W.kitOne K (.ref C_Empty) (.ref C_NoRow) = some false
  m_NoPlace : mg "NoPlace" = some (.ref C_NoPlace)
  i_Empty_NoPlace : PySem.W.kitOne K (.ref C_Empty) (.ref C_NoPlace) = some false
  m_NoNumber : mg "NoNumber" = some (.ref C_NoNumber)
  i_Empty_NoNumber : PySem.W.kitOne K (.ref C_Empty) (.ref C_NoNumber) = some false
  m_Overdrawn : mg "Overdrawn" = some (.ref C_Overdrawn)
  i_Empty_Overdrawn : PySem.W.kitOne K (.ref C_Empty) (.ref C_Overdrawn) = some false
  m_NotLess : mg "NotLess" = some (.ref C_NotLess)
  i_Empty_NotLess : PySem.W.kitOne K (.ref C_Empty) (.ref C_NotLess) = some false
  m_NoThing : mg "NoThing" = some (.ref C_NoThing)
  i_Empty_NoThing : PySem.W.kitOne K (.ref C_Empty) (.ref C_NoThing) = some false
  i_Empty_ValueError : PySem.W.kitOne K (.ref C_Empty) (.type "ValueError") = some true
  i_Empty_Empty : PySem.W.kitOne K (.ref C_Empty) (.ref C_Empty) = some true
  m_Twice : mg "Twice" = some (.ref C_Twice)
  i_Empty_Twice : PySem.W.kitOne K (.ref C_Empty) (.ref C_Twice) = some false
  m_CreditError : mg "CreditError" = some (.ref C_CreditError)
  h_Empty_CreditError : PySem.W.exmOne K (.ref C_Empty) (.ref C_CreditError) = some true
section
variable {P : Program} {w : World} {K : PySem.W.Frag} {mg : Str → Option Value} {base : Heap}
def NoGl (mg : Str → Option Value) : Prop := (∀ x ∈ (["ValueError", "abs", "all", "bool", "isinstance", "len", "list", "range", "reversed", "tuple", "zip"] : List Str), mg x = none) ∧ ∀ (x : Str) (i : Int), (x, i) ∈ ([("LEAST_SIZE", 4)] : List (Str × Int)) → ∃ t, mg x = some (.int i t)
variable {C_Empty C_NoName C_Mixed C_Lacking C_AtTop C_NoRow C_NoPlace C_NoNumber C_Overdrawn C_NotLess C_NoThing C_Twice C_CreditError : Addr}
theorem ok_law_cell_at (Z : NoGl mg) (T : Top K mg "_law_cell_at" s_law_cell_at)  : Def P w K mg base CX0 1 "_law_cell_at" ["_law_script", "_law_k"] (spM m_law_cell_at) := by
  have z_len : mg "len" = none := Z.1 _ (by decide +kernel)
  refine T.def sc_law_cell_at (fun vs H Q E h => spM_len h) (fun _ _ _ _ _ _ us hl => match us, hl with | [_, _], _ => rfl) fun f cdv A outer s H vs Q E hr h => ?_
  have hu := hr.units
  exact ⟨_, (pss_cons (ps_if (pt_cmpR op_lt (pv 1) (pe_callB (call_lenK (K := K) rfl) rfl z_len PySem.boot_len (pa_cons (pv 0) pa_nil)) (nomark _))
      (pss_one (ps_ret (pe_ix (ix_seqK (K := K) rfl) (pv 0) (pv 1) (fun _ _ => rfl))))
      pss_nil)
      (pss_one (ps_ret pe_int))),
      fn_run (n := 2) (k := 0) (ms_seq (ms_if (mt_test (me_op J_B0 me_var (me_cb J_len (ma_cons me_var ma_nil))))
      (ms_ret (me_op J_ix me_var me_var))
      ms_next)
      (ms_ret me_int)) rfl h⟩
theorem ok_queue_put (Z : NoGl mg) (T : Top K mg "queue_put" s_queue_put)  : Def P w K mg base CX0 1 "queue_put" ["queue", "thing"] (spM m_queue_put) := by
  have z_list : mg "list" = none := Z.1 _ (by decide +kernel)
  refine T.def sc_queue_put (fun vs H Q E h => spM_len h) (fun _ _ _ _ _ _ us hl => match us, hl with | [_, _], _ => rfl) fun f cdv A outer s H vs Q E hr h => ?_
  have hu := hr.units
  exact ⟨_, (pss_one (ps_ret (pe_tup (pa_cons (pe_tup (pa_cons (pe_callTy (call_listK (K := K) rfl) rfl z_list PyProof.Rows.boot_list (pa_cons (pe_ix (ix_seqK (K := K) rfl) (pv 0) pe_int (fun _ _ => rfl)) pa_nil)) (pa_cons (pe_op (op_addK (K := K) rfl) (pe_ix (ix_seqK (K := K) rfl) (pv 0) pe_int (fun _ _ => rfl)) (pe_lst (pa_cons (pv 1) pa_nil))) pa_nil))) (pa_cons (pe_lst (pa_cons pe_str pa_nil)) pa_nil))))),
      fn_run (n := 2) (k := 0) (ms_ret (me_tup (ma_cons (me_tup (ma_cons (me_cb J_list (ma_cons (me_op J_ix me_var me_int) ma_nil)) (ma_cons (me_op J_add (me_op J_ix me_var me_int) (me_lst (ma_cons me_var ma_nil))) ma_nil))) (ma_cons (me_lst (ma_cons me_str ma_nil)) ma_nil)))) rfl h⟩
theorem ok_moves (Z : NoGl mg) (T : Top K mg "moves" s_moves)  : Def P w K mg base CX0 1 "moves" ["things"] (spM m_moves) := by
  have z_len : mg "len" = none := Z.1 _ (by decide +kernel)
  refine T.def sc_moves (fun vs H Q E h => spM_len h) (fun _ _ _ _ _ _ us hl => match us, hl with | [_], _ => rfl) fun f cdv A outer s H vs Q E hr h => ?_
  have hu := hr.units
  exact ⟨_, (pss_one (ps_ret (pe_op op_mulM (pe_lst (pa_cons pe_str pa_nil)) (pe_callB (call_lenK (K := K) rfl) rfl z_len PySem.boot_len (pa_cons (pv 0) pa_nil))))),
      fn_run (n := 1) (k := 0) (ms_ret (me_rep (ma_cons me_str ma_nil) (me_cb J_len (ma_cons me_var ma_nil)))) rfl h⟩
theorem ok_room_put (Z : NoGl mg) (T : Top K mg "room_put" s_room_put) (D_moves : Def P w K mg base CX0 1 "moves" ["things"] (spM m_moves)) : Def P w K mg base CX0 2 "room_put" ["room", "thing"] (spM m_room_put) := by
  have z_len : mg "len" = none := Z.1 _ (by decide +kernel)
  refine T.def sc_room_put (fun vs H Q E h => spM_len h) (fun _ _ _ _ _ _ us hl => match us, hl with | [_, _], _ => rfl) fun f cdv A outer s H vs Q E hr h => ?_
  have hu := hr.units
  exact ⟨_, (pss_cons (ps_set (i := 2) sc_room_put.nd rfl (by first | exact Or.inl rfl | exact Or.inr rfl) (pe_ix (ix_seqK (K := K) rfl) (pv 0) pe_int (fun _ _ => rfl)))
      (pss_cons (ps_set (i := 3) sc_room_put.nd rfl (by first | exact Or.inl rfl | exact Or.inr rfl) (pe_ix (ix_seqK (K := K) rfl) (pv 0) pe_int (fun _ _ => rfl)))
      (pss_cons (ps_set (i := 4) sc_room_put.nd rfl (by first | exact Or.inl rfl | exact Or.inr rfl) (pe_lst pa_nil))
      (pss_cons (ps_if (pt_cmpR (op_eqK (K := K) rfl hu) (pe_callB (call_lenK (K := K) rfl) rfl z_len PySem.boot_len (pa_cons (pv 2) pa_nil)) (pv 3) (nomark _))
      (pss_cons (ps_set (i := 3) sc_room_put.nd rfl (by first | exact Or.inl rfl | exact Or.inr rfl) (pe_op op_mulM pe_int (pv 3)))
      (pss_one (ps_set (i := 4) sc_room_put.nd rfl (by first | exact Or.inl rfl | exact Or.inr rfl) (pe_def D_moves (hr.mono (by omega)) (pa_cons (pv 2) pa_nil)))))
      pss_nil)
      (pss_one (ps_ret (pe_tup (pa_cons (pe_tup (pa_cons (pe_op (op_addK (K := K) rfl) (pv 2) (pe_lst (pa_cons (pv 1) pa_nil))) (pa_cons (pv 3) pa_nil))) (pa_cons (pe_op (op_addK (K := K) rfl) (pv 4) (pe_lst (pa_cons pe_str pa_nil))) pa_nil))))))))),
      fn_run (n := 2) (k := 3) (ms_seq (ms_asg (me_op J_ix me_var me_int))
      (ms_seq (ms_asg (me_op J_ix me_var me_int))
      (ms_seq (ms_asg (me_lst ma_nil))
      (ms_seq (ms_if (mt_test (me_op J_eq (me_cb J_len (ma_cons me_var ma_nil)) me_var))
      (ms_seq (ms_asg (me_op J_mul me_int me_var))
      (ms_asg (me_call (ma_cons me_var ma_nil))))
      ms_next)
      (ms_ret (me_tup (ma_cons (me_tup (ma_cons (me_op J_add me_var (me_lst (ma_cons me_var ma_nil))) (ma_cons me_var ma_nil))) (ma_cons (me_op J_add me_var (me_lst (ma_cons me_str ma_nil))) ma_nil)))))))) rfl h⟩
theorem okx_queue_take (Z : NoGl mg) (T : Top K mg "queue_take" s_queue_take) (cf : CF K mg C_Empty C_NoName C_Mixed C_Lacking C_AtTop C_NoRow C_NoPlace C_NoNumber C_Overdrawn C_NotLess C_NoThing C_Twice C_CreditError)  : Def P w K mg base (CXW P w) 1 "queue_take" ["queue"] (spX (clM mg) x_queue_take) := by
  have z_len : mg "len" = none := Z.1 _ (by decide +kernel)
  have z_list : mg "list" = none := Z.1 _ (by decide +kernel)
  refine T.defX sc_queue_take (fun vs H Q E h => spX_len h) (fun _ _ _ _ _ _ us hl => match us, hl with | [_], _ => rfl) fun f cdv A outer s H vs Q E hr h => ?_
  have hu := hr.units
  exact ⟨_, (pss_cons (id (ps_set (i := 1) sc_queue_take.nd rfl (by first | exact Or.inl rfl | exact Or.inr rfl) (pe_callTy (call_listK (K := K) rfl) rfl z_list PyProof.Rows.boot_list (pa_cons (pe_ix (ix_seqK (K := K) rfl) (pv 0) pe_int (fun _ _ => rfl)) pa_nil))))
      (pss_cons (id (ps_set (i := 2) sc_queue_take.nd rfl (by first | exact Or.inl rfl | exact Or.inr rfl) (pe_callTy (call_listK (K := K) rfl) rfl z_list PyProof.Rows.boot_list (pa_cons (pe_ix (ix_seqK (K := K) rfl) (pv 0) pe_int (fun _ _ => rfl)) pa_nil))))
      (pss_cons (id (ps_set (i := 3) sc_queue_take.nd rfl (by first | exact Or.inl rfl | exact Or.inr rfl) (pe_lst pa_nil)))
      (pss_cons (id (ps_if (pt_cmpR (op_eqK (K := K) rfl hu) (pe_callB (call_lenK (K := K) rfl) rfl z_len PySem.boot_len (pa_cons (pv 1) pa_nil)) pe_int (nomark _))
      (pss_one (ps_while PassesOwn.leaving (pt_cmpR op_gt (pe_callB (call_lenK (K := K) rfl) rfl z_len PySem.boot_len (pa_cons (pv 2) pa_nil)) pe_int (nomark _))
      (pss_cons (ps_expr (pe_bmK (K := K) rfl PySem.F.plainAttrs_list PySem.F.slot_list_append PySem.F.type_list_append mt_append (pv 1) (pa_cons (pe_bm0K (K := K) rfl PySem.F.plainAttrs_list PySem.F.slot_list_pop PySem.F.type_list_pop mt_pop (pv 2)) pa_nil)))
      (pss_one (ps_expr (pe_bmK (K := K) rfl PySem.F.plainAttrs_list PySem.F.slot_list_append PySem.F.type_list_append mt_append (pv 3) (pa_cons pe_str pa_nil)))))))
      pss_nil))
      (pss_cons (ps_if (pt_cmpR (op_eqK (K := K) rfl hu) (pe_callB (call_lenK (K := K) rfl) rfl z_len PySem.boot_len (pa_cons (pv 1) pa_nil)) pe_int (nomark _))
      (pss_one (ps_raise rfl rfl cf.m_Empty cf.x_Empty PySem.F.excBase_ValueError (raiseOk_leave sc_queue_take.kind rfl) (pa_cons pe_str pa_nil)))
      pss_nil)
      (pss_cons (id (ps_set (i := 4) sc_queue_take.nd rfl (by first | exact Or.inl rfl | exact Or.inr rfl) (pe_bm0K (K := K) rfl PySem.F.plainAttrs_list PySem.F.slot_list_pop PySem.F.type_list_pop mt_pop (pv 1))))
      (pss_cons (id (ps_expr (pe_bmK (K := K) rfl PySem.F.plainAttrs_list PySem.F.slot_list_append PySem.F.type_list_append mt_append (pv 3) (pa_cons pe_str pa_nil))))
      (pss_one (id (ps_ret (pe_tup (pa_cons (pv 4) (pa_cons (pe_tup (pa_cons (pv 1) (pa_cons (pv 2) pa_nil))) (pa_cons (pv 3) pa_nil)))))))))))))),
      fn_runX (n := 1) (k := 4) (mse_seq (mse_lift (ms_asg (me_cb J_list (ma_cons (me_op J_ix me_var me_int) ma_nil))))
      (mse_seq (mse_lift (ms_asg (me_cb J_list (ma_cons (me_op J_ix me_var me_int) ma_nil))))
      (mse_seq (mse_lift (ms_asg (me_lst ma_nil)))
      (mse_seq (mse_lift (ms_if (mt_test (me_op J_eq (me_cb J_len (ma_cons me_var ma_nil)) me_int))
      (ms_while (mt_test (me_op J_B0 (me_cb J_len (ma_cons me_var ma_nil)) me_int))
      (ms_seq (ms_drop (me_mut J_append (ma_cons (me_mut0 J_pop) ma_nil)))
      (ms_drop (me_mut J_append (ma_cons me_str ma_nil)))))
      ms_next))
      (mse_seq (mse_if (mt_test (me_op J_eq (me_cb J_len (ma_cons me_var ma_nil)) me_int))
      (mse_raise (c := "Empty") (ma_cons me_str ma_nil) (fun H h => clM_eq cf.m_Empty ▸ h))
      (mse_lift ms_next))
      (mse_seq (mse_lift (ms_asg (me_mut0 J_pop)))
      (mse_seq (mse_lift (ms_drop (me_mut J_append (ma_cons me_str ma_nil))))
      (mse_lift (ms_ret (me_tup (ma_cons me_var (ma_cons (me_tup (ma_cons me_var (ma_cons me_var ma_nil))) (ma_cons me_var ma_nil))))))))))))) rfl h⟩
theorem ok_queue_take (Z : NoGl mg) (T : Top K mg "queue_take" s_queue_take)  : Def P w K mg base CX0 1 "queue_take" ["queue"] (spM m_queue_take) := by
  have z_len : mg "len" = none := Z.1 _ (by decide +kernel)
  have z_list : mg "list" = none := Z.1 _ (by decide +kernel)
  refine T.def sc_queue_take (fun vs H Q E h => spM_len h) (fun _ _ _ _ _ _ us hl => match us, hl with | [_], _ => rfl) fun f cdv A outer s H vs Q E hr h => ?_
  have hu := hr.units
  exact ⟨_, (pss_cons (ps_set (i := 1) sc_queue_take.nd rfl (by first | exact Or.inl rfl | exact Or.inr rfl) (pe_callTy (call_listK (K := K) rfl) rfl z_list PyProof.Rows.boot_list (pa_cons (pe_ix (ix_seqK (K := K) rfl) (pv 0) pe_int (fun _ _ => rfl)) pa_nil)))
      (pss_cons (ps_set (i := 2) sc_queue_take.nd rfl (by first | exact Or.inl rfl | exact Or.inr rfl) (pe_callTy (call_listK (K := K) rfl) rfl z_list PyProof.Rows.boot_list (pa_cons (pe_ix (ix_seqK (K := K) rfl) (pv 0) pe_int (fun _ _ => rfl)) pa_nil)))
      (pss_cons (ps_set (i := 3) sc_queue_take.nd rfl (by first | exact Or.inl rfl | exact Or.inr rfl) (pe_lst pa_nil))
      (pss_cons (ps_if (pt_cmpR (op_eqK (K := K) rfl hu) (pe_callB (call_lenK (K := K) rfl) rfl z_len PySem.boot_len (pa_cons (pv 1) pa_nil)) pe_int (nomark _))
      (pss_one (ps_while PassesOwn.never (pt_cmpR op_gt (pe_callB (call_lenK (K := K) rfl) rfl z_len PySem.boot_len (pa_cons (pv 2) pa_nil)) pe_int (nomark _))
      (pss_cons (ps_expr (pe_bmK (K := K) rfl PySem.F.plainAttrs_list PySem.F.slot_list_append PySem.F.type_list_append mt_append (pv 1) (pa_cons (pe_bm0K (K := K) rfl PySem.F.plainAttrs_list PySem.F.slot_list_pop PySem.F.type_list_pop mt_pop (pv 2)) pa_nil)))
      (pss_one (ps_expr (pe_bmK (K := K) rfl PySem.F.plainAttrs_list PySem.F.slot_list_append PySem.F.type_list_append mt_append (pv 3) (pa_cons pe_str pa_nil)))))))
      pss_nil)
      (pss_cons (ps_if (pt_cmpR (op_eqK (K := K) rfl hu) (pe_callB (call_lenK (K := K) rfl) rfl z_len PySem.boot_len (pa_cons (pv 1) pa_nil)) pe_int (nomark _))
      (pss_one ps_never)
      pss_nil)
      (pss_cons (ps_set (i := 4) sc_queue_take.nd rfl (by first | exact Or.inl rfl | exact Or.inr rfl) (pe_bm0K (K := K) rfl PySem.F.plainAttrs_list PySem.F.slot_list_pop PySem.F.type_list_pop mt_pop (pv 1)))
      (pss_cons (ps_expr (pe_bmK (K := K) rfl PySem.F.plainAttrs_list PySem.F.slot_list_append PySem.F.type_list_append mt_append (pv 3) (pa_cons pe_str pa_nil)))
      (pss_one (ps_ret (pe_tup (pa_cons (pv 4) (pa_cons (pe_tup (pa_cons (pv 1) (pa_cons (pv 2) pa_nil))) (pa_cons (pv 3) pa_nil))))))))))))),
      fn_run (n := 1) (k := 4) (ms_seq (ms_asg (me_cb J_list (ma_cons (me_op J_ix me_var me_int) ma_nil)))
      (ms_seq (ms_asg (me_cb J_list (ma_cons (me_op J_ix me_var me_int) ma_nil)))
      (ms_seq (ms_asg (me_lst ma_nil))
      (ms_seq (ms_if (mt_test (me_op J_eq (me_cb J_len (ma_cons me_var ma_nil)) me_int))
      (ms_while (mt_test (me_op J_B0 (me_cb J_len (ma_cons me_var ma_nil)) me_int))
      (ms_seq (ms_drop (me_mut J_append (ma_cons (me_mut0 J_pop) ma_nil)))
      (ms_drop (me_mut J_append (ma_cons me_str ma_nil)))))
      ms_next)
      (ms_seq (ms_if (mt_test (me_op J_eq (me_cb J_len (ma_cons me_var ma_nil)) me_int))
      ms_never
      ms_next)
      (ms_seq (ms_asg (me_mut0 J_pop))
      (ms_seq (ms_drop (me_mut J_append (ma_cons me_str ma_nil)))
      (ms_ret (me_tup (ma_cons me_var (ma_cons (me_tup (ma_cons me_var (ma_cons me_var ma_nil))) (ma_cons me_var ma_nil)))))))))))) rfl h⟩
theorem okx_room_take (Z : NoGl mg) (T : Top K mg "room_take" s_room_take) (cf : CF K mg C_Empty C_NoName C_Mixed C_Lacking C_AtTop C_NoRow C_NoPlace C_NoNumber C_Overdrawn C_NotLess C_NoThing C_Twice C_CreditError) (D_moves : Def P w K mg base CX0 1 "moves" ["things"] (spM m_moves)) : Def P w K mg base (CXW P w) 2 "room_take" ["room"] (spX (clM mg) x_room_take) := by
  have z_len : mg "len" = none := Z.1 _ (by decide +kernel)
  obtain ⟨_, g_LEAST_SIZE⟩ := Z.2 "LEAST_SIZE" 4 (by decide +kernel)
  refine T.defX sc_room_take (fun vs H Q E h => spX_len h) (fun _ _ _ _ _ _ us hl => match us, hl with | [_], _ => rfl) fun f cdv A outer s H vs Q E hr h => ?_
  have hu := hr.units
  exact ⟨_, (pss_cons (ps_if (pt_cmpR (op_eqK (K := K) rfl hu) (pe_callB (call_lenK (K := K) rfl) rfl z_len PySem.boot_len (pa_cons (pe_ix (ix_seqK (K := K) rfl) (pv 0) pe_int (fun _ _ => rfl)) pa_nil)) pe_int (nomark _))
      (pss_one (ps_raise rfl rfl cf.m_Empty cf.x_Empty PySem.F.excBase_ValueError (raiseOk_leave sc_room_take.kind rfl) (pa_cons pe_str pa_nil)))
      pss_nil)
      (pss_cons (id (ps_set (i := 1) sc_room_take.nd rfl (by first | exact Or.inl rfl | exact Or.inr rfl) (pe_slice (sl_listK (K := K) rfl) (pe_ix (ix_seqK (K := K) rfl) (pv 0) pe_int (fun _ _ => rfl)) po_none (po_some (pe_un un_neg pe_int)))))
      (pss_cons (id (ps_set (i := 2) sc_room_take.nd rfl (by first | exact Or.inl rfl | exact Or.inr rfl) (pe_ix (ix_seqK (K := K) rfl) (pv 0) pe_int (fun _ _ => rfl))))
      (pss_cons (id (ps_set (i := 3) sc_room_take.nd rfl (by first | exact Or.inl rfl | exact Or.inr rfl) (pe_lst (pa_cons pe_str pa_nil))))
      (pss_cons (id (ps_if (PW.pt (pw_and (pt_cmpR op_gt (pv 2) (pe_glob (v := .int 4) rfl g_LEAST_SIZE ⟨_, rfl⟩) (nomark _)) (pw_and1 (pt_cmpR op_le (pe_op op_mulM pe_int (pe_callB (call_lenK (K := K) rfl) rfl z_len PySem.boot_len (pa_cons (pv 1) pa_nil))) (pv 2) (nomark _)))))
      (pss_cons (ps_set (i := 2) sc_room_take.nd rfl (by first | exact Or.inl rfl | exact Or.inr rfl) (pe_op op_fdiv (pv 2) pe_int))
      (pss_one (ps_set (i := 3) sc_room_take.nd rfl (by first | exact Or.inl rfl | exact Or.inr rfl) (pe_op (op_addK (K := K) rfl) (pv 3) (pe_def D_moves (hr.mono (by omega)) (pa_cons (pv 1) pa_nil))))))
      pss_nil))
      (pss_one (id (ps_ret (pe_tup (pa_cons (pe_ix (ix_seqK (K := K) rfl) (pe_ix (ix_seqK (K := K) rfl) (pv 0) pe_int (fun _ _ => rfl)) (pe_un un_neg pe_int) (fun _ _ => rfl)) (pa_cons (pe_tup (pa_cons (pv 1) (pa_cons (pv 2) pa_nil))) (pa_cons (pv 3) pa_nil)))))))))))),
      fn_runX (n := 1) (k := 3) (mse_seq (mse_if (mt_test (me_op J_eq (me_cb J_len (ma_cons (me_op J_ix me_var me_int) ma_nil)) me_int))
      (mse_raise (c := "Empty") (ma_cons me_str ma_nil) (fun H h => clM_eq cf.m_Empty ▸ h))
      (mse_lift ms_next))
      (mse_seq (mse_lift (ms_asg (me_sl J_sl (me_op J_ix me_var me_int) mo_none (mo_some (me_un J_neg me_int)))))
      (mse_seq (mse_lift (ms_asg (me_op J_ix me_var me_int)))
      (mse_seq (mse_lift (ms_asg (me_lst (ma_cons me_str ma_nil))))
      (mse_seq (mse_lift (ms_if (mt_and (mt_test (me_op J_B0 me_var me_int)) (mt_test (me_op J_B0 (me_op J_mul me_int (me_cb J_len (ma_cons me_var ma_nil))) me_var)))
      (ms_seq (ms_asg (me_op J_I me_var me_int))
      (ms_asg (me_op J_add me_var (me_call (ma_cons me_var ma_nil)))))
      ms_next))
      (mse_lift (ms_ret (me_tup (ma_cons (me_op J_ix (me_op J_ix me_var me_int) (me_un J_neg me_int)) (ma_cons (me_tup (ma_cons me_var (ma_cons me_var ma_nil))) (ma_cons me_var ma_nil))))))))))) rfl h⟩
theorem ok_room_take (Z : NoGl mg) (T : Top K mg "room_take" s_room_take) (D_moves : Def P w K mg base CX0 1 "moves" ["things"] (spM m_moves)) : Def P w K mg base CX0 2 "room_take" ["room"] (spM m_room_take) := by
  have z_len : mg "len" = none := Z.1 _ (by decide +kernel)
  obtain ⟨_, g_LEAST_SIZE⟩ := Z.2 "LEAST_SIZE" 4 (by decide +kernel)
  refine T.def sc_room_take (fun vs H Q E h => spM_len h) (fun _ _ _ _ _ _ us hl => match us, hl with | [_], _ => rfl) fun f cdv A outer s H vs Q E hr h => ?_
  have hu := hr.units
  exact ⟨_, (pss_cons (ps_if (pt_cmpR (op_eqK (K := K) rfl hu) (pe_callB (call_lenK (K := K) rfl) rfl z_len PySem.boot_len (pa_cons (pe_ix (ix_seqK (K := K) rfl) (pv 0) pe_int (fun _ _ => rfl)) pa_nil)) pe_int (nomark _))
      (pss_one ps_never)
      pss_nil)
      (pss_cons (ps_set (i := 1) sc_room_take.nd rfl (by first | exact Or.inl rfl | exact Or.inr rfl) (pe_slice (sl_listK (K := K) rfl) (pe_ix (ix_seqK (K := K) rfl) (pv 0) pe_int (fun _ _ => rfl)) po_none (po_some (pe_un un_neg pe_int))))
      (pss_cons (ps_set (i := 2) sc_room_take.nd rfl (by first | exact Or.inl rfl | exact Or.inr rfl) (pe_ix (ix_seqK (K := K) rfl) (pv 0) pe_int (fun _ _ => rfl)))
      (pss_cons (ps_set (i := 3) sc_room_take.nd rfl (by first | exact Or.inl rfl | exact Or.inr rfl) (pe_lst (pa_cons pe_str pa_nil)))
      (pss_cons (ps_if (PW.pt (pw_and (pt_cmpR op_gt (pv 2) (pe_glob (v := .int 4) rfl g_LEAST_SIZE ⟨_, rfl⟩) (nomark _)) (pw_and1 (pt_cmpR op_le (pe_op op_mulM pe_int (pe_callB (call_lenK (K := K) rfl) rfl z_len PySem.boot_len (pa_cons (pv 1) pa_nil))) (pv 2) (nomark _)))))
      (pss_cons (ps_set (i := 2) sc_room_take.nd rfl (by first | exact Or.inl rfl | exact Or.inr rfl) (pe_op op_fdiv (pv 2) pe_int))
      (pss_one (ps_set (i := 3) sc_room_take.nd rfl (by first | exact Or.inl rfl | exact Or.inr rfl) (pe_op (op_addK (K := K) rfl) (pv 3) (pe_def D_moves (hr.mono (by omega)) (pa_cons (pv 1) pa_nil))))))
      pss_nil)
      (pss_one (ps_ret (pe_tup (pa_cons (pe_ix (ix_seqK (K := K) rfl) (pe_ix (ix_seqK (K := K) rfl) (pv 0) pe_int (fun _ _ => rfl)) (pe_un un_neg pe_int) (fun _ _ => rfl)) (pa_cons (pe_tup (pa_cons (pv 1) (pa_cons (pv 2) pa_nil))) (pa_cons (pv 3) pa_nil))))))))))),
      fn_run (n := 1) (k := 3) (ms_seq (ms_if (mt_test (me_op J_eq (me_cb J_len (ma_cons (me_op J_ix me_var me_int) ma_nil)) me_int))
      ms_never
      ms_next)
      (ms_seq (ms_asg (me_sl J_sl (me_op J_ix me_var me_int) mo_none (mo_some (me_un J_neg me_int))))
      (ms_seq (ms_asg (me_op J_ix me_var me_int))
      (ms_seq (ms_asg (me_lst (ma_cons me_str ma_nil)))
      (ms_seq (ms_if (mt_and (mt_test (me_op J_B0 me_var me_int)) (mt_test (me_op J_B0 (me_op J_mul me_int (me_cb J_len (ma_cons me_var ma_nil))) me_var)))
      (ms_seq (ms_asg (me_op J_I me_var me_int))
      (ms_asg (me_op J_add me_var (me_call (ma_cons me_var ma_nil)))))
      ms_next)
      (ms_ret (me_tup (ma_cons (me_op J_ix (me_op J_ix me_var me_int) (me_un J_neg me_int)) (ma_cons (me_tup (ma_cons me_var (ma_cons me_var ma_nil))) (ma_cons me_var ma_nil)))))))))) rfl h⟩
theorem ok_put_first (Z : NoGl mg) (T : Top K mg "put_first" s_put_first)  : Def P w K mg base CX0 1 "put_first" ["double", "thing"] (spM m_put_first) := by
  have z_list : mg "list" = none := Z.1 _ (by decide +kernel)
  refine T.def sc_put_first (fun vs H Q E h => spM_len h) (fun _ _ _ _ _ _ us hl => match us, hl with | [_, _], _ => rfl) fun f cdv A outer s H vs Q E hr h => ?_
  have hu := hr.units
  exact ⟨_, (pss_one (ps_ret (pe_tup (pa_cons (pe_tup (pa_cons (pe_op (op_addK (K := K) rfl) (pe_ix (ix_seqK (K := K) rfl) (pv 0) pe_int (fun _ _ => rfl)) (pe_lst (pa_cons (pv 1) pa_nil))) (pa_cons (pe_callTy (call_listK (K := K) rfl) rfl z_list PyProof.Rows.boot_list (pa_cons (pe_ix (ix_seqK (K := K) rfl) (pv 0) pe_int (fun _ _ => rfl)) pa_nil)) pa_nil))) (pa_cons (pe_lst (pa_cons pe_str pa_nil)) pa_nil))))),
      fn_run (n := 2) (k := 0) (ms_ret (me_tup (ma_cons (me_tup (ma_cons (me_op J_add (me_op J_ix me_var me_int) (me_lst (ma_cons me_var ma_nil))) (ma_cons (me_cb J_list (ma_cons (me_op J_ix me_var me_int) ma_nil)) ma_nil))) (ma_cons (me_lst (ma_cons me_str ma_nil)) ma_nil)))) rfl h⟩
theorem ok_put_last (Z : NoGl mg) (T : Top K mg "put_last" s_put_last)  : Def P w K mg base CX0 1 "put_last" ["double", "thing"] (spM m_put_last) := by
  have z_list : mg "list" = none := Z.1 _ (by decide +kernel)
  refine T.def sc_put_last (fun vs H Q E h => spM_len h) (fun _ _ _ _ _ _ us hl => match us, hl with | [_, _], _ => rfl) fun f cdv A outer s H vs Q E hr h => ?_
  have hu := hr.units
  exact ⟨_, (pss_one (ps_ret (pe_tup (pa_cons (pe_tup (pa_cons (pe_callTy (call_listK (K := K) rfl) rfl z_list PyProof.Rows.boot_list (pa_cons (pe_ix (ix_seqK (K := K) rfl) (pv 0) pe_int (fun _ _ => rfl)) pa_nil)) (pa_cons (pe_op (op_addK (K := K) rfl) (pe_ix (ix_seqK (K := K) rfl) (pv 0) pe_int (fun _ _ => rfl)) (pe_lst (pa_cons (pv 1) pa_nil))) pa_nil))) (pa_cons (pe_lst (pa_cons pe_str pa_nil)) pa_nil))))),
      fn_run (n := 2) (k := 0) (ms_ret (me_tup (ma_cons (me_tup (ma_cons (me_cb J_list (ma_cons (me_op J_ix me_var me_int) ma_nil)) (ma_cons (me_op J_add (me_op J_ix me_var me_int) (me_lst (ma_cons me_var ma_nil))) ma_nil))) (ma_cons (me_lst (ma_cons me_str ma_nil)) ma_nil)))) rfl h⟩
theorem okx_take_near (Z : NoGl mg) (T : Top K mg "take_near" s_take_near) (cf : CF K mg C_Empty C_NoName C_Mixed C_Lacking C_AtTop C_NoRow C_NoPlace C_NoNumber C_Overdrawn C_NotLess C_NoThing C_Twice C_CreditError)  : Def P w K mg base (CXW P w) 1 "take_near" ["near", "far"] (spX (clM mg) x_take_near) := by
  have z_len : mg "len" = none := Z.1 _ (by decide +kernel)
  have z_list : mg "list" = none := Z.1 _ (by decide +kernel)
  have z_reversed : mg "reversed" = none := Z.1 _ (by decide +kernel)
  refine T.defX sc_take_near (fun vs H Q E h => spX_len h) (fun _ _ _ _ _ _ us hl => match us, hl with | [_, _], _ => rfl) fun f cdv A outer s H vs Q E hr h => ?_
  have hu := hr.units
  exact ⟨_, (pss_cons (id (ps_if (pt_cmpR op_gt (pe_callB (call_lenK (K := K) rfl) rfl z_len PySem.boot_len (pa_cons (pv 0) pa_nil)) pe_int (nomark _))
      (pss_one (ps_ret (pe_tup (pa_cons (pe_ix (ix_seqK (K := K) rfl) (pv 0) (pe_un un_neg pe_int) (fun _ _ => rfl)) (pa_cons (pe_tup (pa_cons (pe_slice (sl_listK (K := K) rfl) (pv 0) po_none (po_some (pe_un un_neg pe_int))) (pa_cons (pe_callTy (call_listK (K := K) rfl) rfl z_list PyProof.Rows.boot_list (pa_cons (pv 1) pa_nil)) pa_nil))) (pa_cons (pe_lst (pa_cons pe_str pa_nil)) pa_nil))))))
      pss_nil))
      (pss_cons (ps_if (pt_cmpR (op_eqK (K := K) rfl hu) (pe_callB (call_lenK (K := K) rfl) rfl z_len PySem.boot_len (pa_cons (pv 1) pa_nil)) pe_int (nomark _))
      (pss_one (ps_raise rfl rfl cf.m_Empty cf.x_Empty PySem.F.excBase_ValueError (raiseOk_leave sc_take_near.kind rfl) (pa_cons pe_str pa_nil)))
      pss_nil)
      (pss_cons (id (ps_set (i := 2) sc_take_near.nd rfl (by first | exact Or.inl rfl | exact Or.inr rfl) (pe_op op_fdiv (pe_op (op_addK (K := K) rfl) (pe_callB (call_lenK (K := K) rfl) rfl z_len PySem.boot_len (pa_cons (pv 1) pa_nil)) pe_int) pe_int)))
      (pss_cons (id (ps_set (i := 3) sc_take_near.nd rfl (by first | exact Or.inl rfl | exact Or.inr rfl) (pe_listRevK (K := K) rfl rfl rfl z_list rfl z_reversed (pa_cons (pe_slice (sl_listK (K := K) rfl) (pv 1) po_none (po_some (pv 2))) pa_nil))))
      (pss_cons (id (ps_set (i := 4) sc_take_near.nd rfl (by first | exact Or.inl rfl | exact Or.inr rfl) (pe_bm0K (K := K) rfl PySem.F.plainAttrs_list PySem.F.slot_list_pop PySem.F.type_list_pop mt_pop (pv 3))))
      (pss_one (id (ps_ret (pe_tup (pa_cons (pv 4) (pa_cons (pe_tup (pa_cons (pv 3) (pa_cons (pe_slice (sl_listK (K := K) rfl) (pv 1) (po_some (pv 2)) po_none) pa_nil))) (pa_cons (pe_op (op_addK (K := K) rfl) (pe_op op_mulM (pe_lst (pa_cons pe_str pa_nil)) (pe_callB (call_lenK (K := K) rfl) rfl z_len PySem.boot_len (pa_cons (pv 1) pa_nil))) (pe_lst (pa_cons pe_str pa_nil))) pa_nil)))))))))))),
      fn_runX (n := 2) (k := 3) (mse_seq (mse_lift (ms_if (mt_test (me_op J_B0 (me_cb J_len (ma_cons me_var ma_nil)) me_int))
      (ms_ret (me_tup (ma_cons (me_op J_ix me_var (me_un J_neg me_int)) (ma_cons (me_tup (ma_cons (me_sl J_sl me_var mo_none (mo_some (me_un J_neg me_int))) (ma_cons (me_cb J_list (ma_cons me_var ma_nil)) ma_nil))) (ma_cons (me_lst (ma_cons me_str ma_nil)) ma_nil)))))
      ms_next))
      (mse_seq (mse_if (mt_test (me_op J_eq (me_cb J_len (ma_cons me_var ma_nil)) me_int))
      (mse_raise (c := "Empty") (ma_cons me_str ma_nil) (fun H h => clM_eq cf.m_Empty ▸ h))
      (mse_lift ms_next))
      (mse_seq (mse_lift (ms_asg (me_op J_I (me_op J_add (me_cb J_len (ma_cons me_var ma_nil)) me_int) me_int)))
      (mse_seq (mse_lift (ms_asg (me_cb J_listRev (ma_cons (me_sl J_sl me_var mo_none (mo_some me_var)) ma_nil))))
      (mse_seq (mse_lift (ms_asg (me_mut0 J_pop)))
      (mse_lift (ms_ret (me_tup (ma_cons me_var (ma_cons (me_tup (ma_cons me_var (ma_cons (me_sl J_sl me_var (mo_some me_var) mo_none) ma_nil))) (ma_cons (me_op J_add (me_rep (ma_cons me_str ma_nil) (me_cb J_len (ma_cons me_var ma_nil))) (me_lst (ma_cons me_str ma_nil))) ma_nil))))))))))) rfl h⟩
theorem ok_take_near (Z : NoGl mg) (T : Top K mg "take_near" s_take_near)  : Def P w K mg base CX0 1 "take_near" ["near", "far"] (spM m_take_near) := by
  have z_len : mg "len" = none := Z.1 _ (by decide +kernel)
  have z_list : mg "list" = none := Z.1 _ (by decide +kernel)
  have z_reversed : mg "reversed" = none := Z.1 _ (by decide +kernel)
  refine T.def sc_take_near (fun vs H Q E h => spM_len h) (fun _ _ _ _ _ _ us hl => match us, hl with | [_, _], _ => rfl) fun f cdv A outer s H vs Q E hr h => ?_
  have hu := hr.units
  exact ⟨_, (pss_cons (ps_if (pt_cmpR op_gt (pe_callB (call_lenK (K := K) rfl) rfl z_len PySem.boot_len (pa_cons (pv 0) pa_nil)) pe_int (nomark _))
      (pss_one (ps_ret (pe_tup (pa_cons (pe_ix (ix_seqK (K := K) rfl) (pv 0) (pe_un un_neg pe_int) (fun _ _ => rfl)) (pa_cons (pe_tup (pa_cons (pe_slice (sl_listK (K := K) rfl) (pv 0) po_none (po_some (pe_un un_neg pe_int))) (pa_cons (pe_callTy (call_listK (K := K) rfl) rfl z_list PyProof.Rows.boot_list (pa_cons (pv 1) pa_nil)) pa_nil))) (pa_cons (pe_lst (pa_cons pe_str pa_nil)) pa_nil))))))
      pss_nil)
      (pss_cons (ps_if (pt_cmpR (op_eqK (K := K) rfl hu) (pe_callB (call_lenK (K := K) rfl) rfl z_len PySem.boot_len (pa_cons (pv 1) pa_nil)) pe_int (nomark _))
      (pss_one ps_never)
      pss_nil)
      (pss_cons (ps_set (i := 2) sc_take_near.nd rfl (by first | exact Or.inl rfl | exact Or.inr rfl) (pe_op op_fdiv (pe_op (op_addK (K := K) rfl) (pe_callB (call_lenK (K := K) rfl) rfl z_len PySem.boot_len (pa_cons (pv 1) pa_nil)) pe_int) pe_int))
      (pss_cons (ps_set (i := 3) sc_take_near.nd rfl (by first | exact Or.inl rfl | exact Or.inr rfl) (pe_listRevK (K := K) rfl rfl rfl z_list rfl z_reversed (pa_cons (pe_slice (sl_listK (K := K) rfl) (pv 1) po_none (po_some (pv 2))) pa_nil)))
      (pss_cons (ps_set (i := 4) sc_take_near.nd rfl (by first | exact Or.inl rfl | exact Or.inr rfl) (pe_bm0K (K := K) rfl PySem.F.plainAttrs_list PySem.F.slot_list_pop PySem.F.type_list_pop mt_pop (pv 3)))
      (pss_one (ps_ret (pe_tup (pa_cons (pv 4) (pa_cons (pe_tup (pa_cons (pv 3) (pa_cons (pe_slice (sl_listK (K := K) rfl) (pv 1) (po_some (pv 2)) po_none) pa_nil))) (pa_cons (pe_op (op_addK (K := K) rfl) (pe_op op_mulM (pe_lst (pa_cons pe_str pa_nil)) (pe_callB (call_lenK (K := K) rfl) rfl z_len PySem.boot_len (pa_cons (pv 1) pa_nil))) (pe_lst (pa_cons pe_str pa_nil))) pa_nil))))))))))),
      fn_run (n := 2) (k := 3) (ms_seq (ms_if (mt_test (me_op J_B0 (me_cb J_len (ma_cons me_var ma_nil)) me_int))
      (ms_ret (me_tup (ma_cons (me_op J_ix me_var (me_un J_neg me_int)) (ma_cons (me_tup (ma_cons (me_sl J_sl me_var mo_none (mo_some (me_un J_neg me_int))) (ma_cons (me_cb J_list (ma_cons me_var ma_nil)) ma_nil))) (ma_cons (me_lst (ma_cons me_str ma_nil)) ma_nil)))))
      ms_next)
      (ms_seq (ms_if (mt_test (me_op J_eq (me_cb J_len (ma_cons me_var ma_nil)) me_int))
      ms_never
      ms_next)
      (ms_seq (ms_asg (me_op J_I (me_op J_add (me_cb J_len (ma_cons me_var ma_nil)) me_int) me_int))
      (ms_seq (ms_asg (me_cb J_listRev (ma_cons (me_sl J_sl me_var mo_none (mo_some me_var)) ma_nil)))
      (ms_seq (ms_asg (me_mut0 J_pop))
      (ms_ret (me_tup (ma_cons me_var (ma_cons (me_tup (ma_cons me_var (ma_cons (me_sl J_sl me_var (mo_some me_var) mo_none) ma_nil))) (ma_cons (me_op J_add (me_rep (ma_cons me_str ma_nil) (me_cb J_len (ma_cons me_var ma_nil))) (me_lst (ma_cons me_str ma_nil))) ma_nil)))))))))) rfl h⟩
theorem okx_take_first (Z : NoGl mg) (T : Top K mg "take_first" s_take_first) (cf : CF K mg C_Empty C_NoName C_Mixed C_Lacking C_AtTop C_NoRow C_NoPlace C_NoNumber C_Overdrawn C_NotLess C_NoThing C_Twice C_CreditError) (R_take_near : Def P w K mg base (CXW P w) 1 "take_near" ["near", "far"] (spX (clM mg) x_take_near)) : Def P w K mg base (CXW P w) 2 "take_first" ["double"] (spX (clM mg) x_take_first) := by
  refine T.defX sc_take_first (fun vs H Q E h => spX_len h) (fun _ _ _ _ _ _ us hl => match us, hl with | [_], _ => rfl) fun f cdv A outer s H vs Q E hr h => ?_
  have hu := hr.units
  exact ⟨_, (pss_one (ps_ret (pe_defX R_take_near (hr.mono (by omega)) (passW rfl) (pa_cons (pe_ix (ix_seqK (K := K) rfl) (pv 0) pe_int (fun _ _ => rfl)) (pa_cons (pe_ix (ix_seqK (K := K) rfl) (pv 0) pe_int (fun _ _ => rfl)) pa_nil))))),
      fn_runX (n := 1) (k := 0) (mse_retX (ma_cons (me_op J_ix me_var me_int) (ma_cons (me_op J_ix me_var me_int) ma_nil))) rfl h⟩
theorem ok_take_first (Z : NoGl mg) (T : Top K mg "take_first" s_take_first) (D_take_near : Def P w K mg base CX0 1 "take_near" ["near", "far"] (spM m_take_near)) : Def P w K mg base CX0 2 "take_first" ["double"] (spM m_take_first) := by
  refine T.def sc_take_first (fun vs H Q E h => spM_len h) (fun _ _ _ _ _ _ us hl => match us, hl with | [_], _ => rfl) fun f cdv A outer s H vs Q E hr h => ?_
  have hu := hr.units
  exact ⟨_, (pss_one (ps_ret (pe_def D_take_near (hr.mono (by omega)) (pa_cons (pe_ix (ix_seqK (K := K) rfl) (pv 0) pe_int (fun _ _ => rfl)) (pa_cons (pe_ix (ix_seqK (K := K) rfl) (pv 0) pe_int (fun _ _ => rfl)) pa_nil))))),
      fn_run (n := 1) (k := 0) (ms_ret (me_call (ma_cons (me_op J_ix me_var me_int) (ma_cons (me_op J_ix me_var me_int) ma_nil)))) rfl h⟩
theorem okx_take_last (Z : NoGl mg) (T : Top K mg "take_last" s_take_last) (cf : CF K mg C_Empty C_NoName C_Mixed C_Lacking C_AtTop C_NoRow C_NoPlace C_NoNumber C_Overdrawn C_NotLess C_NoThing C_Twice C_CreditError) (R_take_near : Def P w K mg base (CXW P w) 1 "take_near" ["near", "far"] (spX (clM mg) x_take_near)) : Def P w K mg base (CXW P w) 2 "take_last" ["double"] (spX (clM mg) x_take_last) := by
  refine T.defX sc_take_last (fun vs H Q E h => spX_len h) (fun _ _ _ _ _ _ us hl => match us, hl with | [_], _ => rfl) fun f cdv A outer s H vs Q E hr h => ?_
  have hu := hr.units
  exact ⟨_, (pss_cons (ps_set (i := 1) sc_take_last.nd rfl (by first | exact Or.inl rfl | exact Or.inr rfl) (pe_defX R_take_near (hr.mono (by omega)) (passW rfl) (pa_cons (pe_ix (ix_seqK (K := K) rfl) (pv 0) pe_int (fun _ _ => rfl)) (pa_cons (pe_ix (ix_seqK (K := K) rfl) (pv 0) pe_int (fun _ _ => rfl)) pa_nil))))
      (pss_one (id (ps_ret (pe_tup (pa_cons (pe_ix (ix_seqK (K := K) rfl) (pv 1) pe_int (fun _ _ => rfl)) (pa_cons (pe_tup (pa_cons (pe_ix (ix_seqK (K := K) rfl) (pe_ix (ix_seqK (K := K) rfl) (pv 1) pe_int (fun _ _ => rfl)) pe_int (fun _ _ => rfl)) (pa_cons (pe_ix (ix_seqK (K := K) rfl) (pe_ix (ix_seqK (K := K) rfl) (pv 1) pe_int (fun _ _ => rfl)) pe_int (fun _ _ => rfl)) pa_nil))) (pa_cons (pe_ix (ix_seqK (K := K) rfl) (pv 1) pe_int (fun _ _ => rfl)) pa_nil)))))))),
      fn_runX (n := 1) (k := 1) (mse_seq (mse_setX (ma_cons (me_op J_ix me_var me_int) (ma_cons (me_op J_ix me_var me_int) ma_nil)))
      (mse_lift (ms_ret (me_tup (ma_cons (me_op J_ix me_var me_int) (ma_cons (me_tup (ma_cons (me_op J_ix (me_op J_ix me_var me_int) me_int) (ma_cons (me_op J_ix (me_op J_ix me_var me_int) me_int) ma_nil))) (ma_cons (me_op J_ix me_var me_int) ma_nil))))))) rfl h⟩
theorem ok_take_last (Z : NoGl mg) (T : Top K mg "take_last" s_take_last) (D_take_near : Def P w K mg base CX0 1 "take_near" ["near", "far"] (spM m_take_near)) : Def P w K mg base CX0 2 "take_last" ["double"] (spM m_take_last) := by
  refine T.def sc_take_last (fun vs H Q E h => spM_len h) (fun _ _ _ _ _ _ us hl => match us, hl with | [_], _ => rfl) fun f cdv A outer s H vs Q E hr h => ?_
  have hu := hr.units
  exact ⟨_, (pss_cons (ps_set (i := 1) sc_take_last.nd rfl (by first | exact Or.inl rfl | exact Or.inr rfl) (pe_def D_take_near (hr.mono (by omega)) (pa_cons (pe_ix (ix_seqK (K := K) rfl) (pv 0) pe_int (fun _ _ => rfl)) (pa_cons (pe_ix (ix_seqK (K := K) rfl) (pv 0) pe_int (fun _ _ => rfl)) pa_nil))))
      (pss_one (ps_ret (pe_tup (pa_cons (pe_ix (ix_seqK (K := K) rfl) (pv 1) pe_int (fun _ _ => rfl)) (pa_cons (pe_tup (pa_cons (pe_ix (ix_seqK (K := K) rfl) (pe_ix (ix_seqK (K := K) rfl) (pv 1) pe_int (fun _ _ => rfl)) pe_int (fun _ _ => rfl)) (pa_cons (pe_ix (ix_seqK (K := K) rfl) (pe_ix (ix_seqK (K := K) rfl) (pv 1) pe_int (fun _ _ => rfl)) pe_int (fun _ _ => rfl)) pa_nil))) (pa_cons (pe_ix (ix_seqK (K := K) rfl) (pv 1) pe_int (fun _ _ => rfl)) pa_nil))))))),
      fn_run (n := 1) (k := 1) (ms_seq (ms_asg (me_call (ma_cons (me_op J_ix me_var me_int) (ma_cons (me_op J_ix me_var me_int) ma_nil))))
      (ms_ret (me_tup (ma_cons (me_op J_ix me_var me_int) (ma_cons (me_tup (ma_cons (me_op J_ix (me_op J_ix me_var me_int) me_int) (ma_cons (me_op J_ix (me_op J_ix me_var me_int) me_int) ma_nil))) (ma_cons (me_op J_ix me_var me_int) ma_nil)))))) rfl h⟩
theorem ok_law_emptied (Z : NoGl mg) (T : Top K mg "_law_emptied" s_law_emptied) (D_take_first : Def P w K mg base CX0 2 "take_first" ["double"] (spM m_take_first)) (D_take_last : Def P w K mg base CX0 2 "take_last" ["double"] (spM m_take_last)) (D_room_take : Def P w K mg base CX0 2 "room_take" ["room"] (spM m_room_take)) (D_queue_take : Def P w K mg base CX0 1 "queue_take" ["queue"] (spM m_queue_take)) (D_put_first : Def P w K mg base CX0 1 "put_first" ["double", "thing"] (spM m_put_first)) (D_put_last : Def P w K mg base CX0 1 "put_last" ["double", "thing"] (spM m_put_last)) (D_room_put : Def P w K mg base CX0 2 "room_put" ["room", "thing"] (spM m_room_put)) (D_queue_put : Def P w K mg base CX0 1 "queue_put" ["queue", "thing"] (spM m_queue_put)) : Def P w K mg base CX0 3 "_law_emptied" ["_law_many", "_law_ends"] (spM m_law_emptied) := by
  have z_range : mg "range" = none := Z.1 _ (by decide +kernel)
  refine T.def sc_law_emptied (fun vs H Q E h => spM_len h) (fun _ _ _ _ _ _ us hl => match us, hl with | [_, _], _ => rfl) fun f cdv A outer s H vs Q E hr h => ?_
  have hu := hr.units
  exact ⟨_, (pss_cons (ps_set (i := 2) sc_law_emptied.nd rfl (by first | exact Or.inl rfl | exact Or.inr rfl) (pe_tup (pa_cons (pe_lst pa_nil) (pa_cons (pe_lst pa_nil) pa_nil))))
      (pss_cons (ps_set (i := 3) sc_law_emptied.nd rfl (by first | exact Or.inl rfl | exact Or.inr rfl) (pe_tup (pa_cons (pe_lst pa_nil) (pa_cons (pe_lst pa_nil) pa_nil))))
      (pss_cons (ps_set (i := 4) sc_law_emptied.nd rfl (by first | exact Or.inl rfl | exact Or.inr rfl) (pe_tup (pa_cons (pe_lst pa_nil) (pa_cons pe_int pa_nil))))
      (pss_cons (ps_for PassesOwn.never rfl (pi_range1 rfl z_range (pa_cons (pv 0) pa_nil)) (pg_name (i := 5) sc_law_emptied.nd rfl (by first | exact Or.inl rfl | exact Or.inr rfl))
      (pss_cons (ps_set (i := 2) sc_law_emptied.nd rfl (by first | exact Or.inl rfl | exact Or.inr rfl) (pe_ix (ix_seqK (K := K) rfl) (pe_def D_queue_put (hr.mono (by omega)) (pa_cons (pv 2) (pa_cons (pv 5) pa_nil))) pe_int (fun _ _ => rfl)))
      (pss_cons (ps_set (i := 4) sc_law_emptied.nd rfl (by first | exact Or.inl rfl | exact Or.inr rfl) (pe_ix (ix_seqK (K := K) rfl) (pe_def D_room_put (hr.mono (by omega)) (pa_cons (pv 4) (pa_cons (pv 5) pa_nil))) pe_int (fun _ _ => rfl)))
      (pss_one (ps_if (pt_cmpR (op_eqK (K := K) rfl hu) (pe_op op_mod (pe_op op_shr (pv 1) (pv 5)) pe_int) pe_int (nomark _))
      (pss_one (ps_set (i := 3) sc_law_emptied.nd rfl (by first | exact Or.inl rfl | exact Or.inr rfl) (pe_ix (ix_seqK (K := K) rfl) (pe_def D_put_first (hr.mono (by omega)) (pa_cons (pv 3) (pa_cons (pv 5) pa_nil))) pe_int (fun _ _ => rfl))))
      (pss_one (ps_set (i := 3) sc_law_emptied.nd rfl (by first | exact Or.inl rfl | exact Or.inr rfl) (pe_ix (ix_seqK (K := K) rfl) (pe_def D_put_last (hr.mono (by omega)) (pa_cons (pv 3) (pa_cons (pv 5) pa_nil))) pe_int (fun _ _ => rfl)))))))))
      (pss_cons (ps_for PassesOwn.never rfl (pi_range1 rfl z_range (pa_cons (pv 0) pa_nil)) (pg_name (i := 5) sc_law_emptied.nd rfl (by first | exact Or.inl rfl | exact Or.inr rfl))
      (pss_cons (ps_set (i := 2) sc_law_emptied.nd rfl (by first | exact Or.inl rfl | exact Or.inr rfl) (pe_ix (ix_seqK (K := K) rfl) (pe_def D_queue_take (hr.mono (by omega)) (pa_cons (pv 2) pa_nil)) pe_int (fun _ _ => rfl)))
      (pss_cons (ps_set (i := 4) sc_law_emptied.nd rfl (by first | exact Or.inl rfl | exact Or.inr rfl) (pe_ix (ix_seqK (K := K) rfl) (pe_def D_room_take (hr.mono (by omega)) (pa_cons (pv 4) pa_nil)) pe_int (fun _ _ => rfl)))
      (pss_one (ps_if (pt_cmpR (op_eqK (K := K) rfl hu) (pe_op op_mod (pe_op op_shr (pv 1) (pe_op (op_addK (K := K) rfl) (pv 0) (pv 5))) pe_int) pe_int (nomark _))
      (pss_one (ps_set (i := 3) sc_law_emptied.nd rfl (by first | exact Or.inl rfl | exact Or.inr rfl) (pe_ix (ix_seqK (K := K) rfl) (pe_def D_take_first (hr.mono (by omega)) (pa_cons (pv 3) pa_nil)) pe_int (fun _ _ => rfl))))
      (pss_one (ps_set (i := 3) sc_law_emptied.nd rfl (by first | exact Or.inl rfl | exact Or.inr rfl) (pe_ix (ix_seqK (K := K) rfl) (pe_def D_take_last (hr.mono (by omega)) (pa_cons (pv 3) pa_nil)) pe_int (fun _ _ => rfl)))))))))
      (pss_one (ps_ret (pe_lst (pa_cons (pv 2) (pa_cons (pv 3) (pa_cons (pv 4) pa_nil))))))))))),
      fn_run (n := 2) (k := 4) (ms_seq (ms_asg (me_tup (ma_cons (me_lst ma_nil) (ma_cons (me_lst ma_nil) ma_nil))))
      (ms_seq (ms_asg (me_tup (ma_cons (me_lst ma_nil) (ma_cons (me_lst ma_nil) ma_nil))))
      (ms_seq (ms_asg (me_tup (ma_cons (me_lst ma_nil) (ma_cons me_int ma_nil))))
      (ms_seq (ms_for (mf_rng1 (ma_cons me_var ma_nil)) mg_name
      (ms_seq (ms_asg (me_op J_ix (me_call (ma_cons me_var (ma_cons me_var ma_nil))) me_int))
      (ms_seq (ms_asg (me_op J_ix (me_call (ma_cons me_var (ma_cons me_var ma_nil))) me_int))
      (ms_if (mt_test (me_op J_eq (me_op J_I (me_op J_I me_var me_var) me_int) me_int))
      (ms_asg (me_op J_ix (me_call (ma_cons me_var (ma_cons me_var ma_nil))) me_int))
      (ms_asg (me_op J_ix (me_call (ma_cons me_var (ma_cons me_var ma_nil))) me_int))))))
      (ms_seq (ms_for (mf_rng1 (ma_cons me_var ma_nil)) mg_name
      (ms_seq (ms_asg (me_op J_ix (me_call (ma_cons me_var ma_nil)) me_int))
      (ms_seq (ms_asg (me_op J_ix (me_call (ma_cons me_var ma_nil)) me_int))
      (ms_if (mt_test (me_op J_eq (me_op J_I (me_op J_I me_var (me_op J_add me_var me_var)) me_int) me_int))
      (ms_asg (me_op J_ix (me_call (ma_cons me_var ma_nil)) me_int))
      (ms_asg (me_op J_ix (me_call (ma_cons me_var ma_nil)) me_int))))))
      (ms_ret (me_lst (ma_cons me_var (ma_cons me_var (ma_cons me_var ma_nil)))))))))) rfl h⟩
theorem ok_law_thing_by (Z : NoGl mg) (T : Top K mg "_law_thing_by" s_law_thing_by)  : Def P w K mg base CX0 1 "_law_thing_by" ["_law_cell"] (spM m_law_thing_by) := by
  refine T.def sc_law_thing_by (fun vs H Q E h => spM_len h) (fun _ _ _ _ _ _ us hl => match us, hl with | [_], _ => rfl) fun f cdv A outer s H vs Q E hr h => ?_
  have hu := hr.units
  exact ⟨_, (pss_cons (ps_if (pt_cmpR (op_eqK (K := K) rfl hu) (pe_op op_mod (pv 0) pe_int) pe_int (nomark _))
      (pss_one (ps_ret pe_non))
      pss_nil)
      (pss_cons (ps_if (pt_cmpR (op_eqK (K := K) rfl hu) (pe_op op_mod (pv 0) pe_int) pe_int (nomark _))
      (pss_one (ps_ret (pe_ix (ix_seqK (K := K) rfl) (pe_lst (pa_cons pe_str (pa_cons pe_str (pa_cons pe_str pa_nil)))) (pe_op op_mod (pe_op op_fdiv (pv 0) pe_int) pe_int) (fun _ _ => rfl))))
      pss_nil)
      (pss_cons (ps_if (pt_cmpR (op_eqK (K := K) rfl hu) (pe_op op_mod (pv 0) pe_int) pe_int (nomark _))
      (pss_one (ps_ret (pe_tup (pa_cons (pe_op op_mod (pe_op op_fdiv (pv 0) pe_int) pe_int) (pa_cons pe_str (pa_cons (pe_tup (pa_cons pe_non (pa_cons (pe_tup pa_nil) pa_nil))) pa_nil))))))
      pss_nil)
      (pss_cons (ps_if (pt_cmpR (op_eqK (K := K) rfl hu) (pe_op op_mod (pv 0) pe_int) pe_int (nomark _))
      (pss_one (ps_ret (pe_op op_sub (pe_op op_mod (pe_op op_fdiv (pv 0) pe_int) pe_int) pe_int)))
      pss_nil)
      (pss_cons (ps_if (pt_cmpR (op_eqK (K := K) rfl hu) (pe_op op_mod (pv 0) pe_int) pe_int (nomark _))
      (pss_one (ps_ret (pe_tup pa_nil)))
      pss_nil)
      (pss_one (ps_ret (pe_op (op_addK (K := K) rfl) (pe_op op_sub (pe_op op_mod (pe_op op_fdiv (pv 0) pe_int) (pe_op op_sub (pe_op op_mulM pe_int (pe_op op_pow pe_int pe_int)) pe_int)) (pe_op op_pow pe_int pe_int)) pe_int)))))))),
      fn_run (n := 1) (k := 0) (ms_seq (ms_if (mt_test (me_op J_eq (me_op J_I me_var me_int) me_int))
      (ms_ret me_non)
      ms_next)
      (ms_seq (ms_if (mt_test (me_op J_eq (me_op J_I me_var me_int) me_int))
      (ms_ret (me_op J_ix (me_lst (ma_cons me_str (ma_cons me_str (ma_cons me_str ma_nil)))) (me_op J_I (me_op J_I me_var me_int) me_int)))
      ms_next)
      (ms_seq (ms_if (mt_test (me_op J_eq (me_op J_I me_var me_int) me_int))
      (ms_ret (me_tup (ma_cons (me_op J_I (me_op J_I me_var me_int) me_int) (ma_cons me_str (ma_cons (me_tup (ma_cons me_non (ma_cons (me_tup ma_nil) ma_nil))) ma_nil)))))
      ms_next)
      (ms_seq (ms_if (mt_test (me_op J_eq (me_op J_I me_var me_int) me_int))
      (ms_ret (me_op J_I0 (me_op J_I (me_op J_I me_var me_int) me_int) me_int))
      ms_next)
      (ms_seq (ms_if (mt_test (me_op J_eq (me_op J_I me_var me_int) me_int))
      (ms_ret (me_tup ma_nil))
      ms_next)
      (ms_ret (me_op J_add (me_op J_I0 (me_op J_I (me_op J_I me_var me_int) (me_op J_I0 (me_op J_mul me_int (me_op J_I me_int me_int)) me_int)) (me_op J_I me_int me_int)) me_int))))))) rfl h⟩
theorem ok_queue_row (Z : NoGl mg) (T : Top K mg "queue_row" s_queue_row)  : Def P w K mg base CX0 1 "queue_row" ["queue"] (spM m_queue_row) := by
  have z_list : mg "list" = none := Z.1 _ (by decide +kernel)
  have z_reversed : mg "reversed" = none := Z.1 _ (by decide +kernel)
  refine T.def sc_queue_row (fun vs H Q E h => spM_len h) (fun _ _ _ _ _ _ us hl => match us, hl with | [_], _ => rfl) fun f cdv A outer s H vs Q E hr h => ?_
  have hu := hr.units
  exact ⟨_, (pss_one (ps_ret (pe_op (op_addK (K := K) rfl) (pe_listRevK (K := K) rfl rfl rfl z_list rfl z_reversed (pa_cons (pe_ix (ix_seqK (K := K) rfl) (pv 0) pe_int (fun _ _ => rfl)) pa_nil)) (pe_ix (ix_seqK (K := K) rfl) (pv 0) pe_int (fun _ _ => rfl))))),
      fn_run (n := 1) (k := 0) (ms_ret (me_op J_add (me_cb J_listRev (ma_cons (me_op J_ix me_var me_int) ma_nil)) (me_op J_ix me_var me_int))) rfl h⟩
theorem ok_double_row (Z : NoGl mg) (T : Top K mg "double_row" s_double_row)  : Def P w K mg base CX0 1 "double_row" ["double"] (spM m_double_row) := by
  have z_list : mg "list" = none := Z.1 _ (by decide +kernel)
  have z_reversed : mg "reversed" = none := Z.1 _ (by decide +kernel)
  refine T.def sc_double_row (fun vs H Q E h => spM_len h) (fun _ _ _ _ _ _ us hl => match us, hl with | [_], _ => rfl) fun f cdv A outer s H vs Q E hr h => ?_
  have hu := hr.units
  exact ⟨_, (pss_one (ps_ret (pe_op (op_addK (K := K) rfl) (pe_listRevK (K := K) rfl rfl rfl z_list rfl z_reversed (pa_cons (pe_ix (ix_seqK (K := K) rfl) (pv 0) pe_int (fun _ _ => rfl)) pa_nil)) (pe_ix (ix_seqK (K := K) rfl) (pv 0) pe_int (fun _ _ => rfl))))),
      fn_run (n := 1) (k := 0) (ms_ret (me_op J_add (me_cb J_listRev (ma_cons (me_op J_ix me_var me_int) ma_nil)) (me_op J_ix me_var me_int))) rfl h⟩
theorem ok_queue_credit (Z : NoGl mg) (T : Top K mg "queue_credit" s_queue_credit)  : Def P w K mg base CX0 1 "queue_credit" ["queue"] (spM m_queue_credit) := by
  have z_len : mg "len" = none := Z.1 _ (by decide +kernel)
  refine T.def sc_queue_credit (fun vs H Q E h => spM_len h) (fun _ _ _ _ _ _ us hl => match us, hl with | [_], _ => rfl) fun f cdv A outer s H vs Q E hr h => ?_
  have hu := hr.units
  exact ⟨_, (pss_one (ps_ret (pe_callB (call_lenK (K := K) rfl) rfl z_len PySem.boot_len (pa_cons (pe_ix (ix_seqK (K := K) rfl) (pv 0) pe_int (fun _ _ => rfl)) pa_nil)))),
      fn_run (n := 1) (k := 0) (ms_ret (me_cb J_len (ma_cons (me_op J_ix me_var me_int) ma_nil))) rfl h⟩
theorem ok_double_credit (Z : NoGl mg) (T : Top K mg "double_credit" s_double_credit)  : Def P w K mg base CX0 1 "double_credit" ["double"] (spM m_double_credit) := by
  have z_len : mg "len" = none := Z.1 _ (by decide +kernel)
  have z_abs : mg "abs" = none := Z.1 _ (by decide +kernel)
  refine T.def sc_double_credit (fun vs H Q E h => spM_len h) (fun _ _ _ _ _ _ us hl => match us, hl with | [_], _ => rfl) fun f cdv A outer s H vs Q E hr h => ?_
  have hu := hr.units
  exact ⟨_, (pss_one (ps_ret (pe_callB call_abs rfl z_abs PyProof.Rows.boot_abs (pa_cons (pe_op op_sub (pe_callB (call_lenK (K := K) rfl) rfl z_len PySem.boot_len (pa_cons (pe_ix (ix_seqK (K := K) rfl) (pv 0) pe_int (fun _ _ => rfl)) pa_nil)) (pe_callB (call_lenK (K := K) rfl) rfl z_len PySem.boot_len (pa_cons (pe_ix (ix_seqK (K := K) rfl) (pv 0) pe_int (fun _ _ => rfl)) pa_nil))) pa_nil)))),
      fn_run (n := 1) (k := 0) (ms_ret (me_cb J_abs (ma_cons (me_op J_I0 (me_cb J_len (ma_cons (me_op J_ix me_var me_int) ma_nil)) (me_cb J_len (ma_cons (me_op J_ix me_var me_int) ma_nil))) ma_nil))) rfl h⟩
theorem ok_room_credit (Z : NoGl mg) (T : Top K mg "room_credit" s_room_credit)  : Def P w K mg base CX0 1 "room_credit" ["room"] (spM m_room_credit) := by
  obtain ⟨_, g_LEAST_SIZE⟩ := Z.2 "LEAST_SIZE" 4 (by decide +kernel)
  have z_len : mg "len" = none := Z.1 _ (by decide +kernel)
  refine T.def sc_room_credit (fun vs H Q E h => spM_len h) (fun _ _ _ _ _ _ us hl => match us, hl with | [_], _ => rfl) fun f cdv A outer s H vs Q E hr h => ?_
  have hu := hr.units
  exact ⟨_, (pss_cons (ps_set (i := 1) sc_room_credit.nd rfl (by first | exact Or.inl rfl | exact Or.inr rfl) (pe_callB (call_lenK (K := K) rfl) rfl z_len PySem.boot_len (pa_cons (pe_ix (ix_seqK (K := K) rfl) (pv 0) pe_int (fun _ _ => rfl)) pa_nil)))
      (pss_cons (ps_set (i := 2) sc_room_credit.nd rfl (by first | exact Or.inl rfl | exact Or.inr rfl) (pe_ix (ix_seqK (K := K) rfl) (pv 0) pe_int (fun _ _ => rfl)))
      (pss_cons (ps_if (pt_cmpR op_gt (pe_op op_mulM pe_int (pv 1)) (pv 2) (nomark _))
      (pss_one (ps_ret (pe_op op_sub (pe_op op_mulM pe_int (pv 1)) (pv 2))))
      pss_nil)
      (pss_cons (ps_if (pt_cmpR op_gt (pv 2) (pe_glob (v := .int 4) rfl g_LEAST_SIZE ⟨_, rfl⟩) (nomark _))
      (pss_one (ps_ret (pe_op op_sub (pe_op op_fdiv (pv 2) pe_int) (pv 1))))
      pss_nil)
      (pss_one (ps_ret pe_int)))))),
      fn_run (n := 1) (k := 2) (ms_seq (ms_asg (me_cb J_len (ma_cons (me_op J_ix me_var me_int) ma_nil)))
      (ms_seq (ms_asg (me_op J_ix me_var me_int))
      (ms_seq (ms_if (mt_test (me_op J_B0 (me_op J_mul me_int me_var) me_var))
      (ms_ret (me_op J_I0 (me_op J_mul me_int me_var) me_var))
      ms_next)
      (ms_seq (ms_if (mt_test (me_op J_B0 me_var me_int))
      (ms_ret (me_op J_I0 (me_op J_I me_var me_int) me_var))
      ms_next)
      (ms_ret me_int))))) rfl h⟩
theorem ok_law_bare (Z : NoGl mg) (T : Top K mg "_law_bare" s_law_bare) (D_room_credit : Def P w K mg base CX0 1 "room_credit" ["room"] (spM m_room_credit)) (D_double_credit : Def P w K mg base CX0 1 "double_credit" ["double"] (spM m_double_credit)) (D_queue_credit : Def P w K mg base CX0 1 "queue_credit" ["queue"] (spM m_queue_credit)) (D_double_row : Def P w K mg base CX0 1 "double_row" ["double"] (spM m_double_row)) (D_queue_row : Def P w K mg base CX0 1 "queue_row" ["queue"] (spM m_queue_row)) : Def P w K mg base CX0 2 "_law_bare" ["_law_held"] (spM m_law_bare) := by
  refine T.def sc_law_bare (fun vs H Q E h => spM_len h) (fun _ _ _ _ _ _ us hl => match us, hl with | [_], _ => rfl) fun f cdv A outer s H vs Q E hr h => ?_
  have hu := hr.units
  exact ⟨_, (pss_cons (ps_asg (pv 0) (pg_tupL rfl (pgs_cons (pg_name (i := 1) sc_law_bare.nd rfl (by first | exact Or.inl rfl | exact Or.inr rfl)) (pgs_cons (pg_name (i := 2) sc_law_bare.nd rfl (by first | exact Or.inl rfl | exact Or.inr rfl)) (pgs_cons (pg_name (i := 3) sc_law_bare.nd rfl (by first | exact Or.inl rfl | exact Or.inr rfl)) pgs_nil)))))
      (pss_cons (ps_if (PW.pt (pw_or (pt_cmpR (op_neK (K := K) rfl hu) (pe_def D_queue_row (hr.mono (by omega)) (pa_cons (pv 1) pa_nil)) (pe_lst pa_nil) (nomark _)) (pw_or (pt_cmpR (op_neK (K := K) rfl hu) (pe_def D_double_row (hr.mono (by omega)) (pa_cons (pv 2) pa_nil)) (pe_lst pa_nil) (nomark _)) (pw_or1 (pt_cmpR (op_neK (K := K) rfl hu) (pv 3) (pe_tup (pa_cons (pe_lst pa_nil) (pa_cons pe_int pa_nil))) (nomark _))))))
      (pss_one (ps_ret pe_bl))
      pss_nil)
      (pss_one (ps_ret (pe_and (pe_cmpR (op_eqK (K := K) rfl hu) (pe_def D_queue_credit (hr.mono (by omega)) (pa_cons (pv 1) pa_nil)) pe_int (nomark _)) (pe_and (pe_cmpR (op_eqK (K := K) rfl hu) (pe_def D_double_credit (hr.mono (by omega)) (pa_cons (pv 2) pa_nil)) pe_int (nomark _)) (pe_one (pe_cmpR (op_eqK (K := K) rfl hu) (pe_def D_room_credit (hr.mono (by omega)) (pa_cons (pv 3) pa_nil)) pe_int (nomark _))))))))),
      fn_run (n := 1) (k := 3) (ms_seq (ms_asgG me_var (mg_tupL (mgs_cons mg_name (mgs_cons mg_name (mgs_cons mg_name mgs_nil)))))
      (ms_seq (ms_if (mt_or (mt_test (me_op J_ne (me_call (ma_cons me_var ma_nil)) (me_lst ma_nil))) (mt_or (mt_test (me_op J_ne (me_call (ma_cons me_var ma_nil)) (me_lst ma_nil))) (mt_test (me_op J_ne me_var (me_tup (ma_cons (me_lst ma_nil) (ma_cons me_int ma_nil)))))))
      (ms_ret me_bl)
      ms_next)
      (ms_ret (me_andV (me_op J_eq (me_call (ma_cons me_var ma_nil)) me_int) (me_andV (me_op J_eq (me_call (ma_cons me_var ma_nil)) me_int) (me_op J_eq (me_call (ma_cons me_var ma_nil)) me_int)))))) rfl h⟩
theorem ok_law_same (Z : NoGl mg) (T : Top K mg "_law_same" s_law_same)  : ∀ n, Def P w K mg base CX0 (1 + n) "_law_same" ["_law_found", "_law_due"] (spM (m_law_same n))
  | 0 => T.def sc_law_same (fun vs H Q E h => by obtain ⟨_, _, _, _, _, _, _, e, _⟩ := h; cases e) (fun _ _ _ _ _ _ us hl => match us, hl with | [_, _], _ => rfl) fun f cdv A outer s H vs Q E hr h => by obtain ⟨_, _, _, _, _, _, _, e, _⟩ := h; cases e
  | n + 1 => by
    have D_law_same := ok_law_same Z T  n
    have z_tuple : mg "tuple" = none := Z.1 _ (by decide +kernel)
    have z_isinstance : mg "isinstance" = none := Z.1 _ (by decide +kernel)
    have z_zip : mg "zip" = none := Z.1 _ (by decide +kernel)
    have z_all : mg "all" = none := Z.1 _ (by decide +kernel)
    have z_len : mg "len" = none := Z.1 _ (by decide +kernel)
    have z_bool : mg "bool" = none := Z.1 _ (by decide +kernel)
    refine T.def sc_law_same (fun vs H Q E h => spM_len h) (fun _ _ _ _ _ _ us hl => match us, hl with | [_, _], _ => rfl) fun f cdv A outer s H vs Q E hr h => ?_
    have hu := hr.units
    exact ⟨_, (pss_cons (ps_if (PW.pt (pw_or (pt_val (pe_callB call_isi rfl z_isinstance PyProof.Rows.boot_isinstance (pa_cons (pv 0) (pa_cons (pe_ty z_bool PyProof.Rows.boot_bool) pa_nil)))) (pw_or1 (pt_cmpR (op_neK (K := K) rfl hu) (pe_callB call_isi rfl z_isinstance PyProof.Rows.boot_isinstance (pa_cons (pv 0) (pa_cons (pe_ty z_tuple PyProof.Rows.boot_tuple) pa_nil))) (pe_callB call_isi rfl z_isinstance PyProof.Rows.boot_isinstance (pa_cons (pv 1) (pa_cons (pe_ty z_tuple PyProof.Rows.boot_tuple) pa_nil))) (nomark _)))))
      (pss_one (ps_ret pe_bl))
      pss_nil)
      (pss_cons (ps_if (pt_val (pe_callB call_isi rfl z_isinstance PyProof.Rows.boot_isinstance (pa_cons (pv 1) (pa_cons (pe_ty z_tuple PyProof.Rows.boot_tuple) pa_nil))))
      (pss_one (ps_ret (pe_and (pe_cmpR (op_eqK (K := K) rfl hu) (pe_callB (call_lenK (K := K) rfl) rfl z_len PySem.boot_len (pa_cons (pv 0) pa_nil)) (pe_callB (call_lenK (K := K) rfl) rfl z_len PySem.boot_len (pa_cons (pv 1) pa_nil)) (nomark _)) (pe_one (pe_callB (call_allK (K := K) rfl rfl) rfl z_all PyProof.Rows.boot_all (pa_cons (pe_lc2 (fr := []) rfl ⟨⟨rfl, rfl, rfl, rfl, rfl, rfl, by decide +kernel⟩, rfl, by decide +kernel⟩ (pi_zipT rfl z_zip (pa_cons (pv 0) (pa_cons (pv 1) pa_nil))) (fun _ _ _ _ => pif_nil) (fun _ _ _ _ => (pe_def D_law_same (hr.mono (Nat.le_refl _)) (pa_cons (pv 0) (pa_cons (pv 1) pa_nil))))) pa_nil))))))
      pss_nil)
      (pss_one (ps_ret (pe_cmpR (op_eqK (K := K) rfl hu) (pv 0) (pv 1) (nomark _)))))),
      fn_run (n := 2) (k := 0) (ms_seq (ms_if (mt_or (mt_tB (me_isi me_var)) (mt_test (me_op J_ne (me_isi me_var) (me_isi me_var))))
      (ms_ret me_bl)
      ms_next)
      (ms_seq (ms_if (mt_tB (me_isi me_var))
      (ms_ret (me_andV (me_op J_eq (me_cb J_len (ma_cons me_var ma_nil)) (me_cb J_len (ma_cons me_var ma_nil))) (me_cb J_all (ma_cons (me_lc2 (mi_zipT (ma_cons me_var (ma_cons me_var ma_nil))) mt_yes (me_call (ma_cons me_var (ma_cons me_var ma_nil)))) ma_nil))))
      ms_next)
      (ms_ret (me_op J_eq me_var me_var)))) rfl h⟩
theorem okx_law_take (Z : NoGl mg) (T : Top K mg "_law_take" s_law_take) (cf : CF K mg C_Empty C_NoName C_Mixed C_Lacking C_AtTop C_NoRow C_NoPlace C_NoNumber C_Overdrawn C_NotLess C_NoThing C_Twice C_CreditError) (R_room_take : Def P w K mg base (CXW P w) 2 "room_take" ["room"] (spX (clM mg) x_room_take)) (R_take_last : Def P w K mg base (CXW P w) 2 "take_last" ["double"] (spX (clM mg) x_take_last)) (R_take_first : Def P w K mg base (CXW P w) 2 "take_first" ["double"] (spX (clM mg) x_take_first)) (R_queue_take : Def P w K mg base (CXW P w) 1 "queue_take" ["queue"] (spX (clM mg) x_queue_take)) : Def P w K mg base (CXW P w) 3 "_law_take" ["_law_way", "_law_held"] (spX (clM mg) x_law_take) := by
  refine T.defX sc_law_take (fun vs H Q E h => spX_len h) (fun _ _ _ _ _ _ us hl => match us, hl with | [_, _], _ => rfl) fun f cdv A outer s H vs Q E hr h => ?_
  have hu := hr.units
  exact ⟨_, (pss_cons (ps_if (pt_cmpR (op_eqK (K := K) rfl hu) (pv 0) pe_int (nomark _))
      (pss_one (ps_ret (pe_defX R_queue_take (hr.mono (by omega)) (passW rfl) (pa_cons (pv 1) pa_nil))))
      pss_nil)
      (pss_cons (ps_if (pt_cmpR (op_eqK (K := K) rfl hu) (pv 0) pe_int (nomark _))
      (pss_one (ps_ret (pe_defX R_take_first (hr.mono (by omega)) (passW rfl) (pa_cons (pv 1) pa_nil))))
      pss_nil)
      (pss_cons (ps_if (pt_cmpR (op_eqK (K := K) rfl hu) (pv 0) pe_int (nomark _))
      (pss_one (ps_ret (pe_defX R_take_last (hr.mono (by omega)) (passW rfl) (pa_cons (pv 1) pa_nil))))
      pss_nil)
      (pss_one (ps_ret (pe_defX R_room_take (hr.mono (by omega)) (passW rfl) (pa_cons (pv 1) pa_nil))))))),
      fn_runX (n := 2) (k := 0) (mse_seq (mse_if (mt_test (me_op J_eq me_var me_int))
      (mse_retX (ma_cons me_var ma_nil))
      (mse_lift ms_next))
      (mse_seq (mse_if (mt_test (me_op J_eq me_var me_int))
      (mse_retX (ma_cons me_var ma_nil))
      (mse_lift ms_next))
      (mse_seq (mse_if (mt_test (me_op J_eq me_var me_int))
      (mse_retX (ma_cons me_var ma_nil))
      (mse_lift ms_next))
      (mse_retX (ma_cons me_var ma_nil))))) rfl h⟩
theorem okg_law_is_empty (Z : NoGl mg) (T : Top K mg "_law_is_empty" s_law_is_empty) (cf : CF K mg C_Empty C_NoName C_Mixed C_Lacking C_AtTop C_NoRow C_NoPlace C_NoNumber C_Overdrawn C_NotLess C_NoThing C_Twice C_CreditError) : Def P w K mg base CX0 1 "_law_is_empty" ["_law_error"] (spG (clM mg) g_law_is_empty) := by
  have z_isinstance : mg "isinstance" = none := Z.1 _ (by decide +kernel)
  have z_ValueError : mg "ValueError" = none := Z.1 _ (by decide +kernel)
  refine T.def sc_law_is_empty (fun vs H Q E h => by obtain ⟨_, _, _, rfl, _⟩ := h; rfl) (fun _ _ _ _ _ _ us hl => match us, hl with | [_], _ => rfl) fun f cdv A outer s H vs Q E hr h => ?_
  obtain ⟨e, c, x, rfl, hH, hg, q⟩ := h
  refine ⟨_, (pss_cons (ps_if (PW.pt (pw_or (pt_val (pe_callB (call_isiH (K := K) rfl) rfl z_isinstance PyProof.Rows.boot_isinstance (pa_cons (pv 0) (pa_cons (pe_glob (v := .ref C_AtTop) rfl cf.m_AtTop rfl) pa_nil)))) (pw_or (pt_val (pe_callB (call_isiH (K := K) rfl) rfl z_isinstance PyProof.Rows.boot_isinstance (pa_cons (pv 0) (pa_cons (pe_glob (v := .ref C_Lacking) rfl cf.m_Lacking rfl) pa_nil)))) (pw_or (pt_val (pe_callB (call_isiH (K := K) rfl) rfl z_isinstance PyProof.Rows.boot_isinstance (pa_cons (pv 0) (pa_cons (pe_glob (v := .ref C_Mixed) rfl cf.m_Mixed rfl) pa_nil)))) (pw_or1 (pt_val (pe_callB (call_isiH (K := K) rfl) rfl z_isinstance PyProof.Rows.boot_isinstance (pa_cons (pv 0) (pa_cons (pe_glob (v := .ref C_NoName) rfl cf.m_NoName rfl) pa_nil)))))))))
      (pss_one (ps_ret pe_bl))
      pss_nil)
      (pss_cons (ps_if (PW.pt (pw_or (pt_val (pe_callB (call_isiH (K := K) rfl) rfl z_isinstance PyProof.Rows.boot_isinstance (pa_cons (pv 0) (pa_cons (pe_glob (v := .ref C_NoNumber) rfl cf.m_NoNumber rfl) pa_nil)))) (pw_or (pt_val (pe_callB (call_isiH (K := K) rfl) rfl z_isinstance PyProof.Rows.boot_isinstance (pa_cons (pv 0) (pa_cons (pe_glob (v := .ref C_NoPlace) rfl cf.m_NoPlace rfl) pa_nil)))) (pw_or1 (pt_val (pe_callB (call_isiH (K := K) rfl) rfl z_isinstance PyProof.Rows.boot_isinstance (pa_cons (pv 0) (pa_cons (pe_glob (v := .ref C_NoRow) rfl cf.m_NoRow rfl) pa_nil))))))))
      (pss_one (ps_ret pe_bl))
      pss_nil)
      (pss_cons (ps_if (PW.pt (pw_or (pt_val (pe_callB (call_isiH (K := K) rfl) rfl z_isinstance PyProof.Rows.boot_isinstance (pa_cons (pv 0) (pa_cons (pe_glob (v := .ref C_NoThing) rfl cf.m_NoThing rfl) pa_nil)))) (pw_or (pt_val (pe_callB (call_isiH (K := K) rfl) rfl z_isinstance PyProof.Rows.boot_isinstance (pa_cons (pv 0) (pa_cons (pe_glob (v := .ref C_NotLess) rfl cf.m_NotLess rfl) pa_nil)))) (pw_or1 (pt_val (pe_callB (call_isiH (K := K) rfl) rfl z_isinstance PyProof.Rows.boot_isinstance (pa_cons (pv 0) (pa_cons (pe_glob (v := .ref C_Overdrawn) rfl cf.m_Overdrawn rfl) pa_nil))))))))
      (pss_one (ps_ret pe_bl))
      pss_nil)
      (pss_one (ps_ret (pe_and (pe_not (pe_callB (call_isiH (K := K) rfl) rfl z_isinstance PyProof.Rows.boot_isinstance (pa_cons (pv 0) (pa_cons (pe_glob (v := .ref C_Twice) rfl cf.m_Twice rfl) pa_nil)))) (pe_and (pe_callB (call_isiH (K := K) rfl) rfl z_isinstance PyProof.Rows.boot_isinstance (pa_cons (pv 0) (pa_cons (pe_glob (v := .ref C_Empty) rfl cf.m_Empty rfl) pa_nil))) (pe_one (pe_callB (call_isiH (K := K) rfl) rfl z_isinstance PyProof.Rows.boot_isinstance (pa_cons (pv 0) (pa_cons (pe_ty z_ValueError PyProof.Rows.Boot.«ValueError») pa_nil))))))))))), ?_⟩
  unfold g_law_is_empty at hg
  split at hg
  · rename_i z; subst z; cases hg; rw [clM_eq cf.m_Empty] at hH
    exact (evS_skip (evT_or_f (ev_tB (ev_isi (k := .ref C_AtTop) (cv := .ref C_AtTop) rfl hH cf.k_Empty (fun u h => h) cf.i_Empty_AtTop)) (evT_or_f (ev_tB (ev_isi (k := .ref C_Lacking) (cv := .ref C_Lacking) rfl hH cf.k_Empty (fun u h => h) cf.i_Empty_Lacking)) (evT_or_f (ev_tB (ev_isi (k := .ref C_Mixed) (cv := .ref C_Mixed) rfl hH cf.k_Empty (fun u h => h) cf.i_Empty_Mixed)) (ev_tB (ev_isi (k := .ref C_NoName) (cv := .ref C_NoName) rfl hH cf.k_Empty (fun u h => h) cf.i_Empty_NoName))))) (evS_skip (evT_or_f (ev_tB (ev_isi (k := .ref C_NoNumber) (cv := .ref C_NoNumber) rfl hH cf.k_Empty (fun u h => h) cf.i_Empty_NoNumber)) (evT_or_f (ev_tB (ev_isi (k := .ref C_NoPlace) (cv := .ref C_NoPlace) rfl hH cf.k_Empty (fun u h => h) cf.i_Empty_NoPlace)) (ev_tB (ev_isi (k := .ref C_NoRow) (cv := .ref C_NoRow) rfl hH cf.k_Empty (fun u h => h) cf.i_Empty_NoRow)))) (evS_skip (evT_or_f (ev_tB (ev_isi (k := .ref C_NoThing) (cv := .ref C_NoThing) rfl hH cf.k_Empty (fun u h => h) cf.i_Empty_NoThing)) (evT_or_f (ev_tB (ev_isi (k := .ref C_NotLess) (cv := .ref C_NotLess) rfl hH cf.k_Empty (fun u h => h) cf.i_Empty_NotLess)) (ev_tB (ev_isi (k := .ref C_Overdrawn) (cv := .ref C_Overdrawn) rfl hH cf.k_Empty (fun u h => h) cf.i_Empty_Overdrawn)))) (evS_ret (evE_and_t (evE_not (ev_isi (k := .ref C_Twice) (cv := .ref C_Twice) rfl hH cf.k_Empty (fun u h => h) cf.i_Empty_Twice)) (evE_and_t (ev_isi (k := .ref C_Empty) (cv := .ref C_Empty) rfl hH cf.k_Empty (fun u h => h) cf.i_Empty_Empty) (ev_isi (k := .ty "ValueError") (cv := .type "ValueError") rfl hH cf.k_Empty (fun u h => h) cf.i_Empty_ValueError))))))) _ q
  ·
    cases hg
theorem ok_law_refused (Z : NoGl mg) (T : Top K mg "_law_refused" s_law_refused) (cf : CF K mg C_Empty C_NoName C_Mixed C_Lacking C_AtTop C_NoRow C_NoPlace C_NoNumber C_Overdrawn C_NotLess C_NoThing C_Twice C_CreditError) (R_law_take : Def P w K mg base (CXW P w) 3 "_law_take" ["_law_way", "_law_held"] (spX (clM mg) x_law_take))  (DG_law_is_empty : Def P w K mg base CX0 1 "_law_is_empty" ["_law_error"] (spG (clM mg) g_law_is_empty)) : Def P w K mg base CX0 4 "_law_refused" ["_law_way", "_law_held"] (spM m_law_refused) := by
  refine T.def sc_law_refused (fun vs H Q E h => spM_len h) (fun _ _ _ _ _ _ us hl => match us, hl with | [_, _], _ => rfl) fun f cdv A outer s H vs Q E hr h => ?_
  have hu := hr.units
  exact ⟨_, (pss_cons (ps_set (i := 2) sc_law_refused.nd rfl (by first | exact Or.inl rfl | exact Or.inr rfl) pe_non)
      (pss_cons (ps_tryK (K := K) (i := 3) rfl
      (pxs_one (px_expr (pex_def rfl R_law_take (hr.mono (by omega)) (pa_cons (pv 0) (pa_cons (pv 1) pa_nil)))))
      rfl rfl rfl cf.m_CreditError sc_law_refused.nd rfl rfl (fun cls e =>
      (pss_one (ps_set (i := 2) sc_law_refused.nd rfl (by first | exact Or.inl rfl | exact Or.inr rfl) (pv 3)))))
      (pss_one (ps_ret (pe_and (pe_cmpR op_notN (pv 2) pe_non (nomark _)) (pe_one (pe_def DG_law_is_empty (hr.mono (by omega)) (pa_cons (pv 2) pa_nil)))))))),
      fn_run (n := 2) (k := 2) (ms_seq (ms_asg me_non)
      (ms_keep (cl := clM mg) (msx_drop (mex_call (ma_cons me_var (ma_cons me_var ma_nil)))) (fun c s h => by
            unfold g_law_is_empty at h
            split at h
            · rename_i z; subst z; cases h; try rw [clM_eq cf.m_Empty]
              exact ⟨_, rfl, cf.k_Empty, cf.h_Empty_CreditError⟩
            ·
              cases h) (by decide)
      (fun σ H Q h q => evE_and_f (fun Q q => by refine ⟨_, h, ?_⟩; refine ⟨rfl, ?_⟩; rw [nn_f]; exact q) Q q)
      (fun c x hg e σ H Q h hH q => evE_and_t (fun Q q => by refine ⟨_, h, ?_⟩; refine ⟨rfl, ?_⟩; rw [nn_t]; exact q) (fun Q q => ⟨_, h, e, c, x, rfl, hH, hg, q⟩) Q q))) rfl h⟩
theorem ok_law {f : Addr} {fd : FuncData} (NL : noLists K = true) (Z : NoGl mg) (F : Fun K "law" "law" s_law f fd) (D_law_bare : Def P w K mg base CX0 2 "_law_bare" ["_law_held"] (spM m_law_bare)) (D_law_same : Def P w K mg base CX0 9 "_law_same" ["_law_found", "_law_due"] (spM (m_law_same 8))) (D_take_last : Def P w K mg base CX0 2 "take_last" ["double"] (spM m_take_last)) (D_take_first : Def P w K mg base CX0 2 "take_first" ["double"] (spM m_take_first)) (D_room_take : Def P w K mg base CX0 2 "room_take" ["room"] (spM m_room_take)) (D_queue_take : Def P w K mg base CX0 1 "queue_take" ["queue"] (spM m_queue_take)) (D_put_last : Def P w K mg base CX0 1 "put_last" ["double", "thing"] (spM m_put_last)) (D_put_first : Def P w K mg base CX0 1 "put_first" ["double", "thing"] (spM m_put_first)) (D_room_put : Def P w K mg base CX0 2 "room_put" ["room", "thing"] (spM m_room_put)) (D_queue_put : Def P w K mg base CX0 1 "queue_put" ["queue", "thing"] (spM m_queue_put)) (D_law_refused : Def P w K mg base CX0 4 "_law_refused" ["_law_way", "_law_held"] (spM m_law_refused)) (D_law_thing_by : Def P w K mg base CX0 1 "_law_thing_by" ["_law_cell"] (spM m_law_thing_by)) (D_law_cell_at : Def P w K mg base CX0 1 "_law_cell_at" ["_law_script", "_law_k"] (spM m_law_cell_at)) (D_law_emptied : Def P w K mg base CX0 3 "_law_emptied" ["_law_many", "_law_ends"] (spM m_law_emptied)) : FnOk P w K mg base CX0 10 f fd ["_law_script"] (spLaw K) := by
  have z_range : mg "range" = none := Z.1 _ (by decide +kernel)
  refine FnOk.imp (sp := spM m_law) ?_ (law_sp NL law_true)
  refine F.ok sc_law (fun vs H Q E h => spM_len h) fun cdv A outer s H vs Q E hr h => ?_
  have hu := hr.units
  exact ⟨_, (pss_cons (ps_set (i := 1) sc_law.nd rfl (by first | exact Or.inl rfl | exact Or.inr rfl) (pe_def D_law_cell_at (hr.mono (by omega)) (pa_cons (pv 0) (pa_cons pe_int pa_nil))))
      (pss_cons (ps_set (i := 2) sc_law.nd rfl (by first | exact Or.inl rfl | exact Or.inr rfl) (pe_def D_law_emptied (hr.mono (by omega)) (pa_cons (pe_op op_mod (pv 1) pe_int) (pa_cons (pe_op op_mod (pe_op op_fdiv (pv 1) pe_int) pe_int) pa_nil))))
      (pss_cons (ps_set (i := 3) sc_law.nd rfl (by first | exact Or.inl rfl | exact Or.inr rfl) (pe_def D_law_thing_by (hr.mono (by omega)) (pa_cons (pe_def D_law_cell_at (hr.mono (by omega)) (pa_cons (pv 0) (pa_cons pe_int pa_nil))) pa_nil)))
      (pss_cons (ps_for PassesOwn.never rfl (pi_range1 rfl z_range (pa_cons pe_int pa_nil)) (pg_name (i := 4) sc_law.nd rfl (by first | exact Or.inl rfl | exact Or.inr rfl))
      (pss_one (ps_if (PW.pt (pw_or (pt_not (pt_val (pe_def D_law_refused (hr.mono (by omega)) (pa_cons (pv 4) (pa_cons (pe_ix (ix_seqK (K := K) rfl) (pv 2) (pe_ix (ix_seqK (K := K) rfl) (pe_lst (pa_cons pe_int (pa_cons pe_int (pa_cons pe_int (pa_cons pe_int pa_nil))))) (pv 4) (fun _ _ => rfl)) (fun _ _ => rfl)) pa_nil))))) (pw_or1 (pt_not (pt_val (pe_def D_law_bare (hr.mono (by omega)) (pa_cons (pv 2) pa_nil)))))))
      (pss_one (ps_ret pe_bl))
      pss_nil)))
      (pss_cons (ps_set (i := 5) sc_law.nd rfl (by first | exact Or.inl rfl | exact Or.inr rfl) (pe_ix (ix_seqK (K := K) rfl) (pe_def D_queue_put (hr.mono (by omega)) (pa_cons (pe_ix (ix_seqK (K := K) rfl) (pv 2) pe_int (fun _ _ => rfl)) (pa_cons (pv 3) pa_nil))) pe_int (fun _ _ => rfl)))
      (pss_cons (ps_set (i := 6) sc_law.nd rfl (by first | exact Or.inl rfl | exact Or.inr rfl) (pe_ix (ix_seqK (K := K) rfl) (pe_def D_room_put (hr.mono (by omega)) (pa_cons (pe_ix (ix_seqK (K := K) rfl) (pv 2) pe_int (fun _ _ => rfl)) (pa_cons (pv 3) pa_nil))) pe_int (fun _ _ => rfl)))
      (pss_cons (ps_set (i := 7) sc_law.nd rfl (by first | exact Or.inl rfl | exact Or.inr rfl) (pe_lst (pa_cons (pe_ix (ix_seqK (K := K) rfl) (pe_def D_put_first (hr.mono (by omega)) (pa_cons (pe_ix (ix_seqK (K := K) rfl) (pv 2) pe_int (fun _ _ => rfl)) (pa_cons (pv 3) pa_nil))) pe_int (fun _ _ => rfl)) (pa_cons (pe_ix (ix_seqK (K := K) rfl) (pe_def D_put_last (hr.mono (by omega)) (pa_cons (pe_ix (ix_seqK (K := K) rfl) (pv 2) pe_int (fun _ _ => rfl)) (pa_cons (pv 3) pa_nil))) pe_int (fun _ _ => rfl)) pa_nil))))
      (pss_cons (ps_if (PW.pt (pw_or (pt_not (pt_val (pe_def D_law_same (hr.mono (by omega)) (pa_cons (pe_ix (ix_seqK (K := K) rfl) (pe_def D_queue_take (hr.mono (by omega)) (pa_cons (pv 5) pa_nil)) pe_int (fun _ _ => rfl)) (pa_cons (pv 3) pa_nil))))) (pw_or1 (pt_not (pt_val (pe_def D_law_same (hr.mono (by omega)) (pa_cons (pe_ix (ix_seqK (K := K) rfl) (pe_def D_room_take (hr.mono (by omega)) (pa_cons (pv 6) pa_nil)) pe_int (fun _ _ => rfl)) (pa_cons (pv 3) pa_nil))))))))
      (pss_one (ps_ret pe_bl))
      pss_nil)
      (pss_cons (ps_for PassesOwn.never rfl (pi_listK (K := K) rfl (pv 7)) (pg_name (i := 8) sc_law.nd rfl (by first | exact Or.inl rfl | exact Or.inr rfl))
      (pss_one (ps_if (PW.pt (pw_or (pt_not (pt_val (pe_def D_law_same (hr.mono (by omega)) (pa_cons (pe_ix (ix_seqK (K := K) rfl) (pe_def D_take_first (hr.mono (by omega)) (pa_cons (pv 8) pa_nil)) pe_int (fun _ _ => rfl)) (pa_cons (pv 3) pa_nil))))) (pw_or1 (pt_not (pt_val (pe_def D_law_same (hr.mono (by omega)) (pa_cons (pe_ix (ix_seqK (K := K) rfl) (pe_def D_take_last (hr.mono (by omega)) (pa_cons (pv 8) pa_nil)) pe_int (fun _ _ => rfl)) (pa_cons (pv 3) pa_nil))))))))
      (pss_one (ps_ret pe_bl))
      pss_nil)))
      (pss_one (ps_ret (pe_def D_law_bare (hr.mono (by omega)) (pa_cons (pv 2) pa_nil))))))))))))),
      fn_run (n := 1) (k := 8) (ms_seq (ms_asg (me_call (ma_cons me_var (ma_cons me_int ma_nil))))
      (ms_seq (ms_asg (me_call (ma_cons (me_op J_I me_var me_int) (ma_cons (me_op J_I (me_op J_I me_var me_int) me_int) ma_nil))))
      (ms_seq (ms_asg (me_call (ma_cons (me_call (ma_cons me_var (ma_cons me_int ma_nil))) ma_nil)))
      (ms_seq (ms_for (mf_rng1 (ma_cons me_int ma_nil)) mg_name
      (ms_if (mt_or (mt_not (mt_tB (me_call (ma_cons me_var (ma_cons (me_op J_ix me_var (me_op J_ix (me_lst (ma_cons me_int (ma_cons me_int (ma_cons me_int (ma_cons me_int ma_nil))))) me_var)) ma_nil))))) (mt_not (mt_tB (me_call (ma_cons me_var ma_nil)))))
      (ms_ret me_bl)
      ms_next))
      (ms_seq (ms_asg (me_op J_ix (me_call (ma_cons (me_op J_ix me_var me_int) (ma_cons me_var ma_nil))) me_int))
      (ms_seq (ms_asg (me_op J_ix (me_call (ma_cons (me_op J_ix me_var me_int) (ma_cons me_var ma_nil))) me_int))
      (ms_seq (ms_asg (me_lst (ma_cons (me_op J_ix (me_call (ma_cons (me_op J_ix me_var me_int) (ma_cons me_var ma_nil))) me_int) (ma_cons (me_op J_ix (me_call (ma_cons (me_op J_ix me_var me_int) (ma_cons me_var ma_nil))) me_int) ma_nil))))
      (ms_seq (ms_if (mt_or (mt_not (mt_tB (me_call (ma_cons (me_op J_ix (me_call (ma_cons me_var ma_nil)) me_int) (ma_cons me_var ma_nil))))) (mt_not (mt_tB (me_call (ma_cons (me_op J_ix (me_call (ma_cons me_var ma_nil)) me_int) (ma_cons me_var ma_nil))))))
      (ms_ret me_bl)
      ms_next)
      (ms_seq (ms_for (mf_list me_var) mg_name
      (ms_if (mt_or (mt_not (mt_tB (me_call (ma_cons (me_op J_ix (me_call (ma_cons me_var ma_nil)) me_int) (ma_cons me_var ma_nil))))) (mt_not (mt_tB (me_call (ma_cons (me_op J_ix (me_call (ma_cons me_var ma_nil)) me_int) (ma_cons me_var ma_nil))))))
      (ms_ret me_bl)
      ms_next))
      (ms_ret (me_call (ma_cons me_var ma_nil)))))))))))) rfl h⟩
end
end K38
open PySem PySem.W PyProof.Rows
set_option maxRecDepth 100000 in
set_option maxHeartbeats 0 in
theorem PySem.Challenge.cw_creditworks_k38_empty_rows_holds : PySem.Challenge.rw_creditworks_k38_empty_rows.Holds := by
  w_on; o_law; k_head; (case hw => w_witness2)
  k_fill
  refine L2.walk_law (l := PySem.Challenge.rw_creditworks_k38_empty_rows) (k := 10) (x := "_law_script") (st := K38.s_law) rfl rfl ⟨rfl, by decide, by decide⟩ (fun w h Y => PySem.W.kIn_of Y) (fun _ _ _ _ _ _ _ => rfl) ?F
  case F =>
    intro w mg h KX G
    have T_law_cell_at : L2.Top (L2.KOf KX) mg "_law_cell_at" K38.s_law_cell_at := by
      dsimp only [L2.KOf]
      refine' L2.Top.mk' KX G ?a ?l ?c ?k
      (case a => k_is); (case l => k_is); (case c => k_is); (case k => k_is)
    have T_queue_put : L2.Top (L2.KOf KX) mg "queue_put" K38.s_queue_put := by
      dsimp only [L2.KOf]
      refine' L2.Top.mk' KX G ?a ?l ?c ?k
      (case a => k_is); (case l => k_is); (case c => k_is); (case k => k_is)
    have T_moves : L2.Top (L2.KOf KX) mg "moves" K38.s_moves := by
      dsimp only [L2.KOf]
      refine' L2.Top.mk' KX G ?a ?l ?c ?k
      (case a => k_is); (case l => k_is); (case c => k_is); (case k => k_is)
    have T_room_put : L2.Top (L2.KOf KX) mg "room_put" K38.s_room_put := by
      dsimp only [L2.KOf]
      refine' L2.Top.mk' KX G ?a ?l ?c ?k
      (case a => k_is); (case l => k_is); (case c => k_is); (case k => k_is)
    have T_queue_take : L2.Top (L2.KOf KX) mg "queue_take" K38.s_queue_take := by
      dsimp only [L2.KOf]
      refine' L2.Top.mk' KX G ?a ?l ?c ?k
      (case a => k_is); (case l => k_is); (case c => k_is); (case k => k_is)
    have T_room_take : L2.Top (L2.KOf KX) mg "room_take" K38.s_room_take := by
      dsimp only [L2.KOf]
      refine' L2.Top.mk' KX G ?a ?l ?c ?k
      (case a => k_is); (case l => k_is); (case c => k_is); (case k => k_is)
    have T_put_first : L2.Top (L2.KOf KX) mg "put_first" K38.s_put_first := by
      dsimp only [L2.KOf]
      refine' L2.Top.mk' KX G ?a ?l ?c ?k
      (case a => k_is); (case l => k_is); (case c => k_is); (case k => k_is)
    have T_put_last : L2.Top (L2.KOf KX) mg "put_last" K38.s_put_last := by
      dsimp only [L2.KOf]
      refine' L2.Top.mk' KX G ?a ?l ?c ?k
      (case a => k_is); (case l => k_is); (case c => k_is); (case k => k_is)
    have T_take_near : L2.Top (L2.KOf KX) mg "take_near" K38.s_take_near := by
      dsimp only [L2.KOf]
      refine' L2.Top.mk' KX G ?a ?l ?c ?k
      (case a => k_is); (case l => k_is); (case c => k_is); (case k => k_is)
    have T_take_first : L2.Top (L2.KOf KX) mg "take_first" K38.s_take_first := by
      dsimp only [L2.KOf]
      refine' L2.Top.mk' KX G ?a ?l ?c ?k
      (case a => k_is); (case l => k_is); (case c => k_is); (case k => k_is)
    have T_take_last : L2.Top (L2.KOf KX) mg "take_last" K38.s_take_last := by
      dsimp only [L2.KOf]
      refine' L2.Top.mk' KX G ?a ?l ?c ?k
      (case a => k_is); (case l => k_is); (case c => k_is); (case k => k_is)
    have T_law_emptied : L2.Top (L2.KOf KX) mg "_law_emptied" K38.s_law_emptied := by
      dsimp only [L2.KOf]
      refine' L2.Top.mk' KX G ?a ?l ?c ?k
      (case a => k_is); (case l => k_is); (case c => k_is); (case k => k_is)
    have T_law_thing_by : L2.Top (L2.KOf KX) mg "_law_thing_by" K38.s_law_thing_by := by
      dsimp only [L2.KOf]
      refine' L2.Top.mk' KX G ?a ?l ?c ?k
      (case a => k_is); (case l => k_is); (case c => k_is); (case k => k_is)
    have T_queue_row : L2.Top (L2.KOf KX) mg "queue_row" K38.s_queue_row := by
      dsimp only [L2.KOf]
      refine' L2.Top.mk' KX G ?a ?l ?c ?k
      (case a => k_is); (case l => k_is); (case c => k_is); (case k => k_is)
    have T_double_row : L2.Top (L2.KOf KX) mg "double_row" K38.s_double_row := by
      dsimp only [L2.KOf]
      refine' L2.Top.mk' KX G ?a ?l ?c ?k
      (case a => k_is); (case l => k_is); (case c => k_is); (case k => k_is)
    have T_queue_credit : L2.Top (L2.KOf KX) mg "queue_credit" K38.s_queue_credit := by
      dsimp only [L2.KOf]
      refine' L2.Top.mk' KX G ?a ?l ?c ?k
      (case a => k_is); (case l => k_is); (case c => k_is); (case k => k_is)
    have T_double_credit : L2.Top (L2.KOf KX) mg "double_credit" K38.s_double_credit := by
      dsimp only [L2.KOf]
      refine' L2.Top.mk' KX G ?a ?l ?c ?k
      (case a => k_is); (case l => k_is); (case c => k_is); (case k => k_is)
    have T_room_credit : L2.Top (L2.KOf KX) mg "room_credit" K38.s_room_credit := by
      dsimp only [L2.KOf]
      refine' L2.Top.mk' KX G ?a ?l ?c ?k
      (case a => k_is); (case l => k_is); (case c => k_is); (case k => k_is)
    have T_law_bare : L2.Top (L2.KOf KX) mg "_law_bare" K38.s_law_bare := by
      dsimp only [L2.KOf]
      refine' L2.Top.mk' KX G ?a ?l ?c ?k
      (case a => k_is); (case l => k_is); (case c => k_is); (case k => k_is)
    have T_law_same : L2.Top (L2.KOf KX) mg "_law_same" K38.s_law_same := by
      dsimp only [L2.KOf]
      refine' L2.Top.mk' KX G ?a ?l ?c ?k
      (case a => k_is); (case l => k_is); (case c => k_is); (case k => k_is)
    have T_law_take : L2.Top (L2.KOf KX) mg "_law_take" K38.s_law_take := by
      dsimp only [L2.KOf]
      refine' L2.Top.mk' KX G ?a ?l ?c ?k
      (case a => k_is); (case l => k_is); (case c => k_is); (case k => k_is)
    have T_law_is_empty : L2.Top (L2.KOf KX) mg "_law_is_empty" K38.s_law_is_empty := by
      dsimp only [L2.KOf]
      refine' L2.Top.mk' KX G ?a ?l ?c ?k
      (case a => k_is); (case l => k_is); (case c => k_is); (case k => k_is)
    have T_law_refused : L2.Top (L2.KOf KX) mg "_law_refused" K38.s_law_refused := by
      dsimp only [L2.KOf]
      refine' L2.Top.mk' KX G ?a ?l ?c ?k
      (case a => k_is); (case l => k_is); (case c => k_is); (case k => k_is)
    have T_law : L2.Top (L2.KOf KX) mg "law" K38.s_law := by
      dsimp only [L2.KOf]
      refine' L2.Top.mk' KX G ?a ?l ?c ?k
      (case a => k_is); (case l => k_is); (case c => k_is); (case k => k_is)
    have z_ValueError : mg "ValueError" = none := by
      refine' PySem.W.mg_none_of KX G ?z
      (case z => k_is)
    have z_abs : mg "abs" = none := by
      refine' PySem.W.mg_none_of KX G ?z
      (case z => k_is)
    have z_all : mg "all" = none := by
      refine' PySem.W.mg_none_of KX G ?z
      (case z => k_is)
    have z_bool : mg "bool" = none := by
      refine' PySem.W.mg_none_of KX G ?z
      (case z => k_is)
    have z_isinstance : mg "isinstance" = none := by
      refine' PySem.W.mg_none_of KX G ?z
      (case z => k_is)
    have z_len : mg "len" = none := by
      refine' PySem.W.mg_none_of KX G ?z
      (case z => k_is)
    have z_list : mg "list" = none := by
      refine' PySem.W.mg_none_of KX G ?z
      (case z => k_is)
    have z_range : mg "range" = none := by
      refine' PySem.W.mg_none_of KX G ?z
      (case z => k_is)
    have z_reversed : mg "reversed" = none := by
      refine' PySem.W.mg_none_of KX G ?z
      (case z => k_is)
    have z_tuple : mg "tuple" = none := by
      refine' PySem.W.mg_none_of KX G ?z
      (case z => k_is)
    have z_zip : mg "zip" = none := by
      refine' PySem.W.mg_none_of KX G ?z
      (case z => k_is)
    have c_LEAST_SIZE : ∃ t, mg "LEAST_SIZE" = some (.int 4 t) := by
      have c1 : ∃ v, mg "LEAST_SIZE" = some v ∧ ∃ t, v = .int 4 t := by
        refine' ⟨_, PySem.W.mg_of KX G ?z, ?w⟩
        (case z => k_is)
        (case w => exact ⟨_, rfl⟩)
      obtain ⟨v, h1, t, h2⟩ := c1
      exact ⟨t, by rw [h1, h2]⟩
    have Z : K38.NoGl mg := by
      refine ⟨fun x hx => ?_, fun x i hx => ?_⟩
      · simp only [List.mem_cons, List.not_mem_nil, or_false] at hx
        rcases hx with rfl | rfl | rfl | rfl | rfl | rfl | rfl | rfl | rfl | rfl | rfl <;> assumption
      · simp only [List.mem_cons, List.not_mem_nil, or_false, Prod.mk.injEq] at hx
        obtain ⟨rfl, rfl⟩ := hx; assumption
    have NL : Mir.noLists (L2.KOf KX) = true := by
      dsimp only [L2.KOf]
      first | rfl | kernel_rfl | k_is
    have CFF : ∃ C_Empty C_NoName C_Mixed C_Lacking C_AtTop C_NoRow C_NoPlace C_NoNumber C_Overdrawn C_NotLess C_NoThing C_Twice C_CreditError, K38.CF (L2.KOf KX) mg C_Empty C_NoName C_Mixed C_Lacking C_AtTop C_NoRow C_NoPlace C_NoNumber C_Overdrawn C_NotLess C_NoThing C_Twice C_CreditError := by
      dsimp only [L2.KOf]
      refine' ⟨_, _, _, _, _, _, _, _, _, _, _, _, _, ⟨?x_Empty, PySem.W.mg_of KX G ?m_Empty, ⟨?k_Empty_0, ?k_Empty_1, ?k_Empty_2, ?k_Empty_3, ?k_Empty_4, ?k_Empty_5, ?k_Empty_6, ?k_Empty_7⟩, PySem.W.mg_of KX G ?m_NoName, ?i_Empty_NoName, PySem.W.mg_of KX G ?m_Mixed, ?i_Empty_Mixed, PySem.W.mg_of KX G ?m_Lacking, ?i_Empty_Lacking, PySem.W.mg_of KX G ?m_AtTop, ?i_Empty_AtTop, PySem.W.mg_of KX G ?m_NoRow, ?i_Empty_NoRow, PySem.W.mg_of KX G ?m_NoPlace, ?i_Empty_NoPlace, PySem.W.mg_of KX G ?m_NoNumber, ?i_Empty_NoNumber, PySem.W.mg_of KX G ?m_Overdrawn, ?i_Empty_Overdrawn, PySem.W.mg_of KX G ?m_NotLess, ?i_Empty_NotLess, PySem.W.mg_of KX G ?m_NoThing, ?i_Empty_NoThing, ?i_Empty_ValueError, ?i_Empty_Empty, PySem.W.mg_of KX G ?m_Twice, ?i_Empty_Twice, PySem.W.mg_of KX G ?m_CreditError, ?h_Empty_CreditError⟩⟩
      (case m_Empty => k_is)
      (case m_NoName => k_is)
      (case m_Mixed => k_is)
      (case m_Lacking => k_is)
      (case m_AtTop => k_is)
      (case m_NoRow => k_is)
      (case m_NoPlace => k_is)
      (case m_NoNumber => k_is)
      (case m_Overdrawn => k_is)
      (case m_NotLess => k_is)
      (case m_NoThing => k_is)
      (case m_Twice => k_is)
      (case m_CreditError => k_is)
      (case x_Empty => first | k_is | k_exc | rfl | kernel_rfl | decide +kernel)
      (case k_Empty_0 => first | k_is | k_exc | rfl | kernel_rfl | decide +kernel)
      (case k_Empty_1 => first | k_is | k_exc | rfl | kernel_rfl | decide +kernel)
      (case k_Empty_2 => first | k_is | k_exc | rfl | kernel_rfl | decide +kernel)
      (case k_Empty_3 => first | k_is | k_exc | rfl | kernel_rfl | decide +kernel)
      (case k_Empty_4 => first | k_is | k_exc | rfl | kernel_rfl | decide +kernel)
      (case k_Empty_5 => first | k_is | k_exc | rfl | kernel_rfl | decide +kernel)
      (case k_Empty_6 => first | k_is | k_exc | rfl | kernel_rfl | decide +kernel)
      (case k_Empty_7 => first | k_is | k_exc | rfl | kernel_rfl | decide +kernel)
      (case i_Empty_NoName => first | k_is | k_exc | rfl | kernel_rfl | decide +kernel)
      (case i_Empty_Mixed => first | k_is | k_exc | rfl | kernel_rfl | decide +kernel)
      (case i_Empty_Lacking => first | k_is | k_exc | rfl | kernel_rfl | decide +kernel)
      (case i_Empty_AtTop => first | k_is | k_exc | rfl | kernel_rfl | decide +kernel)
      (case i_Empty_NoRow => first | k_is | k_exc | rfl | kernel_rfl | decide +kernel)
      (case i_Empty_NoPlace => first | k_is | k_exc | rfl | kernel_rfl | decide +kernel)
      (case i_Empty_NoNumber => first | k_is | k_exc | rfl | kernel_rfl | decide +kernel)
      (case i_Empty_Overdrawn => first | k_is | k_exc | rfl | kernel_rfl | decide +kernel)
      (case i_Empty_NotLess => first | k_is | k_exc | rfl | kernel_rfl | decide +kernel)
      (case i_Empty_NoThing => first | k_is | k_exc | rfl | kernel_rfl | decide +kernel)
      (case i_Empty_ValueError => first | k_is | k_exc | rfl | kernel_rfl | decide +kernel)
      (case i_Empty_Empty => first | k_is | k_exc | rfl | kernel_rfl | decide +kernel)
      (case i_Empty_Twice => first | k_is | k_exc | rfl | kernel_rfl | decide +kernel)
      (case h_Empty_CreditError => first | k_is | k_exc | rfl | kernel_rfl | decide +kernel)
    obtain ⟨C_Empty, C_NoName, C_Mixed, C_Lacking, C_AtTop, C_NoRow, C_NoPlace, C_NoNumber, C_Overdrawn, C_NotLess, C_NoThing, C_Twice, C_CreditError, cf⟩ := CFF
    refine ⟨T_law, fun f fd Ff base kb gb => ?_⟩
    have D_law_cell_at := K38.ok_law_cell_at (P := PySem.Challenge.rw_creditworks_k38_empty_rows.prog) (w := w) (base := base) Z T_law_cell_at
    have D_queue_put := K38.ok_queue_put (P := PySem.Challenge.rw_creditworks_k38_empty_rows.prog) (w := w) (base := base) Z T_queue_put
    have D_moves := K38.ok_moves (P := PySem.Challenge.rw_creditworks_k38_empty_rows.prog) (w := w) (base := base) Z T_moves
    have D_room_put := K38.ok_room_put (P := PySem.Challenge.rw_creditworks_k38_empty_rows.prog) (w := w) (base := base) Z T_room_put D_moves
    have R_queue_take := K38.okx_queue_take (P := PySem.Challenge.rw_creditworks_k38_empty_rows.prog) (w := w) (base := base) Z T_queue_take cf
    have D_queue_take := K38.ok_queue_take (P := PySem.Challenge.rw_creditworks_k38_empty_rows.prog) (w := w) (base := base) Z T_queue_take
    have R_room_take := K38.okx_room_take (P := PySem.Challenge.rw_creditworks_k38_empty_rows.prog) (w := w) (base := base) Z T_room_take cf D_moves
    have D_room_take := K38.ok_room_take (P := PySem.Challenge.rw_creditworks_k38_empty_rows.prog) (w := w) (base := base) Z T_room_take D_moves
    have D_put_first := K38.ok_put_first (P := PySem.Challenge.rw_creditworks_k38_empty_rows.prog) (w := w) (base := base) Z T_put_first
    have D_put_last := K38.ok_put_last (P := PySem.Challenge.rw_creditworks_k38_empty_rows.prog) (w := w) (base := base) Z T_put_last
    have R_take_near := K38.okx_take_near (P := PySem.Challenge.rw_creditworks_k38_empty_rows.prog) (w := w) (base := base) Z T_take_near cf
    have D_take_near := K38.ok_take_near (P := PySem.Challenge.rw_creditworks_k38_empty_rows.prog) (w := w) (base := base) Z T_take_near
    have R_take_first := K38.okx_take_first (P := PySem.Challenge.rw_creditworks_k38_empty_rows.prog) (w := w) (base := base) Z T_take_first cf R_take_near
    have D_take_first := K38.ok_take_first (P := PySem.Challenge.rw_creditworks_k38_empty_rows.prog) (w := w) (base := base) Z T_take_first D_take_near
    have R_take_last := K38.okx_take_last (P := PySem.Challenge.rw_creditworks_k38_empty_rows.prog) (w := w) (base := base) Z T_take_last cf R_take_near
    have D_take_last := K38.ok_take_last (P := PySem.Challenge.rw_creditworks_k38_empty_rows.prog) (w := w) (base := base) Z T_take_last D_take_near
    have D_law_emptied := K38.ok_law_emptied (P := PySem.Challenge.rw_creditworks_k38_empty_rows.prog) (w := w) (base := base) Z T_law_emptied D_take_first D_take_last D_room_take D_queue_take D_put_first D_put_last D_room_put D_queue_put
    have D_law_thing_by := K38.ok_law_thing_by (P := PySem.Challenge.rw_creditworks_k38_empty_rows.prog) (w := w) (base := base) Z T_law_thing_by
    have D_queue_row := K38.ok_queue_row (P := PySem.Challenge.rw_creditworks_k38_empty_rows.prog) (w := w) (base := base) Z T_queue_row
    have D_double_row := K38.ok_double_row (P := PySem.Challenge.rw_creditworks_k38_empty_rows.prog) (w := w) (base := base) Z T_double_row
    have D_queue_credit := K38.ok_queue_credit (P := PySem.Challenge.rw_creditworks_k38_empty_rows.prog) (w := w) (base := base) Z T_queue_credit
    have D_double_credit := K38.ok_double_credit (P := PySem.Challenge.rw_creditworks_k38_empty_rows.prog) (w := w) (base := base) Z T_double_credit
    have D_room_credit := K38.ok_room_credit (P := PySem.Challenge.rw_creditworks_k38_empty_rows.prog) (w := w) (base := base) Z T_room_credit
    have D_law_bare := K38.ok_law_bare (P := PySem.Challenge.rw_creditworks_k38_empty_rows.prog) (w := w) (base := base) Z T_law_bare D_room_credit D_double_credit D_queue_credit D_double_row D_queue_row
    have D_law_same := K38.ok_law_same (P := PySem.Challenge.rw_creditworks_k38_empty_rows.prog) (w := w) (base := base) Z T_law_same  8
    have R_law_take := K38.okx_law_take (P := PySem.Challenge.rw_creditworks_k38_empty_rows.prog) (w := w) (base := base) Z T_law_take cf R_room_take R_take_last R_take_first R_queue_take
    have DG_law_is_empty := K38.okg_law_is_empty (P := PySem.Challenge.rw_creditworks_k38_empty_rows.prog) (w := w) (base := base) Z T_law_is_empty cf
    have D_law_refused := K38.ok_law_refused (P := PySem.Challenge.rw_creditworks_k38_empty_rows.prog) (w := w) (base := base) Z T_law_refused cf R_law_take DG_law_is_empty
    exact K38.ok_law NL Z Ff D_law_bare D_law_same D_take_last D_take_first D_room_take D_queue_take D_put_last D_put_first D_room_put D_queue_put D_law_refused D_law_thing_by D_law_cell_at D_law_emptied

