import PyProof.Rows.All
import Wide.All
import OpenK.AllK
import Wide.FinOn
import Lean
import PyProof.EqAt
import PyProof.EqKinds
import PyProof.TupleCall
import KE.KTryMore
import KE.KDictLaws
import KE.KDictList
import PyProof.Rows.SetFrom
import PySem.Challenge.RW_creditworks_k49_whole_groups_and_prices

set_option Elab.async false
set_option linter.all false
set_option maxRecDepth 100000
namespace L2
open PySem PySem.Spec PyProof.Rows
abbrev Key := Sum Int Str
def keyIs : Key → Value → Bool
  | .inl k, v => Value.isInt k v
  | .inr x, v => Value.isStrOf x v
def keyH (w : World) : Key → Int
  | .inl k => hashInt k
  | .inr x => hashStr w x
theorem keyIs_shape : ∀ {k : Key} {v : Value}, keyIs k v = true → (∃ i t, k = Sum.inl i ∧ v = Value.int i t) ∨ (∃ x t, k = Sum.inr x ∧ v = Value.str x t)
  | .inl i, v, h => by
    obtain ⟨t, e⟩ := Value.isInt_shape (k := i) (v := v) h
    exact .inl ⟨i, t, rfl, e⟩
  | .inr x, v, h => by
    obtain ⟨t, e⟩ := Value.isStrOf_shape (x := x) (v := v) h
    exact .inr ⟨x, t, rfl, e⟩
theorem keyIs_int (i : Int) (t : Tok) : keyIs (.inl i) (.int i t) = true := by simp [keyIs, Value.isInt]
theorem keyIs_str (x : Str) (t : Tok) : keyIs (.inr x) (.str x t) = true := by simp [keyIs, Value.isStrOf]
theorem key_ll (a b : Int) : decide ((Sum.inl a : Key) = Sum.inl b) = (a == b) := by
  by_cases e : a = b
  · subst e; simp
  · have h : ¬ (Sum.inl a : Key) = Sum.inl b := fun q => e (Sum.inl.inj q)
    rw [decide_eq_false h]
    exact (beq_eq_false_iff_ne.mpr e).symm
theorem key_rr (a b : Str) : decide ((Sum.inr a : Key) = Sum.inr b) = decide (a = b) := by
  by_cases e : a = b
  · subst e; simp
  · have h : ¬ (Sum.inr a : Key) = Sum.inr b := fun q => e (Sum.inr.inj q)
    rw [decide_eq_false h, decide_eq_false e]
theorem key_lr (a : Int) (b : Str) : decide ((Sum.inl a : Key) = Sum.inr b) = false := decide_eq_false (fun q => nomatch q)
theorem key_rl (a : Str) (b : Int) : decide ((Sum.inr a : Key) = Sum.inl b) = false := decide_eq_false (fun q => nomatch q)
def mixKind (prog : Program) (w : World) : PySem.KeyKind prog w Key where
  is := keyIs
  hash := keyH w
  inj := fun v a b ha hb => by
    rcases keyIs_shape ha with ⟨i, t, rfl, rfl⟩ | ⟨x, t, rfl, rfl⟩
    · rcases keyIs_shape hb with ⟨j, u, rfl, e⟩ | ⟨y, u, rfl, e⟩
      · injection e with e1 _; rw [e1]
      · exact nomatch e
    · rcases keyIs_shape hb with ⟨j, u, rfl, e⟩ | ⟨y, u, rfl, e⟩
      · exact nomatch e
      · injection e with e1 _; rw [e1]
  byValue := fun k v h => by
    rcases keyIs_shape h with ⟨i, t, rfl, rfl⟩ | ⟨x, t, rfl, rfl⟩ <;> rfl
  pyHash := fun hv h => by
    rcases keyIs_shape hv with ⟨i, t, rfl, rfl⟩ | ⟨x, t, rfl, rfl⟩
    · exact wpAny_pyHash_int h
    · exact wpAny_pyHash_str h
  eqBool := fun hu hv h => by
    rcases keyIs_shape hu with ⟨i, t, rfl, rfl⟩ | ⟨x, t, rfl, rfl⟩
    · rcases keyIs_shape hv with ⟨j, u, rfl, rfl⟩ | ⟨y, u, rfl, rfl⟩
      · rw [key_ll] at h; exact wpAny_eqBool_int h
      · rw [key_lr] at h; exact SeqAt.EqAt.int_str i t y u _ _ _ _ h
    · rcases keyIs_shape hv with ⟨j, u, rfl, rfl⟩ | ⟨y, u, rfl, rfl⟩
      · rw [key_rl] at h; exact SeqAt.EqAt.str_int x t j u _ _ _ _ h
      · rw [key_rr] at h; exact wpAny_eqBool_str h
  «strs» := fun k x t v h => by
    rcases keyIs_shape h with ⟨i, u, rfl, e⟩ | ⟨y, u, rfl, e⟩
    · exact nomatch e
    · injection e with e1 _
      subst e1
      cases v <;> rfl
theorem mixKind_int (prog : Program) (w : World) (i : Int) (t : Tok) : (mixKind prog w).is (.inl i) (.int i t) = true := keyIs_int i t
theorem mixKind_str (prog : Program) (w : World) (x : Str) (t : Tok) : (mixKind prog w).is (.inr x) (.str x t) = true := keyIs_str x t
end L2
namespace L2
open PySem PySem.Spec PyProof.Rows
inductive V where
  | non | bl (b : Bool) | int (i : Int) | str (x : Str) | byt (b : Array UInt8) | flt (b : UInt64) | ref (a : Addr) | ty (n : String)
  deriving DecidableEq
def RelV : V → Value → Prop
  | .non, u => u = Value.none
  | .bl b, u => u = Value.bool b
  | .int i, u => ∃ t, u = Value.int i t
  | .str x, u => ∃ t, u = Value.str x t
  | .byt b, u => ∃ t, u = Value.bytes b t
  | .flt b, u => ∃ t, u = Value.float b t
  | .ref a, u => u = Value.ref a
  | .ty n, u => u = Value.type n
abbrev Vals : List V → List Value → Prop := Paired RelV
theorem Vals.length {xs : List V} {us : List Value} (r : Vals xs us) : xs.length = us.length := Paired.length r
theorem Vals.get : ∀ {xs : List V} {us : List Value} {i : Nat} {x : V}, Vals xs us → xs[i]? = some x → ∃ u, us[i]? = some u ∧ RelV x u
  | _, _, _, _, .nil, e => by simp at e
  | _, _, 0, _, .cons r _, e => by simp at e; subst e; exact ⟨_, rfl, r⟩
  | _, _, i + 1, x, .cons _ t, e => by
    obtain ⟨u, h1, h2⟩ := Vals.get (i := i) (x := x) t (by simpa using e)
    exact ⟨u, by simpa using h1, h2⟩
theorem Vals.set {x : V} {u : Value} (r : RelV x u) : ∀ {xs : List V} {us : List Value} (i : Nat), Vals xs us → Vals (xs.set i x) (us.set i u)
  | _, _, _, .nil => .nil
  | _, _, 0, .cons _ t => .cons r t
  | _, _, i + 1, .cons q t => .cons q (Vals.set r i t)
theorem Vals.append : ∀ {xs ys : List V} {us ws : List Value}, Vals xs us → Vals ys ws → Vals (xs ++ ys) (us ++ ws)
  | _, _, _, _, .nil, s => s
  | _, _, _, _, .cons r t, s => .cons r (Vals.append t s)
theorem Vals.take : ∀ {xs : List V} {us : List Value} (n : Nat), Vals xs us → Vals (xs.take n) (us.take n)
  | _, _, 0, _ => .nil
  | _, _, _ + 1, .nil => .nil
  | _, _, n + 1, .cons r t => .cons r (Vals.take n t)
theorem Vals.drop : ∀ {xs : List V} {us : List Value} (n : Nat), Vals xs us → Vals (xs.drop n) (us.drop n)
  | _, _, 0, r => r
  | _, _, _ + 1, .nil => .nil
  | _, _, n + 1, .cons _ t => Vals.drop n t
theorem Vals.none_of : ∀ {xs : List V} {us : List Value} {i : Nat}, Vals xs us → xs[i]? = none → us[i]? = none := fun {xs us i} r e => by
  have h1 := r.length
  have h2 : xs.length ≤ i := List.getElem?_eq_none_iff.mp e
  exact List.getElem?_eq_none_iff.mpr (by omega)
def RelO : Option V → Option Value → Prop
  | some v, some u => RelV v u
  | none, none => True
  | _, _ => False
def KV {κ : Type} : List (κ × V) → List (κ × Value) → Prop := Paired fun (p : κ × V) (q : κ × Value) => p.1 = q.1 ∧ RelV p.2 q.2
def kV : Key → V
  | .inl i => .int i
  | .inr x => .str x
inductive HO where
  | lst (xs : List V)
  | tup (xs : List V)
  | dK (kvs : List (Key × V)) | dT (kvs : List (List Key × V))
  | set (S : Int → Bool) (n : Nat)
  | ins (C dx : Addr) (fs : List (Str × V))
  | own (x : Addr)
  | xd (fs : List (Str × V))
  | met (f x : Addr)
  | rng (lo hi : Int)
  | frz (o : Obj) (u : HO)
  | tbl (ps : Array Value)
  | ext (φ : Heap → Prop)
abbrev Hp := Addr → Option HO
def upd (H : Hp) (a : Addr) (o : HO) : Hp := fun b => if b = a then some o else H b
theorem upd_same {H : Hp} {a : Addr} {o : HO} : upd H a o a = some o := by unfold upd; rw [if_pos rfl]
theorem upd_ne {H : Hp} {a b : Addr} {o : HO} (h : b ≠ a) : upd H a o b = H b := by unfold upd; rw [if_neg h]
theorem ne_of_none {H : Hp} {a b : Addr} {o : HO} (h : H a = some o) (h' : H b = none) : a ≠ b := by
  intro e; subst e; rw [h] at h'; cases h'
section
variable (P : Program) (w : World)
def ObjOk (H : Hp) (h : Heap) (a : Addr) : HO → Prop
  | .lst xs => xs.length ≤ sizeLine ∧ ∃ (its : List Value) (n : Nat), Vals xs its ∧ h.get? a = some { cls := .type "list", data := .seq its.toArray n }
  | .tup xs => xs.length ≤ sizeLine ∧ ∃ its : List Value, Vals xs its ∧ IsTup h a its.toArray
  | .dK kvs => kvs.length ≤ sizeLine ∧ (a == sysModules) = false ∧ ∃ vs, KV kvs vs ∧ h.DictOf (mixKind P w) a vs
  | .dT kvs => kvs.length ≤ sizeLine ∧ (a == sysModules) = false ∧ ∃ xs : List (List Key × Addr × Value),
      Paired (fun (p : List Key × V) (q : List Key × Addr × Value) => p.1 = q.1 ∧ H q.2.1 = some (.tup (p.1.map kV)) ∧ RelV p.2 q.2.2) kvs xs ∧
      ∃ o es ep, h.get? a = some o ∧ o.ExactDict ∧ o.data = .dict es ep ∧ es.toList = xs.map (entryOfKey (tupleKind (mixKind P w))) ∧ (xs.map (·.1)).Nodup
  | .set S n => h.SetOf (intKind P w) a S n
  | .ins C dx fs => H dx = some (.own a) ∧ fs.length ≤ 1000 ∧ dx ≠ a ∧ h.get? a = some (PySem.W.instObj C dx) ∧
      ∃ mA, h.Ns1 dx mA ∧ (∀ f, RelO (fs.lookup f) (mA f)) ∧ PySem.Within mA (fs.map (·.1))
  | .own _ => ∃ o, h.get? a = some o
  | .xd fs => ∃ mA, h.Ns1 a mA ∧ ∀ f, RelO (fs.lookup f) (mA f)
  | .rng lo hi => ∃ t u v, h.get? a = some { cls := .type "range", data := .fields #[.int lo t, .int hi u, .int 1 v] }
  | .frz o u => h.get? a = some o ∧ ObjOk H h a u
  | .tbl ps => h.get? a = some { cls := .none, data := .fields ps }
  | .met f x => h.get? a = some (PySem.W.methodObj (.ref f) (.ref x))
  | .ext φ => φ h ∧ (∃ o, h.get? a = some o) ∧ ∀ h1 h2 : Heap, φ h1 → (∀ o, h1.get? a = some o → h2.get? a = some o) → φ h2
def HOk (H : Hp) (h : Heap) : Prop := ∀ a o, H a = some o → ObjOk P w H h a o
end
section
variable {P : Program} {w : World} {H H' : Hp} {h h' : Heap} {a : Addr} {o : HO}
theorem ObjOk.lt (x : ObjOk P w H h a o) : a < h.objs.size := by
  cases o with
  | lst xs => obtain ⟨_, _, _, _, e⟩ := x; exact Heap.lt_size e
  | tup xs => obtain ⟨_, _, _, p⟩ := x; exact p.lt
  | dK kvs => obtain ⟨_, _, _, _, o, _, _, e, _⟩ := x; exact Heap.lt_size e
  | dT kvs => obtain ⟨_, _, _, _, o, _, _, e, _⟩ := x; exact Heap.lt_size e
  | set S n => obtain ⟨o, _, _, _, e, _⟩ := x; exact Heap.lt_size e
  | ins C dx fs => obtain ⟨_, _, _, e, _⟩ := x; exact Heap.lt_size e
  | own y => obtain ⟨_, e⟩ := x; exact Heap.lt_size e
  | xd fs => obtain ⟨_, ⟨_, _, _, e, _⟩, _⟩ := x; exact Heap.lt_size e
  | rng lo hi => obtain ⟨_, _, _, e⟩ := x; exact Heap.lt_size e
  | frz ob u => obtain ⟨e, _⟩ := x; exact Heap.lt_size e
  | tbl ps => exact Heap.lt_size (show h.get? a = some _ from x)
  | met f y => exact Heap.lt_size (show h.get? a = some _ from x)
  | ext φ => obtain ⟨_, ⟨_, e⟩, _⟩ := x; exact Heap.lt_size e
theorem Paired.mapP {α β : Type} {F G : α → β → Prop} : ∀ {l₁ : List α} {l₂ : List β}, Paired F l₁ l₂ → (∀ a b, F a b → G a b) → Paired G l₁ l₂
  | _, _, .nil, _ => .nil
  | _, _, .cons r t, f => .cons (f _ _ r) (Paired.mapP t f)
theorem ObjOk.stay (x : ObjOk P w H h a o) (k : ∀ b u, (b = a ∨ H b = some (.own a)) → h.get? b = some u → h'.get? b = some u)
    (ho : ∀ b, H b = some (.own a) → H' b = some (.own a)) (ht : ∀ b xs, H b = some (.tup xs) → H' b = some (.tup xs)) : ObjOk P w H' h' a o := by
  induction o with
  | lst xs => obtain ⟨z, its, n, r, e⟩ := x; exact ⟨z, its, n, r, k _ _ (.inl rfl) e⟩
  | tup xs => obtain ⟨z, its, r, ob, e, c⟩ := x; exact ⟨z, its, r, ob, k _ _ (.inl rfl) e, c⟩
  | dK kvs => obtain ⟨z, y, vs, r, ob, es, ep, e, c⟩ := x; exact ⟨z, y, vs, r, ob, es, ep, k _ _ (.inl rfl) e, c⟩
  | dT kvs =>
    obtain ⟨z, y, xs, r, ob, es, ep, e, c⟩ := x
    exact ⟨z, y, xs, Paired.mapP r fun p q z => ⟨z.1, ht _ _ z.2.1, z.2.2⟩, ob, es, ep, k _ _ (.inl rfl) e, c⟩
  | set S n => obtain ⟨ob, es, ep, t, e, c⟩ := x; exact ⟨ob, es, ep, t, k _ _ (.inl rfl) e, c⟩
  | ins C dx fs =>
    obtain ⟨d, z, ne, e, mA, ⟨od, es, ep, e2, c⟩, r⟩ := x
    exact ⟨ho _ d, z, ne, k _ _ (.inl rfl) e, mA, ⟨od, es, ep, k _ _ (.inr d) e2, c⟩, r⟩
  | own y => obtain ⟨ob, e⟩ := x; exact ⟨ob, k _ _ (.inl rfl) e⟩
  | xd fs => obtain ⟨mA, ⟨od, es, ep, e, c⟩, r⟩ := x; exact ⟨mA, ⟨od, es, ep, k _ _ (.inl rfl) e, c⟩, r⟩
  | rng lo hi => obtain ⟨t, u, v, e⟩ := x; exact ⟨t, u, v, k _ _ (.inl rfl) e⟩
  | frz ob u ih => obtain ⟨e, q⟩ := x; exact ⟨k _ _ (.inl rfl) e, ih q⟩
  | tbl ps =>
    have e : h.get? a = some { cls := .none, data := .fields ps } := x
    show h'.get? a = some { cls := .none, data := .fields ps }
    exact k a _ (.inl rfl) e
  | met f y =>
    have e : h.get? a = some (PySem.W.methodObj (.ref f) (.ref y)) := x
    show h'.get? a = some (PySem.W.methodObj (.ref f) (.ref y))
    exact k a _ (.inl rfl) e
  | ext φ => obtain ⟨p, ⟨o, e⟩, st⟩ := x; exact ⟨st _ _ p fun o q => k _ _ (.inl rfl) q, ⟨o, k _ _ (.inl rfl) e⟩, st⟩
theorem HOk.lt (x : HOk P w H h) (e : H a = some o) : a < h.objs.size := (x a o e).lt
theorem HOk.fresh (x : HOk P w H h) (e : h.objs.size ≤ a) : H a = none := by
  cases q : H a with
  | none => rfl
  | some u => exact absurd (Nat.lt_of_lt_of_le (x.lt q) e) (Nat.lt_irrefl _)
theorem HOk.kept (x : HOk P w H h) (k : ∀ b u, h.get? b = some u → h'.get? b = some u) : HOk P w H h' := fun a o e =>
  (x a o e).stay (fun b u _ q => k b u q) (fun _ q => q) fun _ _ q => q
theorem HOk.laid (x : HOk P w H h) (k : ∀ b u, h.get? b = some u → h'.get? b = some u) (hp : h.objs.size ≤ a) (new : ObjOk P w (upd H a o) h' a o) : HOk P w (upd H a o) h' := fun b u e => by
  have hn := x.fresh hp
  by_cases hb : b = a
  · subst hb; rw [upd_same] at e; cases e; exact new
  · rw [upd_ne hb] at e
    exact (x b u e).stay (fun c v _ q => k c v q) (fun c q => by rw [upd_ne (ne_of_none q hn)]; exact q) fun c xs q => by rw [upd_ne (ne_of_none q hn)]; exact q
end
def Rd (H : Hp) (a : Addr) (u : HO) : Prop := H a = some u ∨ ∃ o, H a = some (.frz o u)
theorem Rd.of {H : Hp} {a : Addr} {u : HO} (h : H a = some u) : Rd H a u := .inl h
theorem Rd.ok {P : Program} {w : World} {H : Hp} {h : Heap} {a : Addr} {u : HO} (r : Rd H a u) (x : HOk P w H h) : ObjOk P w H h a u := by
  rcases r with r | ⟨o, r⟩
  · exact x a u r
  · obtain ⟨_, q⟩ := x a _ r
    exact q
def Mut : Option HO → Prop
  | some (.lst _) => True
  | some (.dK _) => True
  | some (.dT _) => True
  | some (.set _ _) => True
  | some (.ins _ _ _) => True
  | some (.ext _) => True
  | _ => False
section
variable {P : Program} {w : World} {H : Hp} {h h' : Heap} {x e : Addr} {o' : HO}
theorem HOk.write (ok : HOk P w H h) (mu : Mut (H x)) (he : e = x ∨ H e = some (.own x)) (k : ∀ b u, b ≠ e → h.get? b = some u → h'.get? b = some u) (heo : ∃ u, h'.get? e = some u)
    (new : ObjOk P w (upd H x o') h' x o') : HOk P w (upd H x o') h' := fun b u q => by
  have nown : ∀ c y, H c = some (.own y) → c ≠ x := fun c y r z => by subst z; rw [r] at mu; exact mu
  have ntup : ∀ c xs, H c = some (.tup xs) → c ≠ x := fun c xs r z => by subst z; rw [r] at mu; exact mu
  by_cases hb : b = x
  · subst hb; rw [upd_same] at q; cases q; exact new
  · rw [upd_ne hb] at q
    by_cases hbe : b = e
    · have q' : H b = some (.own x) := by
        rcases he with z | z
        · exact absurd (hbe.trans z) hb
        · rw [hbe]; exact z
      rw [q] at q'; cases q'
      obtain ⟨v, hv⟩ := heo
      exact ⟨v, by rw [hbe]; exact hv⟩
    · refine (ok b u q).stay (fun c v hc r => k c v ?_ r) (fun c r => by rw [upd_ne (nown c b r)]; exact r) fun c xs r => by rw [upd_ne (ntup c xs r)]; exact r
      rcases hc with rfl | hc
      · exact hbe
      · rintro rfl
        rcases he with z | z
        · exact nown c b hc z
        · rw [hc] at z; cases z; exact hb rfl
end
structure Un (fs ex : List Addr) (H H' : Hp) (h h' : Heap) : Prop where
  keep : ∀ b o, h.get? b = some o → H b = none → b ∉ fs → b ∉ ex → h'.get? b = some o
  slot : ∀ b o, h.get? b = some o → H b = none → b ∈ fs → b ∉ ex → ∃ sl, h'.get? b = some { o with slots := sl }
  free : ∀ b o, h.get? b = some o → H b = none → b ∉ ex → H' b = none
  there : ∀ b o, h.get? b = some o → b ∉ ex → ∃ o', h'.get? b = some o'
  tups : ∀ b xs, H b = some (.tup xs) → H' b = some (.tup xs)
  frzs : ∀ b o u, H b = some (.frz o u) → H' b = some (.frz o u)
  tbls : ∀ b ps, H b = some (.tbl ps) → ∃ more, H' b = some (.tbl (ps ++ more))
section
variable {fs fs' ex ex' : List Addr} {H H1 H2 : Hp} {h h1 h2 h' : Heap} {a x e : Addr} {o : HO}
theorem Un.any (u : Un fs ex H H1 h h1) {b : Addr} {ob : Obj} (q : h.get? b = some ob) (n : H b = none) (hx : b ∉ ex) : ∃ sl, h1.get? b = some { ob with slots := sl } := by
  by_cases hb : b ∈ fs
  · exact u.slot b ob q n hb hx
  · exact ⟨ob.slots, u.keep b ob q n hb hx⟩
theorem Un.trans (a : Un fs ex H H1 h h1) (b : Un fs ex H1 H2 h1 h2) : Un fs ex H H2 h h2 where
  keep := fun c ob q n hc hx => b.keep c ob (a.keep c ob q n hc hx) (a.free c ob q n hx) hc hx
  slot := fun c ob q n hc hx => by
    obtain ⟨sl, e1⟩ := a.slot c ob q n hc hx
    obtain ⟨sl', e2⟩ := b.slot c _ e1 (a.free c ob q n hx) hc hx
    exact ⟨sl', e2⟩
  free := fun c ob q n hx => by
    obtain ⟨o', e1⟩ := a.there c ob q hx
    exact b.free c o' e1 (a.free c ob q n hx) hx
  there := fun c ob q hx => by
    obtain ⟨o', e1⟩ := a.there c ob q hx
    exact b.there c o' e1 hx
  tups := fun c xs q => b.tups c xs (a.tups c xs q)
  frzs := fun c ob xs q => b.frzs c ob xs (a.frzs c ob xs q)
  tbls := fun c ps q => by
    obtain ⟨m1, e1⟩ := a.tbls c ps q
    obtain ⟨m2, e2⟩ := b.tbls c _ e1
    exact ⟨m1 ++ m2, by rw [e2, Array.append_assoc]⟩
theorem Un.kept (k : ∀ b u, h.get? b = some u → h'.get? b = some u) : Un fs ex H H h h' :=
  ⟨fun b ob q _ _ _ => k b ob q, fun b ob q _ _ _ => ⟨ob.slots, k b ob q⟩, fun _ _ _ n _ => n, fun b ob q _ => ⟨ob, k b ob q⟩, fun _ _ q => q, fun _ _ _ q => q, fun _ ps q => ⟨#[], by rw [q]; simp⟩⟩
theorem Un.refl : Un fs ex H H h h := Un.kept fun _ _ q => q
theorem Un.laid (k : ∀ b u, h.get? b = some u → h'.get? b = some u) (hp : h.objs.size ≤ a) (hn : H a = none) : Un fs ex H (upd H a o) h h' where
  keep := fun b u q _ _ _ => k b u q
  slot := fun b u q _ _ _ => ⟨u.slots, k b u q⟩
  free := fun b u q n _ => by rw [upd_ne (Nat.ne_of_lt (Nat.lt_of_lt_of_le (Heap.lt_size q) hp))]; exact n
  there := fun b u q _ => ⟨u, k b u q⟩
  tups := fun b xs q => by rw [upd_ne (ne_of_none q hn)]; exact q
  frzs := fun b u xs q => by rw [upd_ne (ne_of_none q hn)]; exact q
  tbls := fun b ps q => ⟨#[], by rw [upd_ne (ne_of_none q hn), q]; simp⟩
theorem Un.write (mu : Mut (H x)) (he : e = x ∨ H e = some (.own x)) (k : ∀ b u, b ≠ e → h.get? b = some u → h'.get? b = some u) (heo : ∃ u, h'.get? e = some u) : Un fs ex H (upd H x o) h h' := by
  have hx : ∀ b, H b = none → b ≠ x := fun b n z => by subst z; rw [n] at mu; exact mu
  have hb : ∀ b, H b = none → b ≠ e := fun b n z => by
    subst z
    rcases he with r | r
    · exact hx b n r
    · rw [n] at r; cases r
  have hm : ∀ b u, H b = some u → ¬ Mut (some u) → b ≠ x := fun b u q nm z => by subst z; rw [q] at mu; exact nm mu
  refine ⟨fun b u q n _ _ => k b u (hb b n) q, fun b u q n _ _ => ⟨u.slots, k b u (hb b n) q⟩, fun b u q n _ => by rw [upd_ne (hx b n)]; exact n, fun b u q _ => ?_,
    fun b xs q => by rw [upd_ne (hm b _ q fun z => z)]; exact q, fun b u xs q => by rw [upd_ne (hm b _ q fun z => z)]; exact q, fun b ps q => ⟨#[], by rw [upd_ne (hm b _ q fun z => z), q]; simp⟩⟩
  by_cases hbe : b = e
  · subst hbe; exact heo
  · exact ⟨u, k b u hbe q⟩
theorem Un.mono (u : Un fs ex H H1 h h1) (hs : ∀ b ∈ fs, b ∈ fs') (hx : ∀ b ∈ ex, b ∈ ex') : Un fs' ex' H H1 h h1 :=
  ⟨fun b ob q n hb he => u.keep b ob q n (fun z => hb (hs b z)) fun z => he (hx b z), fun _ _ q n _ he => u.any q n fun z => he (hx _ z), fun b ob q n he => u.free b ob q n fun z => he (hx b z), fun b ob q he => u.there b ob q fun z => he (hx b z), u.tups, u.frzs, u.tbls⟩
end
def trk (h : Heap) (H : Hp) : List Addr := (List.range h.objs.size).filter fun a => (H a).isSome
def hidT (h : Heap) (H : Hp) : Heap := PySem.W.hideAll h (trk h H)
theorem hidT_size (h : Heap) (H : Hp) : (hidT h H).objs.size = h.objs.size := PySem.W.hideAll_size _ _
theorem hidT_get {h : Heap} {H : Hp} {b : Addr} {o : Obj} (e : h.get? b = some o) (n : H b = none) : (hidT h H).get? b = some o :=
  PySem.W.hideAll_get _ e fun hm => by
    have q : (H b).isSome = true := (List.mem_filter.mp hm).2
    rw [n] at q; simp at q
theorem of_hidT {h : Heap} {H : Hp} {b : Addr} {o : Obj} (e : (hidT h H).get? b = some o) : h.get? b = some o ∧ H b = none := by
  have e' : h.get? b = some o := PySem.W.of_hideAll (trk h H) e
  refine ⟨e', ?_⟩
  cases q : H b with
  | none => rfl
  | some x =>
    have hm : b ∈ trk h H := List.mem_filter.mpr ⟨List.mem_range.mpr (Heap.lt_size e'), by simp [q]⟩
    have z : (hidT h H).get? b = none := PySem.W.hideAll_none (trk h H) hm
    rw [z] at e; cases e
def allNews (g h : Heap) (L : Addr) : List (Addr × Obj) := (List.range h.objs.size).filterMap fun a => if a = L ∨ (g.get? a).isSome = true then none else (h.get? a).map fun o => (a, o)
def rest (g h : Heap) (L d : Addr) : List (Addr × Obj) := (allNews g h L).filter fun p => decide (p.1 ≠ d)
end L2
namespace L2
open PySem PySem.Spec PyProof.Rows
structure Mod (K : PySem.W.Frag) (mg : Str → Option Value) (base : Heap) : Prop where
  kin : K.In base
  glob : base.Ns mainGlobals mg
  blt : ∃ mb, base.Ns builtinsNs mb ∧ ∀ x : Str, x ≠ "__name__" → mb x = bootBuiltins x
  nolimit : base.NoLimit
structure Cx where
  prog : Program
  w : World
  K : PySem.W.Frag
  mg : Str → Option Value
  base : Heap
  A : Around
  N : List Str
  s₀ : Shared
  H₀ : Hp
  env : Env
  outer : List Env
  stack : List Env
  ex : List Addr
  fn : Str → Bool
  calm : Bool
  pn : List (Addr × Obj)
  xe : Value → Shared → Prop
def frs (l : List Env) : List Addr := l.filterMap (·.frame)
abbrev Cx.fs (X : Cx) : List Addr := frs X.outer
def Vis (sc : Scope) (x : Str) : Prop := sc.names.lookup x = some .local ∨ sc.names.lookup x = some .cell ∨ sc.names.lookup x = some .free
def Loc (sc : Scope) (x : Str) : Prop := sc.names.lookup x = some .local ∨ sc.names.lookup x = some .cell
def Look (env : Env) (h : Heap) (m : Str → Option Value) (x : Str) (u : Value) : Prop :=
  (env.kindOf x = some .local ∧ m x = some u) ∨ ((env.kindOf x = some .cell ∨ env.kindOf x = some .free) ∧ ∃ c, env.cells.lookup x = some c ∧ h.IsCell c (some u))
structure Cx.Ok (X : Cx) : Prop where
  mod : Mod X.K X.mg X.base
  kind : X.env.scope.kind = .function
  glob : X.env.globals = mainGlobals
  blt : X.env.builtins = builtinsNs
  above : X.s₀.heap.objs.size ≤ X.env.locals
  inj : ∀ x y c, X.env.cells.lookup x = some c → X.env.cells.lookup y = some c → x = y
  has : ∀ x, (X.env.kindOf x = some .cell ∨ X.env.kindOf x = some .free) → ∃ c, X.env.cells.lookup x = some c
  cab : ∀ x c, X.fn x = true → X.env.cells.lookup x = some c → X.s₀.heap.objs.size ≤ c
  hd : X.calm = true → X.A.handled = none
  frames : X.A.frames = some X.stack
  stk : X.stack = X.outer ∨ (X.stack = X.env :: X.outer ∧ X.env.frame = some X.env.locals)
  exf : ∀ b ∈ X.ex, b ≠ X.env.locals ∧ ∀ x c, X.env.cells.lookup x = some c → c ≠ b
  bs : ∀ b o, X.base.get? b = some o → X.s₀.heap.get? b = some o ∧ X.H₀ b = none
  bsz : X.base.objs.size ≤ X.s₀.heap.objs.size
  noex : ∀ b o, X.base.get? b = some o → b ∉ X.ex
  exfs : ∀ b ∈ X.ex, b ∉ X.fs
  funs : X.s₀.heap.FunFrames X.base X.outer
  frf : ∀ b ∈ X.fs, X.H₀ b = none
structure Inv (X : Cx) (pins : List (Addr × Obj)) (σ : List (Option V)) (H : Hp) (s : Shared) : Prop where
  ok : X.Ok
  os : s.os = X.s₀.os
  bare : AllBare s.gens
  base : Un X.fs X.ex X.H₀ H X.s₀.heap s.heap
  loc : ∃ m, s.heap.Ns X.env.locals m ∧ ∀ (i : Nat) (x : Str) (v : V), X.N[i]? = some x → σ[i]? = some (some v) → Vis X.env.scope x → ∃ u, RelV v u ∧ Look X.env s.heap m x u
  cell : ∀ x c, X.env.cells.lookup x = some c → ∃ v, s.heap.IsCell c v
  free : H X.env.locals = none
  freeC : ∀ x c, X.env.cells.lookup x = some c → H c = none
  pin : ∀ p ∈ X.pn ++ pins, s.heap.get? p.1 = some p.2 ∧ H p.1 = none ∧ p.1 ≠ X.env.locals ∧ p.1 ∉ X.fs ∧ ∀ v, p.2.data ≠ .cell v
  hok : HOk X.prog X.w H s.heap
  len : σ.length = X.N.length
section
variable {X : Cx} {pins : List (Addr × Obj)} {σ : List (Option V)} {H H' : Hp} {s : Shared} {h' : Heap}
theorem Cx.Ok.nofr (ok : X.Ok) {b : Addr} {o : Obj} (e : X.base.get? b = some o) : b ∉ X.fs := fun hb => by
  have := (ok.funs.mem hb).1
  rw [e] at this; cases this
theorem Inv.bs (I : Inv X pins σ H s) : ∀ b o, X.base.get? b = some o → s.heap.get? b = some o ∧ H b = none := fun b o e =>
  ⟨I.base.keep b o (I.ok.bs b o e).1 (I.ok.bs b o e).2 (I.ok.nofr e) (I.ok.noex b o e), I.base.free b o (I.ok.bs b o e).1 (I.ok.bs b o e).2 (I.ok.noex b o e)⟩
theorem Inv.bk (I : Inv X pins σ H s) : ∀ b o, X.base.get? b = some o → s.heap.get? b = some o := fun b o e => (I.bs b o e).1
theorem Inv.mod (I : Inv X pins σ H s) : Mod X.K X.mg X.base := I.ok.mod
theorem Inv.kIn (I : Inv X pins σ H s) : X.K.In s.heap := I.ok.mod.kin.keeps I.bk
theorem Inv.nolimit (I : Inv X pins σ H s) : s.heap.NoLimit := I.ok.mod.nolimit.keeps I.bk
theorem Inv.fr (I : Inv X pins σ H s) : ∃ m, Fr X.base X.env.locals s.heap m :=
  let ⟨m, hn, _⟩ := I.loc
  ⟨m, hn, I.bk, Nat.le_trans I.ok.bsz I.ok.above⟩
theorem Inv.lt (I : Inv X pins σ H s) : X.env.locals < s.heap.objs.size := let ⟨_, hn, _⟩ := I.loc; hn.lt
theorem Inv.sz (I : Inv X pins σ H s) : X.s₀.heap.objs.size ≤ s.heap.objs.size := Nat.le_trans I.ok.above (Nat.le_of_lt I.lt)
theorem Inv.nofs (I : Inv X pins σ H s) {a : Addr} (h : s.heap.objs.size ≤ a) : a ∉ X.fs := fun hb => by
  obtain ⟨_, o, ho, _⟩ := I.ok.funs.mem hb
  exact absurd (Nat.lt_of_lt_of_le (Heap.lt_size ho) (Nat.le_trans I.sz h)) (Nat.lt_irrefl _)
theorem Inv.cne (I : Inv X pins σ H s) : ∀ x c, X.env.cells.lookup x = some c → c ≠ X.env.locals := fun x c e z => by
  obtain ⟨v, o, ho, hd⟩ := I.cell x c e
  obtain ⟨m, ⟨o', es, ep, ho', hd', _⟩, _⟩ := I.loc
  rw [z, ho'] at ho; cases ho; rw [hd'] at hd; cases hd
theorem Inv.funs (I : Inv X pins σ H s) : s.heap.FunFrames X.base X.outer := by
  have all : ∀ (l : List Env), (∀ b ∈ frs l, b ∈ X.fs) → X.s₀.heap.FunFrames X.base l → s.heap.FunFrames X.base l := by
    intro l
    induction l with
    | nil => intro _ _; trivial
    | cons env r ih =>
      intro hs hl
      obtain ⟨hk, ⟨L, o, hf, hn, ho, hd⟩, hr⟩ := hl
      have hL : L ∈ X.fs := hs L (by unfold frs; rw [List.filterMap_cons, hf]; exact List.mem_cons_self)
      obtain ⟨sl, e⟩ := I.base.slot L o ho (I.ok.frf L hL) hL fun z => I.ok.exfs L z hL
      exact ⟨hk, ⟨L, _, hf, hn, e, hd⟩, ih (fun b hb => hs b (by unfold frs; rw [List.filterMap_cons, hf]; exact List.mem_cons_of_mem _ hb)) hr⟩
  exact all X.outer (fun _ hb => hb) I.ok.funs
theorem Inv.stack (I : Inv X pins σ H s) : s.heap.FunFrames X.base X.stack := by
  rcases I.ok.stk with e | ⟨e, hf⟩
  · rw [e]; exact I.funs
  · rw [e]
    obtain ⟨m, hn, _⟩ := I.loc
    refine .cons (by rw [I.ok.kind]; decide) hf hn ?_ I.funs
    exact Heap.get?_none_of_le (Nat.le_trans I.ok.bsz I.ok.above)
theorem Inv.stkSub (I : Inv X pins σ H s) : ∀ b ∈ frs X.stack, b ∈ X.env.locals :: X.fs := fun b hb => by
  rcases I.ok.stk with e | ⟨e, hf⟩
  · rw [e] at hb; exact List.mem_cons_of_mem _ hb
  · rw [e] at hb
    unfold frs at hb
    rw [List.filterMap_cons, hf] at hb
    exact hb
theorem Inv.stkFree (I : Inv X pins σ H s) : ∀ b ∈ frs X.stack, H b = none := fun b hb => by
  rcases List.mem_cons.mp (I.stkSub b hb) with e | hb
  · rw [e]; exact I.free
  · obtain ⟨_, o, ho, _⟩ := I.ok.funs.mem hb
    exact I.base.free b o ho (I.ok.frf b hb) fun z => I.ok.exfs b z hb
theorem Inv.step {g' : Array GenState} {t' : Nat} {d' : Drawn} {ch : List Addr} (I : Inv X pins σ H s)
    (hch : ∀ b ∈ ch, (b ∈ X.ex ∨ X.s₀.heap.objs.size ≤ b) ∧ b ≠ X.env.locals ∧ (∀ x c, X.env.cells.lookup x = some c → c ≠ b) ∧ ∀ p ∈ X.pn ++ pins, p.1 ≠ b)
    (keep : ∀ b o, b ≠ X.env.locals → b ∉ X.fs → b ∉ ch → s.heap.get? b = some o → H b = none → h'.get? b = some o)
    (slot : ∀ b o, b ≠ X.env.locals → b ∈ X.fs → b ∉ ch → s.heap.get? b = some o → H b = none → ∃ sl, h'.get? b = some { o with slots := sl }) (free : ∀ b o, b ∉ ch → s.heap.get? b = some o → H b = none → H' b = none)
    (there : ∀ b o, b ∉ ch → s.heap.get? b = some o → ∃ o', h'.get? b = some o')
    (tups : ∀ b xs, H b = some (.tup xs) → H' b = some (.tup xs)) (frzs : ∀ b o u, H b = some (.frz o u) → H' b = some (.frz o u)) (tbls : ∀ b ps, H b = some (.tbl ps) → ∃ more, H' b = some (.tbl (ps ++ more)))
    (ns : ∀ m, s.heap.Ns X.env.locals m → h'.Ns X.env.locals m) (hok : HOk X.prog X.w H' h') (hg : AllBare g') :
    Inv X pins σ H' { s with heap := h', gens := g', drawn := d', toks := t' } := by
  have neL : ∀ b o, X.s₀.heap.get? b = some o → b ≠ X.env.locals := fun b o e => Nat.ne_of_lt (Nat.lt_of_lt_of_le (Heap.lt_size e) I.ok.above)
  have neC : ∀ b o, X.s₀.heap.get? b = some o → b ∉ X.ex → b ∉ ch := fun b o e hx hb => by
    rcases (hch b hb).1 with z | z
    · exact hx z
    · exact absurd (Nat.lt_of_lt_of_le (Heap.lt_size e) z) (Nat.lt_irrefl _)
  have cellK : ∀ x c, X.env.cells.lookup x = some c → ∀ v, s.heap.IsCell c v → h'.IsCell c v := fun x c e v ⟨o, ho, hd⟩ => by
    have nch : c ∉ ch := fun z => (hch c z).2.2.1 x c e rfl
    by_cases hc : c ∈ X.fs
    · obtain ⟨sl, q⟩ := slot c o (I.cne x c e) hc nch ho (I.freeC x c e)
      exact ⟨_, q, hd⟩
    · exact ⟨o, keep c o (I.cne x c e) hc nch ho (I.freeC x c e), hd⟩
  refine ⟨I.ok, I.os, hg, ⟨fun b o e n hb hx => ?_, fun b o e n hb hx => ?_, fun b o e n hx => ?_, fun b o e hx => ?_, fun b xs e => tups b xs (I.base.tups b xs e), fun b o xs e => frzs b o xs (I.base.frzs b o xs e), fun b ps e => ?_⟩, ?_, fun x c e => ?_, ?_, fun x c e => ?_, fun p hp => ?_, hok, I.len⟩
  · exact keep b o (neL b o e) hb (neC b o e hx) (I.base.keep b o e n hb hx) (I.base.free b o e n hx)
  · obtain ⟨sl, e1⟩ := I.base.slot b o e n hb hx
    obtain ⟨sl', e2⟩ := slot b _ (neL b o e) hb (neC b o e hx) e1 (I.base.free b o e n hx)
    exact ⟨sl', e2⟩
  · obtain ⟨o', e1⟩ := I.base.there b o e hx
    exact free b o' (neC b o e hx) e1 (I.base.free b o e n hx)
  · obtain ⟨o', e1⟩ := I.base.there b o e hx
    exact there b o' (neC b o e hx) e1
  · obtain ⟨m1, e1⟩ := I.base.tbls b ps e
    obtain ⟨m2, e2⟩ := tbls b _ e1
    exact ⟨m1 ++ m2, by rw [e2, Array.append_assoc]⟩
  · obtain ⟨m, hn, hl⟩ := I.loc
    refine ⟨m, ns m hn, fun i x v e1 e2 e3 => ?_⟩
    obtain ⟨u, r, l⟩ := hl i x v e1 e2 e3
    refine ⟨u, r, ?_⟩
    rcases l with l | ⟨k, c, e, z⟩
    · exact .inl l
    · exact .inr ⟨k, c, e, cellK x c e _ z⟩
  · obtain ⟨v, z⟩ := I.cell x c e
    exact ⟨v, cellK x c e v z⟩
  · obtain ⟨m, ⟨o, _, _, ho, _⟩, _⟩ := I.loc
    exact free _ o (fun z => (hch _ z).2.1 rfl) ho I.free
  · obtain ⟨v, o, ho, hd⟩ := I.cell x c e
    exact free c o (fun z => (hch c z).2.2.1 x c e rfl) ho (I.freeC x c e)
  · obtain ⟨e, n, ne, nf, d⟩ := I.pin p hp
    have nch : p.1 ∉ ch := fun z => (hch p.1 z).2.2.2 p hp rfl
    exact ⟨keep p.1 p.2 ne nf nch e n, free p.1 p.2 nch e n, ne, nf, d⟩
theorem Inv.un {t' : Nat} (I : Inv X pins σ H s) (u : Un X.fs [] H H' s.heap h') (hok : HOk X.prog X.w H' h') : Inv X pins σ H' { s with heap := h', toks := t' } := by
  obtain ⟨m, ⟨o, es, ep, ho, r⟩, _⟩ := id I.loc
  obtain ⟨sl, hL⟩ := u.any ho I.free (by simp)
  exact I.step (g' := s.gens) (d' := s.drawn) (ch := []) (fun _ z => nomatch z) (fun b o _ hb _ e n => u.keep b o e n hb (by simp)) (fun b o _ hb _ e n => u.slot b o e n hb (by simp)) (fun b o _ e n => u.free b o e n (by simp)) (fun b o _ e => u.there b o e (by simp)) u.tups u.frzs u.tbls (fun m' hm => by
    obtain ⟨o', es', ep', ho', r'⟩ := hm
    rw [ho] at ho'; cases ho'
    exact ⟨_, es', ep', hL, r'⟩) hok I.bare
theorem Inv.call {g' : Array GenState} {t' : Nat} {d' : Drawn} {ch : List Addr} (I : Inv X pins σ H s) (u : Un (frs X.stack) ch H H' s.heap h') (hok : HOk X.prog X.w H' h') (hg : AllBare g')
    (hch : ∀ b ∈ ch, (b ∈ X.ex ∨ X.s₀.heap.objs.size ≤ b) ∧ b ≠ X.env.locals ∧ (∀ x c, X.env.cells.lookup x = some c → c ≠ b) ∧ ∀ p ∈ X.pn ++ pins, p.1 ≠ b) :
    Inv X pins σ H' { s with heap := h', gens := g', drawn := d', toks := t' } := by
  obtain ⟨m, ⟨o, es, ep, ho, r⟩, _⟩ := id I.loc
  obtain ⟨sl, hL⟩ := u.any ho I.free fun z => (hch _ z).2.1 rfl
  exact I.step (ch := ch) hch (fun b o hL hb hc e n => u.keep b o e n (fun z => (List.mem_cons.mp (I.stkSub b z)).elim hL hb) hc) (fun b o _ _ hc e n => u.any e n hc) (fun b o hc e n => u.free b o e n hc) (fun b o hc e => u.there b o e hc) u.tups u.frzs u.tbls (fun m' hm => by
    obtain ⟨o', es', ep', ho', r'⟩ := hm
    rw [ho] at ho'; cases ho'
    exact ⟨_, es', ep', hL, r'⟩) hok hg
theorem Inv.turned {t' : Nat} {it : Addr} (I : Inv X pins σ H s) (k : ∀ b o, b ≠ it → s.heap.get? b = some o → h'.get? b = some o) (hn : H it = none) (hL : it ≠ X.env.locals)
    (h1 : it ∈ X.ex ∨ X.s₀.heap.objs.size ≤ it) (h2 : ∀ x c, X.env.cells.lookup x = some c → c ≠ it) (h3 : ∀ p ∈ X.pn ++ pins, p.1 ≠ it) : Inv X pins σ H { s with heap := h', toks := t' } := by
  have nit : ∀ b u, H b = some u → b ≠ it := fun b u e z => by rw [z, hn] at e; cases e
  refine I.step (g' := s.gens) (d' := s.drawn) (ch := [it]) (fun b hb => ?_) (fun b o _ _ hc e _ => k b o (fun z => hc (by simp [z])) e) (fun b o _ _ hc e _ => ⟨o.slots, k b o (fun z => hc (by simp [z])) e⟩) (fun _ _ _ _ n => n)
    (fun b o hc e => ⟨o, k b o (fun z => hc (by simp [z])) e⟩) (fun _ _ e => e) (fun _ _ _ e => e) (fun b ps e => ⟨#[], by rw [e]; simp⟩) (fun m hm => ?_) (fun b u e => ?_) I.bare
  · have e : b = it := by simpa using hb
    subst e
    exact ⟨h1, hL, h2, h3⟩
  · obtain ⟨o, es, ep, ho, r⟩ := hm
    exact ⟨o, es, ep, k _ o (Ne.symm hL) ho, r⟩
  · refine (I.hok b u e).stay (fun c v hc q => k c v ?_ q) (fun _ q => q) fun _ _ q => q
    rcases hc with z | z
    · rw [z]; exact nit b u e
    · exact nit c _ z
theorem Inv.tok (I : Inv X pins σ H s) (t : Nat) : Inv X pins σ H { s with toks := t } := I.un (h' := s.heap) (t' := t) Un.refl I.hok
theorem Inv.kept {t' : Nat} (I : Inv X pins σ H s) (k : ∀ b u, s.heap.get? b = some u → h'.get? b = some u) : Inv X pins σ H { s with heap := h', toks := t' } := I.un (Un.kept k) (I.hok.kept k)
theorem Inv.laid {a : Addr} {o : HO} {t' : Nat} (I : Inv X pins σ H s) (k : ∀ b u, s.heap.get? b = some u → h'.get? b = some u) (hp : s.heap.objs.size ≤ a) (new : ObjOk X.prog X.w (upd H a o) h' a o) :
    Inv X pins σ (upd H a o) { s with heap := h', toks := t' } := I.un (Un.laid k hp (I.hok.fresh hp)) (I.hok.laid k hp new)
theorem Inv.write {x e : Addr} {o : HO} {t' : Nat} (I : Inv X pins σ H s) (mu : Mut (H x)) (he : e = x ∨ H e = some (.own x)) (k : ∀ b u, b ≠ e → s.heap.get? b = some u → h'.get? b = some u) (heo : ∃ u, h'.get? e = some u)
    (new : ObjOk X.prog X.w (upd H x o) h' x o) : Inv X pins σ (upd H x o) { s with heap := h', toks := t' } := I.un (Un.write mu he k heo) (I.hok.write mu he k heo new)
theorem Inv.weak {σ' : List (Option V)} (I : Inv X pins σ H s) (hl : σ'.length = σ.length) (w : ∀ (i : Nat) v, σ'[i]? = some (some v) → σ[i]? = some (some v)) : Inv X pins σ' H s :=
  ⟨I.ok, I.os, I.bare, I.base, let ⟨m, hn, hl'⟩ := I.loc; ⟨m, hn, fun i x v e1 e2 e3 => hl' i x v e1 (w i v e2) e3⟩, I.cell, I.free, I.freeC, I.pin, I.hok, hl.trans I.len⟩
theorem Inv.pins_of {pins' : List (Addr × Obj)} (I : Inv X pins σ H s) (h : ∀ p ∈ pins', s.heap.get? p.1 = some p.2 ∧ H p.1 = none ∧ p.1 ≠ X.env.locals ∧ p.1 ∉ X.fs ∧ ∀ v, p.2.data ≠ .cell v) : Inv X pins' σ H s :=
  ⟨I.ok, I.os, I.bare, I.base, I.loc, I.cell, I.free, I.freeC, fun p hp => (List.mem_append.mp hp).elim (fun z => I.pin p (List.mem_append_left _ z)) (h p), I.hok, I.len⟩
theorem nodup_ix {N : List Str} (hN : N.Nodup) {i j : Nat} {x : Str} (a : N[i]? = some x) (b : N[j]? = some x) : i = j := by
  obtain ⟨h1, e1⟩ := List.getElem?_eq_some_iff.mp a
  obtain ⟨h2, e2⟩ := List.getElem?_eq_some_iff.mp b
  exact (List.getElem_inj hN).mp (e1.trans e2.symm)
theorem store_ok2 {M : Model} {A : Around} {E : Value → Shared → Prop} {i : Nat} {x : Str} {v : V} {u : Value} {Q : Unit → Shared → Prop} (I : Inv X pins σ H s) (hN : X.N.Nodup) (hi : X.N[i]? = some x) (hx : Loc X.env.scope x) (r : RelV v u)
    (h : ∀ s', Inv X pins (σ.set i (some v)) H s' → (∃ a, Heap.SameBut a s.heap s'.heap ∧ (a = X.env.locals ∨ X.env.cells.lookup x = some a)) → Q () s') (hf : X.fn x = true ∨ X.env.scope.names.lookup x = some .local := by first | exact .inl rfl | exact .inr rfl | assumption) : wpAny M A (storeName X.env x u) Q E s := by
  obtain ⟨m, hn, hl⟩ := id I.loc
  have hcls : (X.env.scope.kind == .class || (X.env.scope.kind == .module && X.env.locals != X.env.globals)) = false := by rw [I.ok.kind]; rfl
  have hiσ : i < σ.length := by rw [I.len]; exact (List.getElem?_eq_some_iff.mp hi).1
  have cne := I.cne
  have tracked : ∀ {a : Addr} {h' : Heap}, (∃ o, s.heap.get? a = some o ∧ H a = none) → Heap.SameBut a s.heap h' → HOk X.prog X.w H h' := fun {a h'} ha hs b ob e => by
    obtain ⟨_, _, hfree⟩ := ha
    refine (I.hok b ob e).stay (fun c w' hc q => (hs.2 c ?_).trans q) (fun _ q => q) fun _ _ q => q
    rintro rfl
    rcases hc with rfl | hc
    · rw [hfree] at e; cases e
    · rw [hfree] at hc; cases hc
  rcases hx with hk | hk
  · refine wpAny_storeName_local hk hn (fun h' hn' hs => ?_) hcls
    obtain ⟨oL, _, _, hoL, _⟩ := id hn
    refine h _ ⟨I.ok, I.os, I.bare, ⟨fun b o e n hb hx => ?_, fun b o e n hb hx => ?_, I.base.free, fun b o e hx => ?_, I.base.tups, I.base.frzs, I.base.tbls⟩, ⟨_, hn', fun j y v' e1 e2 e3 => ?_⟩, fun y c e => ?_, I.free, I.freeC, fun p hp => ?_, tracked ⟨oL, hoL, I.free⟩ hs, by simpa using I.len⟩ ⟨_, hs, .inl rfl⟩
    · exact (hs.2 b (Nat.ne_of_lt (Nat.lt_of_lt_of_le (Heap.lt_size e) I.ok.above))).trans (I.base.keep b o e n hb hx)
    · obtain ⟨sl, e1⟩ := I.base.slot b o e n hb hx
      exact ⟨sl, (hs.2 b (Nat.ne_of_lt (Nat.lt_of_lt_of_le (Heap.lt_size e) I.ok.above))).trans e1⟩
    · obtain ⟨o', e1⟩ := I.base.there b o e hx
      exact ⟨o', (hs.2 b (Nat.ne_of_lt (Nat.lt_of_lt_of_le (Heap.lt_size e) I.ok.above))).trans e1⟩
    · by_cases hj : j = i
      · subst hj
        rw [hi] at e1; cases e1
        rw [List.getElem?_set_self hiσ] at e2
        cases e2
        exact ⟨u, r, .inl ⟨hk, by simp⟩⟩
      · rw [List.getElem?_set_ne (Ne.symm hj)] at e2
        obtain ⟨u', r', q⟩ := hl j y v' e1 e2 e3
        refine ⟨u', r', ?_⟩
        rcases q with ⟨k, e⟩ | ⟨k, c, e, z⟩
        · refine .inl ⟨k, ?_⟩
          have : y ≠ x := fun e => hj (nodup_ix hN e1 (e ▸ hi))
          simp [this, e]
        · exact .inr ⟨k, c, e, z.sameBut hs (cne y c e)⟩
    · obtain ⟨w', z⟩ := I.cell y c e
      exact ⟨w', z.sameBut hs (cne y c e)⟩
    · obtain ⟨e, n, ne, nf, d⟩ := I.pin p hp
      exact ⟨(hs.2 p.1 ne).trans e, n, ne, nf, d⟩
  · have hfn : X.fn x = true := by
      rcases hf with z | z
      · exact z
      · rw [z] at hk; cases hk
    obtain ⟨c, hc⟩ := I.ok.has x (.inl hk)
    obtain ⟨w', z⟩ := I.cell x c hc
    refine wpAny_storeName_cell I.ok.kind hk hc z (fun h' hc' hs => ?_)
    obtain ⟨oc, hoc, hocd⟩ := id z
    refine h { s with heap := h' } ⟨I.ok, I.os, I.bare, ⟨fun b o e n hb hx => ?_, fun b o e n hb hx => ?_, I.base.free, fun b o e hx => ?_, I.base.tups, I.base.frzs, I.base.tbls⟩, ⟨m, hn.sameBut hs (Ne.symm (cne x c hc)), fun j y v' e1 e2 e3 => ?_⟩, fun y c' e => ?_, I.free, I.freeC, fun p hp => ?_, tracked ⟨oc, hoc, I.freeC x c hc⟩ hs, by simpa using I.len⟩ ⟨c, hs, .inr hc⟩
    · exact (hs.2 b (Nat.ne_of_lt (Nat.lt_of_lt_of_le (Heap.lt_size e) (I.ok.cab x c hfn hc)))).trans (I.base.keep b o e n hb hx)
    · obtain ⟨sl, e1⟩ := I.base.slot b o e n hb hx
      exact ⟨sl, (hs.2 b (Nat.ne_of_lt (Nat.lt_of_lt_of_le (Heap.lt_size e) (I.ok.cab x c hfn hc)))).trans e1⟩
    · obtain ⟨o', e1⟩ := I.base.there b o e hx
      exact ⟨o', (hs.2 b (Nat.ne_of_lt (Nat.lt_of_lt_of_le (Heap.lt_size e) (I.ok.cab x c hfn hc)))).trans e1⟩
    · by_cases hj : j = i
      · subst hj
        rw [hi] at e1; cases e1
        rw [List.getElem?_set_self hiσ] at e2
        cases e2
        exact ⟨u, r, .inr ⟨.inl hk, c, hc, hc'⟩⟩
      · rw [List.getElem?_set_ne (Ne.symm hj)] at e2
        obtain ⟨u', r', q⟩ := hl j y v' e1 e2 e3
        refine ⟨u', r', ?_⟩
        rcases q with q | ⟨k, c', e, z'⟩
        · exact .inl q
        · refine .inr ⟨k, c', e, z'.sameBut hs ?_⟩
          rintro rfl
          exact hj (nodup_ix hN e1 (I.ok.inj _ _ _ e hc ▸ hi))
    · by_cases hcc : c' = c
      · subst hcc; exact ⟨_, hc'⟩
      · obtain ⟨w2, z2⟩ := I.cell y c' e
        exact ⟨w2, z2.sameBut hs hcc⟩
    · obtain ⟨e, n, ne, nf, d⟩ := I.pin p hp
      refine ⟨(hs.2 p.1 ?_).trans e, n, ne, nf, d⟩
      intro q
      rw [q, hoc] at e
      have q' : oc = p.2 := Option.some.inj e
      exact d w' (by rw [← q']; exact hocd)
theorem store_ok {M : Model} {A : Around} {E : Value → Shared → Prop} {i : Nat} {x : Str} {v : V} {u : Value} {Q : Unit → Shared → Prop} (I : Inv X pins σ H s) (hN : X.N.Nodup) (hi : X.N[i]? = some x) (hx : Loc X.env.scope x) (r : RelV v u)
    (h : ∀ s', Inv X pins (σ.set i (some v)) H s' → Q () s') (hf : X.fn x = true ∨ X.env.scope.names.lookup x = some .local := by first | exact .inl rfl | exact .inr rfl | assumption) : wpAny M A (storeName X.env x u) Q E s :=
  store_ok2 I hN hi hx r (fun s' I' _ => h s' I') hf
theorem Inv.call' {s' : Shared} {ch : List Addr} (I : Inv X pins σ H s) (ho : s'.os = s.os) (u : Un (frs X.stack) ch H H' s.heap s'.heap) (hok : HOk X.prog X.w H' s'.heap) (hg : AllBare s'.gens)
    (hch : ∀ b ∈ ch, (b ∈ X.ex ∨ X.s₀.heap.objs.size ≤ b) ∧ b ≠ X.env.locals ∧ (∀ x c, X.env.cells.lookup x = some c → c ≠ b) ∧ ∀ p ∈ X.pn ++ pins, p.1 ≠ b) : Inv X pins σ H' s' := by
  obtain ⟨h', g', d', t', o'⟩ := s'
  have e : o' = s.os := ho
  subst e
  exact I.call (g' := g') (t' := t') (d' := d') u hok hg hch
end
abbrev XK := Value → Option Addr → Hp → Prop
abbrev St := List (Option V)
abbrev VK := V → Hp → Prop
abbrev TE := St → Hp → VK → Prop
abbrev TT := St → Hp → (Bool → Hp → Prop) → Prop
abbrev TA := St → Hp → (List V → Hp → Prop) → Prop
structure Ends where
  nx : St → Hp → Prop
  rt : VK
  bk : St → Hp → Prop := fun _ _ => False
  ct : St → Hp → Prop := fun _ _ => False
abbrev TS := Ends → St → Hp → Prop
def EP (X : Cx) (pins : List (Addr × Obj)) (σ : St) (Q : VK) (u : Value) (s' : Shared) : Prop := ∃ v H', Inv X pins σ H' s' ∧ RelV v u ∧ Q v H'
def TP (X : Cx) (pins : List (Addr × Obj)) (σ : St) (Q : Bool → Hp → Prop) (b : Bool) (s' : Shared) : Prop := ∃ H', Inv X pins σ H' s' ∧ Q b H'
def AP (X : Cx) (pins : List (Addr × Obj)) (σ : St) (Q : List V → Hp → Prop) (us : List Value) (s' : Shared) : Prop := ∃ vs H', Inv X pins σ H' s' ∧ Vals vs us ∧ Q vs H'
def SP (X : Cx) (pins : List (Addr × Obj)) (D : Ends) (f : Flow) (s' : Shared) : Prop :=
  match f with
  | .next => ∃ σ' H', Inv X pins σ' H' s' ∧ D.nx σ' H'
  | .brk => ∃ σ' H', Inv X pins σ' H' s' ∧ D.bk σ' H'
  | .cont => ∃ σ' H', Inv X pins σ' H' s' ∧ D.ct σ' H'
  | .ret u => ∃ v σ' H', Inv X pins σ' H' s' ∧ RelV v u ∧ D.rt v H'
def PE (X : Cx) (e : Expr) (t : TE) : Prop :=
  ∀ (pins : List (Addr × Obj)) (s : Shared) (σ : St) (H : Hp) (Q : VK), Inv X pins σ H s → t σ H Q → wpAny (model X.prog X.w) X.A (eval e X.env) (EP X pins σ Q) X.xe s
def PT (X : Cx) (e : Expr) (t : TT) : Prop :=
  ∀ (pins : List (Addr × Obj)) (s : Shared) (σ : St) (H : Hp) (Q : Bool → Hp → Prop), Inv X pins σ H s → t σ H Q → wpAny (model X.prog X.w) X.A (isTrue e X.env (eval e X.env)) (TP X pins σ Q) X.xe s
def PW (X : Cx) (e : Expr) (t : TT) : Prop :=
  ∀ (whole : Sem Value) (pins : List (Addr × Obj)) (s : Shared) (σ : St) (H : Hp) (Q : Bool → Hp → Prop), Inv X pins σ H s → t σ H Q → wpAny (model X.prog X.w) X.A (isTrue e X.env whole) (TP X pins σ Q) X.xe s
theorem PW.pt {X : Cx} {e : Expr} {t : TT} (h : PW X e t) : PT X e t := h _
def PA (X : Cx) (es : List Expr) (t : TA) : Prop :=
  ∀ (pos : Pos) (pins : List (Addr × Obj)) (s : Shared) (σ : St) (H : Hp) (Q : List V → Hp → Prop), Inv X pins σ H s → t σ H Q → wpAny (model X.prog X.w) X.A (spliced (backTo pos (starEach es X.env))) (AP X pins σ Q) X.xe s
def PS (X : Cx) (st : Stmt) (t : TS) : Prop :=
  ∀ (pins : List (Addr × Obj)) (s : Shared) (σ : St) (H : Hp) (D : Ends), Inv X pins σ H s → t D σ H → wpAny (model X.prog X.w) X.A (exec st X.env) (SP X pins D) X.xe s
def PSs (X : Cx) (st : List Stmt) (t : TS) : Prop :=
  ∀ (pins : List (Addr × Obj)) (s : Shared) (σ : St) (H : Hp) (D : Ends), Inv X pins σ H s → t D σ H → wpAny (model X.prog X.w) X.A (execs st X.env) (SP X pins D) X.xe s
theorem thn {α : Type} {t : Sem α} {Q Q' : α → Shared → Prop} {M : Model} {A : Around} {E : Value → Shared → Prop} {s : Shared} (h : wpAny M A t Q E s) (hQ : ∀ a s, Q a s → Q' a s) : wpAny M A t Q' E s := wpAny_mono h hQ fun _ _ x => x
end L2
namespace L2
open PySem PySem.Spec PyProof.Rows
section
variable {X : Cx}
def tVar (i : Nat) : TE := fun σ H Q => ∃ v, σ[i]? = some (some v) ∧ Q v H
def tC (v : V) : TE := fun _ H Q => Q v H
theorem pe_var {i : Nat} {x : Str} {pos : Pos} (hN : X.N[i]? = some x) (hv : Vis X.env.scope x) (hd : (x == ("__debug__" : Str)) = false := by decide) (hcd : (x == ("__classdict__" : Str)) = false := by decide) : PE X (.Name x pos) (tVar i) := by
  intro pins s σ H Q I h
  obtain ⟨v, e, h⟩ := h
  obtain ⟨m, hn, hl⟩ := I.loc
  obtain ⟨u, r, l⟩ := hl i x v hN e hv
  have fin : EP X pins σ Q u s := ⟨v, H, I, r, h⟩
  rcases l with ⟨hk, hm⟩ | ⟨hk, c, hc, hcell⟩
  · exact wpAny_Name (wpAny_loadName_local I.ok.kind hk hn hm fin) hd
  · rcases hk with hk | hk
    · exact wpAny_Name (wpAny_loadName_cell I.ok.kind hk hc hcell fin) hd
    · exact wpAny_Name (wpAny_loadName_free I.ok.kind hk hc hcell fin hcd) hd
theorem pe_int {i j pos} : PE X (.Constant (.int i) j pos) (tC (.int i)) := fun _ _ _ H _ I h => wpAny_Constant_int ⟨.int i, H, I.tok _, ⟨_, rfl⟩, h⟩
theorem pe_bl {b j pos} : PE X (.Constant (.bool b) j pos) (tC (.bl b)) := fun _ _ _ H _ I h => Constant_bool ⟨.bl b, H, I, rfl, h⟩
theorem pe_non {j pos} : PE X (.Constant .none j pos) (tC .non) := fun _ _ _ H _ I h => Constant_none ⟨.non, H, I, rfl, h⟩
def Gl (X : Cx) (x : Str) : Prop := X.env.kindOf x = some .globalImplicit
theorem ld_glob {E : Value → Shared → Prop} {pins : List (Addr × Obj)} {s : Shared} {σ : St} {H : Hp} {x : Str} {u : Value} {pos : Pos} {Q : Value → Shared → Prop} (I : Inv X pins σ H s) (hg : Gl X x) (hm : X.mg x = some u) (h : Q u s)
    (hd : (x == ("__debug__" : Str)) = false := by decide) : wpAny (model X.prog X.w) X.A (eval (.Name x pos) X.env) Q E s :=
  Calls.Name_function_global I.ok.kind hg (Calls.loadGlobal_global (by rw [I.ok.glob]; exact I.mod.glob.keeps I.bk) hm h) hd
theorem ld_blt {E : Value → Shared → Prop} {pins : List (Addr × Obj)} {s : Shared} {σ : St} {H : Hp} {x : Str} {u : Value} {pos : Pos} {Q : Value → Shared → Prop} (I : Inv X pins σ H s) (hg : Gl X x) (hm : X.mg x = none) (hv : bootBuiltins x = some u) (h : Q u s)
    (hn : x ≠ "__name__" := by decide) (hd : (x == ("__debug__" : Str)) = false := by decide) : wpAny (model X.prog X.w) X.A (eval (.Name x pos) X.env) Q E s := by
  obtain ⟨mb, h1, h2⟩ := I.mod.blt
  exact Calls.Name_function_global I.ok.kind hg (Calls.loadGlobal_builtin (by rw [I.ok.glob]; exact I.mod.glob.keeps I.bk) hm (by rw [I.ok.blt]; exact h1.keeps I.bk) ((h2 x hn).trans hv) h) hd
theorem pe_bltn {x : Str} {v : V} {u : Value} {pos : Pos} (hg : Gl X x) (hm : X.mg x = none) (hv : bootBuiltins x = some u) (r : RelV v u) (hn : x ≠ "__name__" := by decide) (hd : (x == ("__debug__" : Str)) = false := by decide) : PE X (.Name x pos) (tC v) :=
  fun _ _ _ H _ I h => ld_blt I hg hm hv ⟨v, H, I, r, h⟩ hn hd
variable {a b : Expr} {ta tb : TE} {pos : Pos}
def tB (t : TE) : TT := fun σ H Q => t σ H fun x H1 => ∃ c, x = .bl c ∧ Q c H1
theorem pt_val {e : Expr} {t : TE} (h : PE X e t) (he : ∀ whole, isTrue e X.env whole = (do let v ← whole; standAt e.pos; holding [v] (truthy v)) := by intro _; rfl) : PT X e (tB t) := by
  intro pins s σ H Q I hw
  refine isTrue_plain (thn (h pins s σ H _ I hw) fun v s1 ⟨x, H1, I1, r1, q1⟩ => ?_) (he _)
  obtain ⟨d, rfl, q⟩ := q1
  cases r1
  exact wpAny_truthy_bool ⟨H1, I1, q⟩
variable {tA tB' : TT} {rest : List Expr}
def tAnd (t u : TT) : TT := fun σ H Q => t σ H fun c H1 => if c = true then u σ H1 Q else Q false H1
def tOr (t u : TT) : TT := fun σ H Q => t σ H fun c H1 => if c = true then Q true H1 else u σ H1 Q
def tNot (t : TT) : TT := fun σ H Q => t σ H fun c H1 => Q (!c) H1
theorem pw_and1 (ha : PT X a tA) : PW X (.BoolOp .And [a] pos) tA := by
  intro wh pins s σ H Q I h
  refine isTrue_and (thn (ha pins s σ H Q I h) fun c s1 e => ?_)
  cases c with
  | true => exact isTrue_and_nil e
  | false => exact e
theorem pw_or1 (ha : PT X a tA) : PW X (.BoolOp .Or [a] pos) tA := by
  intro wh pins s σ H Q I h
  refine isTrue_or (thn (ha pins s σ H Q I h) fun c s1 e => ?_)
  cases c with
  | false => exact isTrue_or_nil e
  | true => exact e
theorem pw_and (ha : PT X a tA) (hb : PW X (.BoolOp .And (b :: rest) pos) tB') : PW X (.BoolOp .And (a :: b :: rest) pos) (tAnd tA tB') := by
  intro wh pins s σ H Q I h
  refine isTrue_and (thn (ha pins s σ H _ I h) fun c s1 ⟨H1, I1, q1⟩ => ?_)
  cases c with
  | true => exact hb wh pins s1 σ H1 Q I1 q1
  | false => exact ⟨H1, I1, q1⟩
theorem pw_or (ha : PT X a tA) (hb : PW X (.BoolOp .Or (b :: rest) pos) tB') : PW X (.BoolOp .Or (a :: b :: rest) pos) (tOr tA tB') := by
  intro wh pins s σ H Q I h
  refine isTrue_or (thn (ha pins s σ H _ I h) fun c s1 ⟨H1, I1, q1⟩ => ?_)
  cases c with
  | true => exact ⟨H1, I1, q1⟩
  | false => exact hb wh pins s1 σ H1 Q I1 q1
theorem pt_not (ha : PT X a tA) : PT X (.UnaryOp .Not a pos) (tNot tA) := by
  intro pins s σ H Q I h
  exact isTrue_not (ha pins s σ H (fun c H1 => Q (!c) H1) I h)
def tAndV (ta tb : TE) : TE := fun σ H Q => ta σ H fun x H1 => ∃ c, x = .bl c ∧ if c = true then tb σ H1 Q else Q (.bl false) H1
def tNotV (ta : TE) : TE := fun σ H Q => ta σ H fun x H1 => ∃ c, x = .bl c ∧ Q (.bl (!c)) H1
theorem pe_one {op} {t : TE} (h : PE X a t) : PE X (.BoolOp op [a] pos) t := fun pins s σ H Q I hw => BoolOp_one (h pins s σ H Q I hw)
theorem pe_and (ha : PE X a ta) (hb : PE X (.BoolOp .And (b :: rest) pos) tb) : PE X (.BoolOp .And (a :: b :: rest) pos) (tAndV ta tb) := by
  intro pins s σ H Q I h
  refine BoolOp_and (thn (ha pins s σ H _ I h) fun v s1 ⟨x, H1, I1, r1, q1⟩ => ?_)
  obtain ⟨c, rfl, q1⟩ := q1
  cases r1
  refine wpAny_truthy_bool ?_
  cases c with
  | true => exact hb pins s1 σ H1 Q I1 q1
  | false => exact ⟨.bl false, H1, I1, rfl, q1⟩
theorem pe_not (ha : PE X a ta) : PE X (.UnaryOp .Not a pos) (tNotV ta) := by
  intro pins s σ H Q I h
  refine UnaryOp_ (thn (ha pins s σ H _ I h) fun v s1 ⟨x, H1, I1, r1, q1⟩ => ?_)
  obtain ⟨c, rfl, q1⟩ := q1
  cases r1
  exact not_of (wpAny_truthy_bool ⟨.bl (!c), H1, I1, rfl, q1⟩)
end
end L2
namespace L2
open PySem PySem.Spec PyProof.Rows
def SqL (K : PySem.W.Frag) (H : Hp) (a : Addr) (xs : List V) : Prop :=
  Rd H a (.lst xs) ∨
    ∃ (o : Obj) (its : Array Value) (n : Nat), K.lookup a = some o ∧ o.cls = .type "list" ∧ o.dict = none ∧ o.data = .seq its n ∧ its.size ≤ sizeLine ∧ Vals xs its.toList
def SqT (K : PySem.W.Frag) (H : Hp) (a : Addr) (xs : List V) : Prop :=
  Rd H a (.tup xs) ∨
    ∃ (o : Obj) (its : Array Value) (n : Nat), K.lookup a = some o ∧ o.cls = .type "tuple" ∧ o.data = .seq its n ∧ its.size ≤ sizeLine ∧ Vals xs its.toList
def absV : Value → Option V
  | .none => some .non
  | .bool b => some (.bl b)
  | .int i _ => some (.int i)
  | .str x _ => some (.str x)
  | .bytes b _ => some (.byt b)
  | .float b _ => some (.flt b)
  | .ref a => some (.ref a)
  | .type n => some (.ty n)
  | _ => none
theorem RelV.abs {x : V} {u : Value} (r : RelV x u) : absV u = some x := by
  cases x with
  | non => cases r; rfl
  | bl _ => cases r; rfl
  | int _ => obtain ⟨t, rfl⟩ := r; rfl
  | str _ => obtain ⟨t, rfl⟩ := r; rfl
  | byt _ => obtain ⟨t, rfl⟩ := r; rfl
  | flt _ => obtain ⟨t, rfl⟩ := r; rfl
  | ref _ => cases r; rfl
  | ty _ => cases r; rfl
theorem RelV.inj {x y : V} {u : Value} (r : RelV x u) (q : RelV y u) : x = y := Option.some.inj (r.abs.symm.trans q.abs)
theorem Vals.inj : ∀ {xs ys : List V} {us : List Value}, Vals xs us → Vals ys us → xs = ys
  | _, _, _, .nil, .nil => rfl
  | _, _, _, .cons r t, .cons r' t' => by rw [r.inj r', Vals.inj t t']
section
variable {X : Cx} {pins : List (Addr × Obj)} {σ : St} {H : Hp} {s : Shared} {a : Addr} {xs ys : List V}
theorem SqL.of {K : PySem.W.Frag} (h : H a = some (.lst xs)) : SqL K H a xs := .inl (.inl h)
theorem SqT.of {K : PySem.W.Frag} (h : H a = some (.tup xs)) : SqT K H a xs := .inl (.inl h)
theorem Inv.list (I : Inv X pins σ H s) (h : SqL X.K H a xs) : ∃ its : List Value, Vals xs its ∧ PlainL s.heap a its.toArray ∧ xs.length ≤ sizeLine := by
  rcases h with h | ⟨o, its, n, hk, hc, hd, hs, hz, r⟩
  · obtain ⟨z, its, n, r, e⟩ := h.ok I.hok
    exact ⟨its, r, ⟨_, n, e, rfl, rfl, rfl⟩, z⟩
  · refine ⟨its.toList, r, ⟨o, n, I.kIn a o hk, hc, hd, by simpa using hs⟩, ?_⟩
    have e := r.length
    simp only [Array.length_toList] at e
    omega
theorem Inv.tuple (I : Inv X pins σ H s) (h : SqT X.K H a xs) : ∃ its : List Value, Vals xs its ∧ IsTup s.heap a its.toArray ∧ xs.length ≤ sizeLine := by
  rcases h with h | ⟨o, its, n, hk, hc, hs, hz, r⟩
  · obtain ⟨z, its, r, p⟩ := h.ok I.hok
    exact ⟨its, r, p, z⟩
  · refine ⟨its.toList, r, ⟨o, I.kIn a o hk, hc, n, by simpa using hs⟩, ?_⟩
    have e := r.length
    simp only [Array.length_toList] at e
    omega
theorem Inv.list_inj (I : Inv X pins σ H s) (h : SqL X.K H a xs) (h' : SqL X.K H a ys) : xs = ys := by
  obtain ⟨its, r, ⟨o, n, e, _, _, d⟩, _⟩ := I.list h
  obtain ⟨its', r', ⟨o', n', e', _, _, d'⟩, _⟩ := I.list h'
  rw [e] at e'; cases e'
  rw [d] at d'
  injection d' with d1 _
  have : its = its' := by simpa using congrArg Array.toList d1
  subst this
  exact r.inj r'
end
abbrev Cx.wish (X : Cx) (E : Value → Shared → Prop) : Cx := { X with xe := E }
abbrev Cx.nox (X : Cx) : Cx := X.wish fun _ _ => False
theorem Cx.Ok.wish {X : Cx} (ok : X.Ok) (E : Value → Shared → Prop) : (X.wish E).Ok :=
  ⟨ok.mod, ok.kind, ok.glob, ok.blt, ok.above, ok.inj, ok.has, ok.cab, ok.hd, ok.frames, ok.stk, ok.exf, ok.bs, ok.bsz, ok.noex, ok.exfs, ok.funs, ok.frf⟩
theorem Cx.Ok.unwish {X : Cx} {E : Value → Shared → Prop} (ok : (X.wish E).Ok) : X.Ok :=
  ⟨ok.mod, ok.kind, ok.glob, ok.blt, ok.above, ok.inj, ok.has, ok.cab, ok.hd, ok.frames, ok.stk, ok.exf, ok.bs, ok.bsz, ok.noex, ok.exfs, ok.funs, ok.frf⟩
section
variable {X : Cx} {pins : List (Addr × Obj)} {σ : St} {H : Hp} {s : Shared} {E : Value → Shared → Prop}
theorem Inv.wish (I : Inv X pins σ H s) (E : Value → Shared → Prop) : Inv (X.wish E) pins σ H s := ⟨I.ok.wish E, I.os, I.bare, I.base, I.loc, I.cell, I.free, I.freeC, I.pin, I.hok, I.len⟩
theorem Inv.unwish (I : Inv (X.wish E) pins σ H s) : Inv X pins σ H s := ⟨I.ok.unwish, I.os, I.bare, I.base, I.loc, I.cell, I.free, I.freeC, I.pin, I.hok, I.len⟩
theorem SP.unwish {D : Ends} {f : Flow} {s' : Shared} (h : SP (X.wish E) pins D f s') : SP X pins D f s' := by
  cases f with
  | next => obtain ⟨σ', H', I, q⟩ := h; exact ⟨σ', H', I.unwish, q⟩
  | brk => obtain ⟨σ', H', I, q⟩ := h; exact ⟨σ', H', I.unwish, q⟩
  | cont => obtain ⟨σ', H', I, q⟩ := h; exact ⟨σ', H', I.unwish, q⟩
  | ret u => obtain ⟨v, σ', H', I, r, q⟩ := h; exact ⟨v, σ', H', I.unwish, r, q⟩
theorem PE.nox {e : Expr} {t : TE} (h : PE X.nox e t) : PE X e t := fun pins s σ H Q I hw =>
  wpAny_mono (h pins s σ H Q (I.wish _) hw) (fun _ _ ⟨v, H', I', r, q⟩ => ⟨v, H', I'.unwish, r, q⟩) fun _ _ z => False.elim z
theorem PT.nox {e : Expr} {t : TT} (h : PT X.nox e t) : PT X e t := fun pins s σ H Q I hw =>
  wpAny_mono (h pins s σ H Q (I.wish _) hw) (fun _ _ ⟨H', I', q⟩ => ⟨H', I'.unwish, q⟩) fun _ _ z => False.elim z
theorem PSs.nox {st : List Stmt} {t : TS} (h : PSs X.nox st t) : PSs X st t := fun pins s σ H D I hw =>
  wpAny_mono (h pins s σ H D (I.wish _) hw) (fun _ _ q => q.unwish) fun _ _ z => False.elim z
end
section
variable {X : Cx} {st : Stmt} {rest : List Stmt} {t u : TS} {e : Expr} {te : TE} {pos : Pos}
def tNext : TS := fun D σ H => D.nx σ H
def tSeq (t u : TS) : TS := fun D σ H => t { D with nx := u D } σ H
theorem pss_nil : PSs X [] tNext := fun _ _ σ H _ I h => wpAny_execs_nil ⟨σ, H, I, h⟩
theorem pss_cons (h1 : PS X st t) (h2 : PSs X rest u) : PSs X (st :: rest) (tSeq t u) := by
  intro pins s σ H D I h
  refine wpAny_execs_cons (thn (h1 pins s σ H { D with nx := u D } I h) fun f s1 q => ?_)
  cases f with
  | next =>
    obtain ⟨σ', H', I', q⟩ := q
    exact h2 pins s1 σ' H' D I' q
  | ret v => exact q
  | brk => exact q
  | cont => exact q
theorem pss_one (h1 : PS X st t) : PSs X [st] t := by
  intro pins s σ H D I h
  refine wpAny_execs_cons (thn (h1 pins s σ H D I h) fun f s1 q => ?_)
  cases f with
  | next => exact wpAny_execs_nil q
  | ret v => exact q
  | brk => exact q
  | cont => exact q
theorem Inv.quiet {pins : List (Addr × Obj)} {σ : St} {H : Hp} {s : Shared} (I : Inv X pins σ H s) : interactive X.env = false := by simp [interactive, I.ok.kind]
def tDrop (te : TE) : TS := fun D σ H => te σ H fun _ H1 => D.nx σ H1
theorem ps_expr (he : PE X e te) (hs : swapsWith e none pos.line X.env = pure false := by rfl) : PS X (.Expr e pos) (tDrop te) := by
  intro pins s σ H D I h
  exact wpAny_Expr_any (thn (he pins s σ H _ I h) fun v s1 ⟨x, H1, I1, r1, q1⟩ => ⟨σ, H1, I1, q1⟩) I.quiet hs
def tRet (te : TE) : TS := fun D σ H => te σ H D.rt
theorem ps_ret (he : PE X e te) : PS X (.Return (some e) pos) (tRet te) := by
  intro pins s σ H D I h
  exact wpAny_Return_some (thn (he pins s σ H _ I h) fun v s1 ⟨x, H1, I1, r1, q1⟩ => ⟨x, σ, H1, I1, r1, q1⟩)
def tIfS (c : TT) (t u : TS) : TS := fun D σ H => c σ H fun b H1 => if b = true then t D σ H1 else u D σ H1
theorem ps_if {c : Expr} {a b : List Stmt} {tc : TT} (hc : PT X c tc) (ha : PSs X a t) (hb : PSs X b u) : PS X (.If c a b pos) (tIfS tc t u) := by
  intro pins s σ H D I h
  refine wpAny_If (thn (hc pins s σ H _ I h) fun d s1 ⟨H1, I1, q1⟩ => ?_)
  cases d with
  | true => exact ha pins s1 σ H1 D I1 q1
  | false => exact hb pins s1 σ H1 D I1 q1
def tNever : TS := fun _ _ _ => False
theorem ps_never : PS X st tNever := fun _ _ _ _ _ _ h => h.elim
end
abbrev TG := V → St → Hp → (St → Hp → Prop) → Prop
abbrev TGs := List V → St → Hp → (St → Hp → Prop) → Prop
def PG (X : Cx) (target : Expr) (t : TG) : Prop :=
  ∀ (pins : List (Addr × Obj)) (s : Shared) (σ : St) (H : Hp) (v : V) (u : Value) (Q : St → Hp → Prop), Inv X pins σ H s → RelV v u → t v σ H Q →
    wpAny (model X.prog X.w) X.A (assign target X.env u) (fun _ s' => ∃ σ' H', Inv X pins σ' H' s' ∧ Q σ' H') X.xe s
def PGs (X : Cx) (ts : List Expr) (t : TGs) : Prop :=
  ∀ (pins : List (Addr × Obj)) (s : Shared) (σ : St) (H : Hp) (vs : List V) (us : List Value) (Q : St → Hp → Prop), Inv X pins σ H s → Vals vs us → t vs σ H Q →
    wpAny (model X.prog X.w) X.A (assignInOrder ((assignEach ts X.env).map (·.2)) us) (fun _ s' => ∃ σ' H', Inv X pins σ' H' s' ∧ Q σ' H') X.xe s
abbrev TSet := V → V → V → Hp → (Hp → Prop) → Prop
def PSet (X : Cx) (t : TSet) : Prop :=
  ∀ (pins : List (Addr × Obj)) (s : Shared) (σ : St) (H : Hp) (o i v : V) (ov iv u : Value) (Q : Hp → Prop), Inv X pins σ H s → RelV o ov → RelV i iv → RelV v u → t o i v H Q →
    wpAny (model X.prog X.w) X.A (setItem ov iv u) (fun _ s' => ∃ H', Inv X pins σ H' s' ∧ Q H') X.xe s
abbrev TIp := V → V → Hp → VK → Prop
def PIp (X : Cx) (op : Operator) (t : TIp) : Prop :=
  ∀ (pins : List (Addr × Obj)) (s : Shared) (σ : St) (H : Hp) (x y : V) (v u : Value) (Q : VK), Inv X pins σ H s → RelV x v → RelV y u → t x y H Q →
    wpAny (model X.prog X.w) X.A (inplaceOp op v u) (EP X pins σ Q) X.xe s
section
variable {X : Cx} {pos : Pos}
def gName (i : Nat) : TG := fun v σ H Q => Q (σ.set i (some v)) H
theorem pg_name {i : Nat} {x : Str} (hN : X.N.Nodup) (hi : X.N[i]? = some x) (hx : Loc X.env.scope x) (hf : X.fn x = true ∨ X.env.scope.names.lookup x = some .local := by first | exact .inl rfl | exact .inr rfl | assumption) : PG X (.Name x pos) (gName i) := by
  intro pins s σ H v u Q I r h
  exact wpAny_assign_Name (store_ok I hN hi hx r (fun s' I' => ⟨_, H, I', h⟩) hf)
def gNil : TGs := fun vs σ H Q => vs = [] ∧ Q σ H
def gCons (t : TG) (u : TGs) : TGs := fun vs σ H Q => ∃ v r, vs = v :: r ∧ t v σ H fun σ' H' => u r σ' H' Q
theorem pgs_nil : PGs X [] gNil := by
  intro pins s σ H vs us Q I r h
  obtain ⟨e, h⟩ := h
  subst e
  cases r
  exact assignInOrder_nil ⟨σ, H, I, h⟩
theorem pgs_cons {e : Expr} {es : List Expr} {t : TG} {u : TGs} (h1 : PG X e t) (h2 : PGs X es u)
    (hs : (assignEach (e :: es) X.env).map (·.2) = assign e X.env :: (assignEach es X.env).map (·.2) := by rfl) : PGs X (e :: es) (gCons t u) := by
  intro pins s σ H vs us Q I r h
  obtain ⟨v, vr, e1, h⟩ := h
  subst e1
  cases r with
  | cons r rr =>
    rw [hs]
    refine assignInOrder_cons (thn (h1 pins s σ H _ _ _ I r h) fun _ s1 ⟨σ1, H1, I1, q1⟩ => ?_)
    exact h2 pins s1 σ1 H1 _ _ Q I1 rr q1
def gSub (to ti : TE) (t : TSet) : TG := fun v σ H Q => to σ H fun o H1 => ti σ H1 fun i H2 => t o i v H2 fun H3 => Q σ H3
theorem pg_sub {o i : Expr} {to ti : TE} {t : TSet} (ho : PE X o to) (hi : PE X i ti) (hs : PSet X t)
    (ha : ∀ v, assign (.Subscript o i pos) X.env v = (do
      let ov ← holding [v] (eval o X.env)
      let iv ← holding [v, ov] (eval i X.env)
      standAt pos
      holding [v, ov, iv] (setItem ov iv v)
      release [v, ov, iv] []) := by intro _; rfl) : PG X (.Subscript o i pos) (gSub to ti t) := by
  intro pins s σ H v u Q I r h
  rw [ha]
  refine wpAny_bind (wpAny_holding (thn (ho pins s σ H _ I h) fun ov s1 ⟨x, H1, I1, r1, q1⟩ => ?_))
  refine wpAny_bind (wpAny_holding (thn (hi pins s1 σ H1 _ I1 q1) fun iv s2 ⟨y, H2, I2, r2, q2⟩ => ?_))
  refine wpAny_bind (wpAny_standAt (wpAny_bind (wpAny_holding (thn (hs pins s2 σ H2 x y v ov iv u _ I2 r1 r2 r q2) fun _ s3 ⟨H3, I3, q3⟩ => ?_))))
  exact wpAny_release ⟨σ, H3, I3, q3⟩
def tAsg (te : TE) (g : TG) : TS := fun D σ H => te σ H fun x H1 => g x σ H1 D.nx
theorem ps_asg {tg e : Expr} {te : TE} {g : TG} (he : PE X e te) (hg : PG X tg g) (hs : swapsWithSole [tg] e pos.line X.env = pure false := by rfl) (hw : swappedStores [tg] e X.env = pure none := by rfl)
    (h1 : (assignEach [tg] X.env).map (·.2) = [assign tg X.env] := by rfl) : PS X (.Assign [tg] e pos) (tAsg te g) := by
  intro pins s σ H D I h
  refine wpAny_Assign_stores (thn (he pins s σ H _ I h) fun v s1 ⟨x, H1, I1, r1, q1⟩ => ?_) hs hw
  rw [h1]
  exact thn (hg pins s1 σ H1 x v _ I1 r1 q1) fun _ s2 q => q
theorem ps_set {i : Nat} {x : Str} {e : Expr} {te : TE} {pos' : Pos} (hN : X.N.Nodup) (hi : X.N[i]? = some x) (hx : Loc X.env.scope x) (he : PE X e te) (hs : swapsWith e (some (.Name x pos')) pos.line X.env = pure false := by rfl) (hf : X.fn x = true ∨ X.env.scope.names.lookup x = some .local := by first | exact .inl rfl | exact .inr rfl | assumption) :
    PS X (.Assign [.Name x pos'] e pos) (tAsg te (gName i)) := by
  intro pins s σ H D I h
  refine wpAny_Assign_Name (thn (he pins s σ H _ I h) fun v s1 ⟨y, H1, I1, r1, q1⟩ => ?_) hs
  exact store_ok I1 hN hi hx r1 (fun s2 I2 => ⟨_, H1, I2, q1⟩) hf
def tAug (i : Nat) (te : TE) (ti : TIp) : TS := fun D σ H => ∃ x, σ[i]? = some (some x) ∧ te σ H fun y H1 => ti x y H1 fun z H2 => D.nx (σ.set i (some z)) H2
theorem ps_aug {i : Nat} {x : Str} {e : Expr} {te : TE} {op : Operator} {ti : TIp} {pos' : Pos} (hN : X.N.Nodup) (hi : X.N[i]? = some x) (hx : Loc X.env.scope x) (he : PE X e te) (ho : PIp X op ti) (hf : X.fn x = true ∨ X.env.scope.names.lookup x = some .local := by first | exact .inl rfl | exact .inr rfl | assumption) :
    PS X (.AugAssign (.Name x pos') op e pos) (tAug i te ti) := by
  intro pins s σ H D I h
  obtain ⟨v, e1, h⟩ := h
  obtain ⟨m, hn, hl⟩ := I.loc
  have vis : Vis X.env.scope x := by rcases hx with k | k; exact .inl k; exact .inr (.inl k)
  obtain ⟨u, r, l⟩ := hl i x v hi e1 vis
  refine wpAny_AugAssign_Name ?_
  have go : wpAny (model X.prog X.w) X.A (eval e X.env) (fun w s₂ => wpAny (model X.prog X.w) X.A (inplaceOp op u w) (fun r s₃ => wpAny (model X.prog X.w) X.A (storeName X.env x r) (fun _ => SP X pins D .next) X.xe s₃) X.xe s₂) X.xe s := by
    refine thn (he pins s σ H _ I h) fun w s1 ⟨y, H1, I1, r1, q1⟩ => ?_
    refine thn (ho pins s1 σ H1 v y u w _ I1 r r1 q1) fun z s2 ⟨zv, H2, I2, r2, q2⟩ => ?_
    exact store_ok I2 hN hi hx r2 (fun s3 I3 => ⟨_, H2, I3, q2⟩) hf
  rcases l with ⟨hk, hm⟩ | ⟨hk, c, hc, hcell⟩
  · exact wpAny_loadName_local I.ok.kind hk hn hm go
  · rcases hk with hk | hk
    · exact wpAny_loadName_cell I.ok.kind hk hc hcell go
    · rcases hx with k | k
      · have : X.env.scope.names.lookup x = some .free := hk
        rw [k] at this; cases this
      · have : X.env.scope.names.lookup x = some .free := hk
        rw [k] at this; cases this
def tAugS (to ti te : TE) (tget : V → V → Hp → VK → Prop) (tip : TIp) (tset : TSet) : TS := fun D σ H => to σ H fun o H1 => ti σ H1 fun i H2 => tget o i H2 fun x H3 => te σ H3 fun y H4 => tip x y H4 fun z H5 => tset o i z H5 fun H6 => D.nx σ H6
def PGet (X : Cx) (t : V → V → Hp → VK → Prop) : Prop :=
  ∀ (pins : List (Addr × Obj)) (s : Shared) (σ : St) (H : Hp) (o i : V) (ov iv : Value) (Q : VK), Inv X pins σ H s → RelV o ov → RelV i iv → t o i H Q →
    wpAny (model X.prog X.w) X.A (getItem ov iv) (EP X pins σ Q) X.xe s
theorem ps_augS {o i e : Expr} {to ti te : TE} {tget : V → V → Hp → VK → Prop} {tip : TIp} {tset : TSet} {op : Operator} {tpos : Pos} (ho : PE X o to) (hi : PE X i ti) (hg : PGet X tget) (he : PE X e te) (hp : PIp X op tip) (hs : PSet X tset)
    (ha : ∀ ov iv new, augStore i ov iv new = (do holding [new, ov, iv] (setItem ov iv new); release [new, ov, iv] []; pure .next) := by intros; rfl) : PS X (.AugAssign (.Subscript o i tpos) op e pos) (tAugS to ti te tget tip tset) := by
  intro pins s σ H D I h
  refine wpAny_AugAssign_SubscriptAny (thn (ho pins s σ H _ I h) fun ov s1 ⟨x1, H1, I1, r1, q1⟩ => ?_) ha
  refine thn (hi pins s1 σ H1 _ I1 q1) fun iv s2 ⟨x2, H2, I2, r2, q2⟩ => ?_
  refine thn (hg pins s2 σ H2 x1 x2 ov iv _ I2 r1 r2 q2) fun old s3 ⟨x3, H3, I3, r3, q3⟩ => ?_
  refine thn (he pins s3 σ H3 _ I3 q3) fun v s4 ⟨x4, H4, I4, r4, q4⟩ => ?_
  refine thn (hp pins s4 σ H4 x3 x4 old v _ I4 r3 r4 q4) fun new s5 ⟨x5, H5, I5, r5, q5⟩ => ?_
  exact thn (hs pins s5 σ H5 x1 x2 x5 ov iv new _ I5 r1 r2 r5 q5) fun _ s6 ⟨H6, I6, q6⟩ => ⟨σ, H6, I6, q6⟩
def ipI (f : Int → Int → Int) : TIp := fun x y H Q => ∃ i j, x = .int i ∧ y = .int j ∧ Q (.int (f i j)) H
theorem ip_add : PIp X .Add (ipI fun i j => i + j) := by
  intro pins s σ H x y v u Q I r1 r2 h
  obtain ⟨i, j, e1, e2, q⟩ := h
  subst e1; subst e2
  obtain ⟨t, rfl⟩ := r1
  obtain ⟨t', rfl⟩ := r2
  exact iadd_int ⟨.int _, H, I.tok _, ⟨_, rfl⟩, q⟩
end
section
variable {X : Cx} {pos : Pos}
def tWhile (c : TT) (tb : TS) : TS := fun D σ H => ∃ W : Nat → St → Hp → Prop, (∃ m, W m σ H) ∧ ∀ m σ H, W m σ H →
  c σ H fun b H1 => if b = true then ∃ N : St → Hp → Prop, (∀ σ' H', N σ' H' → ∃ m', m' < m ∧ W m' σ' H') ∧ tb { D with nx := N, ct := N, bk := D.nx } σ H1 else D.nx σ H1
theorem ps_while {c : Expr} {body : List Stmt} {tc : TT} {tb : TS} (hp : PassesOwn (model X.prog X.w) X.A X.env X.xe) (hc : PT X c tc) (hb : PSs X body tb) : PS X (.While c body [] pos) (tWhile tc tb) := by
  intro pins s σ H D I h
  obtain ⟨W, ⟨m0, w0⟩, turn⟩ := h
  refine wpAny_While (codeAny_whileLoop (fun n s' => ∃ σ' H', Inv X pins σ' H' s' ∧ W n σ' H') ?_ m0 ⟨σ, H, I, w0⟩)
  rintro n s1 ⟨σ1, H1, I1, w1⟩
  refine wpAny_passesOwn hp (thn (hc pins s1 σ1 H1 _ I1 (turn n σ1 H1 w1)) fun b s2 ⟨H2, I2, q2⟩ => ?_)
  cases b with
  | true =>
    obtain ⟨N, hN, q2⟩ := q2
    rw [if_pos rfl]
    refine wpAny_passesOwn hp (thn (hb pins s2 σ1 H2 _ I2 q2) fun f s3 q3 => ?_)
    cases f with
    | next =>
      obtain ⟨σ3, H3, I3, n3⟩ := q3
      obtain ⟨m', hm, w3⟩ := hN σ3 H3 n3
      exact ⟨m', hm, σ3, H3, I3, w3⟩
    | cont =>
      obtain ⟨σ3, H3, I3, n3⟩ := q3
      obtain ⟨m', hm, w3⟩ := hN σ3 H3 n3
      exact ⟨m', hm, σ3, H3, I3, w3⟩
    | brk => exact q3
    | ret v => exact q3
  | false =>
    rw [if_neg Bool.false_ne_true]
    exact wpAny_execs_nil ⟨σ1, H2, I2, q2⟩
end
structure It where
  go : Nat → Hp → Prop
  yld : Nat → Hp → V → Hp → Prop
  stop : Nat → Hp → Prop
def FpOk (X : Cx) (pins : List (Addr × Obj)) (H : Hp) (b : Addr) : Prop :=
  H b = none ∧ b ≠ X.env.locals ∧ b ∉ X.fs ∧ (b ∈ X.ex ∨ X.s₀.heap.objs.size ≤ b) ∧ (∀ x c, X.env.cells.lookup x = some c → c ≠ b) ∧ ∀ p ∈ X.pn ++ pins, p.1 ≠ b
theorem Inv.fpOk {X : Cx} {pins : List (Addr × Obj)} {σ : St} {H H' : Hp} {s : Shared} {b : Addr} (I : Inv X pins σ H s) (hb : s.heap.objs.size ≤ b) (hn : H' b = none) : FpOk X pins H' b := by
  refine ⟨hn, Nat.ne_of_gt (Nat.lt_of_lt_of_le I.lt hb), I.nofs hb, .inr (Nat.le_trans I.sz hb), fun x c e z => ?_, fun p hp z => ?_⟩
  · obtain ⟨v, q⟩ := I.cell x c e
    exact absurd (Nat.lt_of_lt_of_le q.lt (by rw [z]; exact hb)) (Nat.lt_irrefl _)
  · exact absurd (Nat.lt_of_lt_of_le (Heap.lt_size (I.pin p hp).1) (by rw [z]; exact hb)) (Nat.lt_irrefl _)
structure Turn (P : Program) (w : World) (K : PySem.W.Frag) (tg : Expr) (J : It) (fp : List Addr) (it : Addr) (tn : Nat → Heap → Prop) : Prop where
  mem : it ∈ fp
  obj : ∀ i h, tn i h → ∀ b ∈ fp, ∃ o, h.get? b = some o ∧ ∀ v, o.data ≠ .cell v
  keep : ∀ i h h', tn i h → (∀ b ∈ fp, ∀ o, h.get? b = some o → h'.get? b = some o) → tn i h'
  item : ∀ (X : Cx), X.prog = P → X.w = w → X.K = K → X.calm = true → ∀ (i : Nat) (pins : List (Addr × Obj)) (s : Shared) (σ : St) (H : Hp) (E : Value → Shared → Prop), Inv X pins σ H s → (∀ b ∈ fp, FpOk X pins H b) → tn i s.heap → J.go i H →
    wpAny (model P w) X.A (pyNext (.ref it)) (fun r s1 => ∃ u, r = some u ∧
      wpAny (model P w) X.A (letOwnedTupleGo tg (.ref it) u) (fun _ s2 => ∃ x H', Inv X pins σ H' s2 ∧ RelV x u ∧ J.yld i H x H' ∧ tn (i + 1) s2.heap ∧ ∀ b ∈ fp, H' b = none) E s1) E s
  done : ∀ (X : Cx), X.prog = P → X.w = w → X.K = K → X.calm = true → ∀ (i : Nat) (pins : List (Addr × Obj)) (s : Shared) (σ : St) (H : Hp) (E : Value → Shared → Prop), Inv X pins σ H s → (∀ b ∈ fp, FpOk X pins H b) → tn i s.heap → J.stop i H →
    wpAny (model P w) X.A (pyNext (.ref it)) (fun r s1 => r = none ∧ Inv X pins σ H s1) E s
  self : ∀ (A : Around) (i : Nat) (s : Shared) (Q : Value → Shared → Prop) (E : Value → Shared → Prop), tn i s.heap → Q (.ref it) s → wpAny (model P w) A (pyIter (.ref it)) Q E s
abbrev TI := St → Hp → (It → Hp → Prop) → Prop
def PIE (X : Cx) (pins : List (Addr × Obj)) (σ : St) (tg : Expr) (R : It → Hp → Prop) (itv : Value) (s2 : Shared) : Prop :=
  ∃ (it : Addr) (fp : List Addr) (tn : Nat → Heap → Prop) (J : It) (H' : Hp), itv = .ref it ∧ Inv X pins σ H' s2 ∧ Turn X.prog X.w X.K tg J fp it tn ∧ tn 0 s2.heap ∧ (∀ b ∈ fp, FpOk X pins H' b) ∧ R J H'
def PI (X : Cx) (tg iter : Expr) (wi : TI) : Prop :=
  ∀ (pins : List (Addr × Obj)) (s : Shared) (σ : St) (H : Hp) (R : It → Hp → Prop), Inv X pins σ H s → wi σ H R →
    wpAny (model X.prog X.w) X.A (eval iter X.env) (fun v s1 => wpAny (model X.prog X.w) X.A (pyIter v) (PIE X pins σ tg R) X.xe s1) X.xe s
theorem go_of {M : Model} {A : Around} {E : Value → Shared → Prop} {s : Shared} {tg : Expr} {it : Addr} {u : Value} {o : Obj} {n : String} {vs : Array Value} {Q : Unit → Shared → Prop} (ho : s.heap.get? it = some o) (hc : o.cls = .type n) (hd : o.data = .fields vs)
    (hn : ["enumerate", "zip", "dict_itemiterator", "dict_reverseitemiterator", "odict_iterator", "itertools.zip_longest", "itertools.pairwise"].contains n = false) (hQ : Q () s) : wpAny M A (letOwnedTupleGo tg (.ref it) u) Q E s := by
  unfold letOwnedTupleGo
  cases tg <;> first
    | exact wpAny_pure hQ
    | (cases u <;> first
        | exact wpAny_pure hQ
        | (refine wpAny_bind (wpAny_load ho ?_)
           rw [hc, hd]
           show wpAny M A (if (["enumerate", "zip", "dict_itemiterator", "dict_reverseitemiterator", "odict_iterator", "itertools.zip_longest", "itertools.pairwise"].contains n && vs[0]? == some (rawInt _)) = true then _ else _) Q E s
           rw [if_neg (by intro h; rw [hn, Bool.false_and] at h; cases h)]
           exact wpAny_pure hQ))
def Itl (K : PySem.W.Frag) (a : Addr) : It :=
  ⟨fun i H => ∃ xs x, SqL K H a xs ∧ xs[i]? = some x, fun i H x H' => H' = H ∧ ∀ xs, SqL K H a xs → xs[i]? = some x, fun i H => ∃ xs, SqL K H a xs ∧ xs.length ≤ i⟩
def Itr (lo : Int) (n : Nat) : It := ⟨fun i _ => i < n, fun i H x H' => H' = H ∧ x = .int (lo + i), fun i _ => n ≤ i⟩
theorem turn_list {P : Program} {w : World} {K : PySem.W.Frag} {tg : Expr} (a it : Addr) : Turn P w K tg (Itl K a) [it] it (fun i h => h.IsListIter it a i) where
  mem := by simp
  obj := fun i h st b hb => by
    have e : b = it := by simpa using hb
    subst e
    obtain ⟨o, e, c, d⟩ := st
    exact ⟨o, e, fun v z => by rw [d] at z; cases z⟩
  keep := fun i h h' st k => st.at fun o e => k it (by simp) o e
  item := by
    intro X hP hw hK hc i pins s σ H E I hf st hg
    subst hP hw hK
    obtain ⟨xs, x, hq, hx⟩ := hg
    obtain ⟨its, rv, p, hz⟩ := I.list hq
    obtain ⟨u, hu, ru⟩ := rv.get hx
    obtain ⟨f0, f1, f2, f3, f4, f5⟩ := hf it (by simp)
    refine wpAny_pyNext_list_item st p.isList (x := u) (by simpa using hu) fun h' st' sb => ?_
    have I1 : Inv X pins σ H { s with heap := h' } := I.turned (t' := s.toks) (fun b o hb e => (sb.2 b hb).trans e) f0 f1 f3 f4 f5
    obtain ⟨o, e, c, d⟩ := id st'
    exact ⟨u, rfl, go_of (s := { s with heap := h' }) e c d (by decide) ⟨x, H, I1, ru, ⟨rfl, fun ys hy => by rw [I.list_inj hy hq]; exact hx⟩, st', fun b hb => (hf b hb).1⟩⟩
  done := by
    intro X hP hw hK hc i pins s σ H E I hf st hg
    subst hP hw hK
    obtain ⟨xs, hq, hx⟩ := hg
    obtain ⟨its, rv, p, hz⟩ := I.list hq
    obtain ⟨f0, f1, f2, f3, f4, f5⟩ := hf it (by simp)
    have hl := rv.length
    exact wpAny_pyNext_list_end (I.ok.hd hc) st p.isList (by simp; omega) fun h' eb => ⟨rfl, I.turned (t' := s.toks) (fun b o hb e => eb b o hb e) f0 f1 f3 f4 f5⟩
  self := fun _ _ _ _ _ st h => wpAny_pyIter_listiter st h
theorem turn_range {P : Program} {w : World} {K : PySem.W.Frag} {tg : Expr} (it : Addr) (lo : Int) (n : Nat) : Turn P w K tg (Itr lo n) [it] it (fun i h => IsRangeIter h it (lo + (i : Nat) * 1) ((n : Int) - (i : Nat)) 1) where
  mem := by simp
  obj := fun i h st b hb => by
    have e : b = it := by simpa using hb
    subst e
    exact ⟨_, st, fun v z => by
      have z' : Data.fields _ = Data.cell v := z
      cases z'⟩
  keep := fun i h h' st k => k it (by simp) _ st
  item := by
    intro X hP hw hK hc i pins s σ H E I hf st hg
    subst hP hw hK
    obtain ⟨f0, f1, f2, f3, f4, f5⟩ := hf it (by simp)
    have W := Walks.range (prog := X.prog) (w := X.w) (I.ok.hd hc) it lo 1 n
    refine W.item i s _ _ hg st fun v h' tk hv st' kk => ?_
    obtain ⟨t, rfl⟩ := hv
    have I1 : Inv X pins σ H { s with heap := h', toks := tk } := I.turned (fun b o hb e => kk b o (by simpa using hb) e) f0 f1 f3 f4 f5
    refine ⟨_, rfl, go_of (s := { s with heap := h', toks := tk }) (n := "range_iterator") st' rfl rfl (by decide) ⟨.int (lo + i), H, I1, ⟨t, ?_⟩, ⟨rfl, rfl⟩, st', fun b hb => (hf b hb).1⟩⟩
    rw [Int.mul_one]
  done := by
    intro X hP hw hK hc i pins s σ H E I hf st hg
    subst hP hw hK
    obtain ⟨f0, f1, f2, f3, f4, f5⟩ := hf it (by simp)
    exact wpAny_pyNext_range_end (I.ok.hd hc) st (by have : n ≤ i := hg; omega) fun h' eb => ⟨rfl, I.turned (t' := s.toks) (fun b o hb e => eb b o hb e) f0 f1 f3 f4 f5⟩
  self := fun _ _ _ _ _ st h => wpAny_pyIter_rangeiter st h
end L2
namespace L2
open PySem PySem.Spec PyProof.Rows
section
variable {X : Cx} {tg : Expr}
def iList (K : PySem.W.Frag) (tl : TE) : TI := fun σ H R => tl σ H fun x H1 => ∃ a, x = .ref a ∧ (∃ xs, SqL K H1 a xs) ∧ R (Itl K a) H1
theorem pi_list {l : Expr} {tl : TE} (hl : PE X l tl) : PI X tg l (iList X.K tl) := by
  intro pins s σ H R I h
  refine thn (hl pins s σ H _ I h) fun v s1 ⟨x, H1, I1, r1, q1⟩ => ?_
  obtain ⟨a, e, ⟨xs, hq⟩, q⟩ := q1
  subst e
  cases r1
  obtain ⟨its, rv, p, hz⟩ := I1.list hq
  refine wpAny_pyIter_list p.isList ?_
  refine ⟨s1.heap.objs.size, [s1.heap.objs.size], _, _, H1, rfl, I1.kept (t' := s1.toks) fun b o e => Heap.get?_push_of_some _ e, turn_list a _, ⟨_, Heap.get?_push_size _ rfl, rfl, rfl⟩, fun b hb => ?_, q⟩
  have e : b = s1.heap.objs.size := by simpa using hb
  subst e
  exact I1.fpOk (Nat.le_refl _) (I1.hok.fresh (Nat.le_refl _))
theorem range_it {pins : List (Addr × Obj)} {σ : St} {H : Hp} {s : Shared} {R : It → Hp → Prop} {E : Value → Shared → Prop} {lo hi : Int} {t u v : Tok} {tk : Nat} (I : Inv X pins σ H s) (h1 : -(2 ^ 62) ≤ lo) (h2 : lo < 2 ^ 62) (h3 : -(2 ^ 62) ≤ hi) (h4 : hi < 2 ^ 62)
    (q : R (Itr lo (hi - lo).toNat) H) : wpAny (model X.prog X.w) X.A (pyIter (.ref s.heap.objs.size)) (PIE X pins σ tg R) E { s with heap := s.heap.push { cls := .type "range", data := .fields #[.int lo t, .int hi u, .int 1 v] }, toks := tk } := by
  refine wpAny_pyIter_range (IsRange.new ..) (small_one h1 h2 h3 h4) ?_
  have I1 : Inv X pins σ H { s with heap := s.heap.push { cls := .type "range", data := .fields #[.int lo t, .int hi u, .int 1 v] }, toks := tk } := I.kept fun b o e => Heap.get?_push_of_some _ e
  refine ⟨(s.heap.push { cls := .type "range", data := .fields #[.int lo t, .int hi u, .int 1 v] }).objs.size, [(s.heap.push { cls := .type "range", data := .fields #[.int lo t, .int hi u, .int 1 v] }).objs.size], _, _, H, rfl,
    I1.kept (t' := tk) fun b o e => Heap.get?_push_of_some _ e, turn_range _ lo (hi - lo).toNat, ?_, fun b hb => ?_, q⟩
  · have e1 : lo + ((0 : Nat) : Int) * 1 = lo := by simp
    have e2 : (((hi - lo).toNat : Nat) : Int) - ((0 : Nat) : Int) = Builtin.Range.rangeSize lo hi 1 := by rw [rangeSize_one]; split <;> omega
    show IsRangeIter _ _ (lo + ((0 : Nat) : Int) * 1) ((((hi - lo).toNat : Nat) : Int) - ((0 : Nat) : Int)) 1
    rw [e1, e2]
    exact Heap.get?_push_size _ rfl
  · have e : b = (s.heap.push { cls := .type "range", data := .fields #[.int lo t, .int hi u, .int 1 v] }).objs.size := by simpa using hb
    subst e
    exact I1.fpOk (Nat.le_refl _) (I1.hok.fresh (Nat.le_refl _))
def iRng1 (ta : TA) : TI := fun σ H R => ta σ H fun vs H1 => ∃ j : Int, vs = [.int j] ∧ -(2 ^ 62) ≤ j ∧ j < 2 ^ 62 ∧ R (Itr 0 j.toNat) H1
theorem pi_range1 {a : Expr} {ta : TA} {p pos : Pos} (hg : Gl X "range") (hm : X.mg "range" = none) (ha : PA X [a] ta) (hs : starEach [a] X.env = [(false, eval a X.env)] := by rfl) : PI X tg (.Call (.Name "range" p) [a] [] pos) (iRng1 ta) := by
  intro pins s σ H R I h
  refine Call_ (ld_blt I hg hm boot_range (PyProof.Rows.callWith_type1 (thn (ha pos pins s σ H _ I h) fun us s1 ⟨vs, H1, I1, r1, q1⟩ => ?_) hs rfl))
  obtain ⟨j, e, q1, q2, q⟩ := q1
  subst e
  cases r1 with
  | cons r rr =>
    cases rr
    obtain ⟨t, rfl⟩ := r
    exact call_range_1 (range_it I1 (by omega) (by omega) q1 q2 (by simpa using q))
def tFor (wi : TI) (g : TG) (tb : TS) : TS := fun D σ H => wi σ H fun J H1 => ∃ W : Nat → Nat → St → Hp → Prop, (∃ m, W 0 m σ H1) ∧ ∀ i m σ H, W i m σ H →
  (J.stop i H ∧ D.nx σ H) ∨ (J.go i H ∧ ∃ N : St → Hp → Prop, (∀ σ' H', N σ' H' → ∃ m', m' < m ∧ W (i + 1) m' σ' H') ∧ ∀ x H', J.yld i H x H' → g x σ H' fun σ2 H2 => tb { D with nx := N, ct := N, bk := D.nx } σ2 H2)
def pinsAt (fp : List Addr) (h : Heap) : List (Addr × Obj) := fp.filterMap fun b => (h.get? b).map fun o => (b, o)
theorem mem_pinsAt {fp : List Addr} {h : Heap} {b : Addr} {o : Obj} (hb : b ∈ fp) (e : h.get? b = some o) : (b, o) ∈ pinsAt fp h := List.mem_filterMap.mpr ⟨b, hb, by rw [e]; rfl⟩
theorem of_pinsAt {fp : List Addr} {h : Heap} {p : Addr × Obj} (hp : p ∈ pinsAt fp h) : p.1 ∈ fp ∧ h.get? p.1 = some p.2 := by
  obtain ⟨b, hb, e⟩ := List.mem_filterMap.mp hp
  cases q : h.get? b with
  | none => rw [q] at e; cases e
  | some o =>
    rw [q] at e
    have e' : (b, o) = p := Option.some.inj e
    subst e'
    exact ⟨hb, q⟩
theorem Inv.pinned {pins : List (Addr × Obj)} {σ : St} {H : Hp} {s : Shared} {fp : List Addr} (I : Inv X pins σ H s) (hf : ∀ b ∈ fp, FpOk X pins H b) (ho : ∀ b ∈ fp, ∃ o, s.heap.get? b = some o ∧ ∀ v, o.data ≠ .cell v) : Inv X (pins ++ pinsAt fp s.heap) σ H s :=
  I.pins_of fun p hp => (List.mem_append.mp hp).elim (fun z => I.pin p (List.mem_append_right _ z)) fun z => by
    obtain ⟨hb, e⟩ := of_pinsAt z
    obtain ⟨f0, f1, f2, _⟩ := hf p.1 hb
    obtain ⟨o, e', d⟩ := ho p.1 hb
    rw [e] at e'; cases e'
    exact ⟨e, f0, f1, f2, d⟩
theorem Inv.unpinned {pins pl : List (Addr × Obj)} {σ : St} {H : Hp} {s : Shared} (I : Inv X (pins ++ pl) σ H s) : Inv X pins σ H s := I.pins_of fun p hp => I.pin p (List.mem_append_right _ (List.mem_append_left _ hp))
theorem ps_for {iter : Expr} {body : List Stmt} {wi : TI} {g : TG} {tb : TS} {pos : Pos} (hp : PassesOwn (model X.prog X.w) X.A X.env X.xe) (hc : X.calm = true) (hi : PI X tg iter wi) (hg : PG X tg g) (hb : PSs X body tb)
    (hs : ∀ x, foldedSetIterable iter X.env x = pure x := by intro _; rfl) : PS X (.For tg iter body [] pos) (tFor wi g tb) := by
  intro pins s σ H D I h
  refine wpAny_For (thn (hi pins s σ H _ I h) fun v s1 h1 => thn h1 fun itv s2 h2 => ?_) hs
  obtain ⟨it, fp, tn, J, H2, e, I2, T, st2, f2, W, ⟨m0, w0⟩, turn⟩ := h2
  subst e
  have stat : ∀ {H' : Hp}, (∀ b ∈ fp, H' b = none) → ∀ b ∈ fp, FpOk X pins H' b := fun hn b hb => ⟨hn b hb, (f2 b hb).2⟩
  refine codeAny_forLoop_any (fun n s' => ∃ i σ' H', Inv X pins σ' H' s' ∧ tn i s'.heap ∧ (∀ b ∈ fp, H' b = none) ∧ W i n σ' H') ?_ m0 ⟨0, σ, H2, I2, st2, fun b hb => (f2 b hb).1, w0⟩
  rintro n s3 ⟨i, σ3, H3, I3, st3, fr3, w3⟩
  rcases turn i n σ3 H3 w3 with ⟨stop, qn⟩ | ⟨go, N, hN, step⟩
  · refine wpAny_passesOwn hp (thn (T.done X rfl rfl rfl hc i pins s3 σ3 H3 X.xe I3 (stat fr3) st3 stop) fun r s4 ⟨hr, I4⟩ => ?_)
    subst hr
    exact wpAny_execs_nil ⟨σ3, H3, I4, qn⟩
  · refine wpAny_passesOwn hp (thn (T.item X rfl rfl rfl hc i pins s3 σ3 H3 X.xe I3 (stat fr3) st3 go) fun r s4 ⟨u, hr, h4⟩ => ?_)
    subst hr
    refine wpAny_passesOwn hp (thn h4 fun _ s5 ⟨x, H5, I5, r5, y5, st5, fr5⟩ => ?_)
    have I5' := I5.pinned (stat fr5) (T.obj _ _ st5)
    refine wpAny_passesOwn hp (thn (hg _ s5 σ3 H5 x u _ I5' r5 (step x H5 y5)) fun _ s6 ⟨σ6, H6, I6, q6⟩ => ?_)
    refine wpAny_passesOwn hp (thn (hb _ s6 σ6 H6 _ I6 q6) fun f s7 q7 => ?_)
    have again : ∀ {σ7 : St} {H7 : Hp}, Inv X (pins ++ pinsAt fp s5.heap) σ7 H7 s7 → N σ7 H7 → ∃ m, m < n ∧ ∃ i σ' H', Inv X pins σ' H' s7 ∧ tn i s7.heap ∧ (∀ b ∈ fp, H' b = none) ∧ W i m σ' H' := fun {σ7 H7} I7 n7 => by
      obtain ⟨m', hm, w7⟩ := hN σ7 H7 n7
      refine ⟨m', hm, i + 1, σ7, H7, I7.unpinned, T.keep _ _ _ st5 fun b hb o e => (I7.pin (b, o) (List.mem_append_right _ (List.mem_append_right _ (mem_pinsAt hb e)))).1, fun b hb => ?_, w7⟩
      obtain ⟨o, e, d⟩ := T.obj _ _ st5 b hb
      exact (I7.pin (b, o) (List.mem_append_right _ (List.mem_append_right _ (mem_pinsAt hb e)))).2.1
    cases f with
    | next => obtain ⟨σ7, H7, I7, n7⟩ := q7; exact again I7 n7
    | cont => obtain ⟨σ7, H7, I7, n7⟩ := q7; exact again I7 n7
    | brk => obtain ⟨σ7, H7, I7, q7⟩ := q7; exact ⟨σ7, H7, I7.unpinned, q7⟩
    | ret v => obtain ⟨x7, σ7, H7, I7, r7, q7⟩ := q7; exact ⟨x7, σ7, H7, I7.unpinned, r7, q7⟩
end
end L2
namespace L2
open PySem PySem.Spec PyProof.Rows
abbrev R2 := V → V → Hp → VK → Prop
def OpR (X : Cx) (f : Value → Value → Sem Value) (r : R2) : Prop :=
  ∀ (pins : List (Addr × Obj)) (s : Shared) (σ : St) (H : Hp) (x y : V) (v u : Value) (Q : VK), Inv X pins σ H s → RelV x v → RelV y u → r x y H Q →
    wpAny (model X.prog X.w) X.A (f v u) (EP X pins σ Q) X.xe s
def UnR (X : Cx) (f : Value → Sem Value) (r : V → Hp → VK → Prop) : Prop :=
  ∀ (pins : List (Addr × Obj)) (s : Shared) (σ : St) (H : Hp) (x : V) (v : Value) (Q : VK), Inv X pins σ H s → RelV x v → r x H Q →
    wpAny (model X.prog X.w) X.A (f v) (EP X pins σ Q) X.xe s
def CallR (X : Cx) (f : Value) (r : List V → Hp → VK → Prop) : Prop :=
  ∀ (pins : List (Addr × Obj)) (s : Shared) (σ : St) (H : Hp) (xs : List V) (us : List Value) (Q : VK), Inv X pins σ H s → Vals xs us → r xs H Q →
    wpAny (model X.prog X.w) X.A (call f us) (EP X pins σ Q) X.xe s
def tOp (r : R2) (ta tb : TE) : TE := fun σ H Q => ta σ H fun x H1 => tb σ H1 fun y H2 => r x y H2 Q
def tUn (r : V → Hp → VK → Prop) (ta : TE) : TE := fun σ H Q => ta σ H fun x H1 => r x H1 Q
def rI (C : Int → Int → Prop) (g : Int → Int → V) : R2 := fun x y H Q => ∃ i j, x = .int i ∧ y = .int j ∧ C i j ∧ Q (g i j) H
def rI0 (g : Int → Int → V) : R2 := fun x y H Q => ∃ i j, x = .int i ∧ y = .int j ∧ Q (g i j) H
def rU (g : Int → V) : V → Hp → VK → Prop := fun x H Q => ∃ i, x = .int i ∧ Q (g i) H
section
variable {X : Cx} {a b c : Expr} {ta tb tc : TE} {pos : Pos}
theorem binT (ha : PE X a ta) (hb : PE X b tb) {pins : List (Addr × Obj)} {s : Shared} {σ : St} {H : Hp} {R : V → V → Hp → Prop} (I : Inv X pins σ H s)
    (h : ta σ H fun x H1 => tb σ H1 fun y H2 => R x y H2) {Q : Value → Shared → Prop} {f : Value → Value → Sem Value}
    (hf : ∀ v u s2 x y H2, Inv X pins σ H2 s2 → RelV x v → RelV y u → R x y H2 → wpAny (model X.prog X.w) X.A (f v u) Q X.xe s2) :
    wpAny (model X.prog X.w) X.A (eval a X.env) (fun v s₁ => wpAny (model X.prog X.w) X.A (eval b X.env) (fun u s₂ => wpAny (model X.prog X.w) X.A (f v u) Q X.xe s₂) X.xe s₁) X.xe s := by
  refine thn (ha pins s σ H _ I h) fun v s1 ⟨x, H1, I1, r1, q1⟩ => ?_
  refine thn (hb pins s1 σ H1 _ I1 q1) fun u s2 ⟨y, H2, I2, r2, q2⟩ => ?_
  exact hf v u s2 x y H2 I2 r1 r2 q2
theorem pe_op {op : Operator} {r : R2} (ho : OpR X (binaryOp op) r) (ha : PE X a ta) (hb : PE X b tb) : PE X (.BinOp a op b pos) (tOp r ta tb) := by
  intro pins s σ H Q I h
  exact wpAny_BinOp (binT ha hb I h fun v u s2 x y H2 I2 rx ry q => ho pins s2 σ H2 x y v u Q I2 rx ry q)
theorem pe_un {op : UnaryOp} {r : V → Hp → VK → Prop} (ho : UnR X (unaryOp op) r) (ha : PE X a ta) : PE X (.UnaryOp op a pos) (tUn r ta) := by
  intro pins s σ H Q I h
  exact UnaryOp_ (thn (ha pins s σ H _ I h) fun v s1 ⟨x, H1, I1, r1, q1⟩ => ho pins s1 σ H1 x v Q I1 r1 q1)
theorem opI {f : Value → Value → Sem Value} {C : Int → Int → Prop} {g : Int → Int → Int}
    (rule : ∀ (i j : Int) (t u : Tok) (s : Shared) (Q : Value → Shared → Prop) (E : Value → Shared → Prop), C i j → Q (.int (g i j) s.toks) { s with toks := s.toks + 1 } → wpAny (model X.prog X.w) X.A (f (.int i t) (.int j u)) Q E s) :
    OpR X f (rI C fun i j => .int (g i j)) := by
  intro pins s σ H x y v u Q I rx ry h
  obtain ⟨i, j, rfl, rfl, hc, q⟩ := h
  obtain ⟨t, rfl⟩ := rx
  obtain ⟨t', rfl⟩ := ry
  exact rule i j t t' s _ _ hc ⟨.int (g i j), H, I.tok _, ⟨_, rfl⟩, q⟩
theorem opI0 {f : Value → Value → Sem Value} {g : Int → Int → Int}
    (rule : ∀ (i j : Int) (t u : Tok) (s : Shared) (Q : Value → Shared → Prop) (E : Value → Shared → Prop), Q (.int (g i j) s.toks) { s with toks := s.toks + 1 } → wpAny (model X.prog X.w) X.A (f (.int i t) (.int j u)) Q E s) :
    OpR X f (rI0 fun i j => .int (g i j)) := by
  intro pins s σ H x y v u Q I rx ry h
  obtain ⟨i, j, rfl, rfl, q⟩ := h
  obtain ⟨t, rfl⟩ := rx
  obtain ⟨t', rfl⟩ := ry
  exact rule i j t t' s _ _ ⟨.int (g i j), H, I.tok _, ⟨_, rfl⟩, q⟩
theorem opB0 {f : Value → Value → Sem Value} {g : Int → Int → Bool}
    (rule : ∀ (i j : Int) (t u : Tok) (s : Shared) (Q : Value → Shared → Prop) (E : Value → Shared → Prop), Q (.bool (g i j)) s → wpAny (model X.prog X.w) X.A (f (.int i t) (.int j u)) Q E s) :
    OpR X f (rI0 fun i j => .bl (g i j)) := by
  intro pins s σ H x y v u Q I rx ry h
  obtain ⟨i, j, rfl, rfl, q⟩ := h
  obtain ⟨t, rfl⟩ := rx
  obtain ⟨t', rfl⟩ := ry
  exact rule i j t t' s _ _ ⟨.bl (g i j), H, I, rfl, q⟩
def CDiv (i j : Int) : Prop := 0 < j ∧ j < 1073741824
def CMul (i j : Int) : Prop := (-(2 ^ 64) < i ∧ i < 2 ^ 64) ∨ (-(2 ^ 64) < j ∧ j < 2 ^ 64)
theorem CMul.ok {i j : Int} (h : CMul i j) : IntMulOk i j := by
  rcases h with ⟨h1, h2⟩ | ⟨h1, h2⟩
  · exact .of_left (intBits_le_64 h1 h2)
  · exact .of_right (intBits_le_64 h1 h2)
theorem op_add : OpR X (binaryOp .Add) (rI0 fun i j => .int (i + j)) := opI0 fun _ _ _ _ _ _ _ q => add_int q
theorem op_sub : OpR X (binaryOp .Sub) (rI0 fun i j => .int (i - j)) := opI0 fun _ _ _ _ _ _ _ q => sub_int q
theorem op_fdiv : OpR X (binaryOp .FloorDiv) (rI CDiv fun i j => .int (i / j)) := opI fun i j _ _ _ _ _ hc q => by
  have h1 : (0 : Int) < j := hc.1
  have h2 : j < 1073741824 := hc.2
  exact floordiv_int (by omega) (by rw [Int.fdiv_eq_ediv_of_nonneg i (by omega)]; exact q) (.inl (PyProof.noPylong_small (by omega)))
theorem op_mod : OpR X (binaryOp .Mod) (rI (fun _ j => 0 < j) fun i j => .int (i % j)) := opI fun i j _ _ _ _ _ hc q => by
  have h1 : (0 : Int) < j := hc
  exact mod_int' (by omega) (by rw [Int.fmod_eq_emod_of_nonneg i (by omega)]; exact q)
theorem unI {f : Value → Sem Value} {g : Int → Int}
    (rule : ∀ (i : Int) (t : Tok) (s : Shared) (Q : Value → Shared → Prop) (E : Value → Shared → Prop), Q (.int (g i) s.toks) { s with toks := s.toks + 1 } → wpAny (model X.prog X.w) X.A (f (.int i t)) Q E s) :
    UnR X f (rU fun i => .int (g i)) := by
  intro pins s σ H x v Q I rx h
  obtain ⟨i, rfl, q⟩ := h
  obtain ⟨t, rfl⟩ := rx
  exact rule i t s _ _ ⟨.int (g i), H, I.tok _, ⟨_, rfl⟩, q⟩
theorem un_neg : UnR X (unaryOp .USub) (rU fun i => .int (-i)) := unI fun _ _ _ _ _ q => neg_int q
end
section
variable {X : Cx} {a b c : Expr} {ta tb tc : TE} {pos : Pos}
theorem op_lt : OpR X (compareOp .Lt) (rI0 fun i j => .bl (decide (i < j))) := opB0 fun _ _ _ _ _ _ _ q => lt_int q
theorem op_le : OpR X (compareOp .LtE) (rI0 fun i j => .bl (decide (i ≤ j))) := opB0 fun _ _ _ _ _ _ _ q => le_int q
theorem op_gt : OpR X (compareOp .Gt) (rI0 fun i j => .bl (decide (j < i))) := opB0 fun _ _ _ _ _ _ _ q => gt_int q
theorem op_ge : OpR X (compareOp .GtE) (rI0 fun i j => .bl (decide (j ≤ i))) := opB0 fun _ _ _ _ _ _ _ q => ge_int q
theorem OpR.or {f : Value → Value → Sem Value} {r r' : R2} (h : OpR X f r) (h' : OpR X f r') : OpR X f (fun x y H Q => r x y H Q ∨ r' x y H Q) := by
  intro pins s σ H x y v u Q I rx ry q
  rcases q with q | q
  · exact h pins s σ H x y v u Q I rx ry q
  · exact h' pins s σ H x y v u Q I rx ry q
theorem nomark (b : Expr) {op : CmpOp} (h : op ≠ .In := by decide) (h2 : op ≠ .NotIn := by decide) : behindInMarks op b = false := by
  have e1 : (op == CmpOp.In) = false := by cases op <;> first | rfl | exact absurd rfl h
  have e2 : (op == CmpOp.NotIn) = false := by cases op <;> first | rfl | exact absurd rfl h2
  cases b <;> simp [behindInMarks, e1, e2]
theorem pe_cmpR {op : CmpOp} {r : R2} (ho : OpR X (compareOp op) r) (ha : PE X a ta) (hb : PE X b tb) (hm : behindInMarks op b = false) : PE X (.Compare a [op] [b] pos) (tOp r ta tb) := by
  intro pins s σ H Q I h
  exact wpAny_Compare1 (binT ha hb I h fun v u s2 x y H2 I2 rx ry q => ho pins s2 σ H2 x y v u Q I2 rx ry q) hm
def tTest (t : TE) : TT := fun σ H Q => t σ H fun x H' => ∃ k, x = .bl k ∧ Q k H'
theorem pt_cmpR {op : CmpOp} {r : R2} (ho : OpR X (compareOp op) r) (ha : PE X a ta) (hb : PE X b tb) (hm : behindInMarks op b = false) : PT X (.Compare a [op] [b] pos) (tTest (tOp r ta tb)) := by
  intro pins s σ H Q I h
  refine wpAny_isTrue_Compare1 (thn (ha pins s σ H _ I h) fun v s1 ⟨x, H1, I1, r1, q1⟩ => thn (hb pins s1 σ H1 _ I1 q1) fun u s2 ⟨y, H2, I2, r2, q2⟩ =>
    thn (ho pins s2 σ H2 x y v u _ I2 r1 r2 q2) fun c s3 ⟨z, H3, I3, r3, k, e, q3⟩ => ?_) hm
  subst e
  cases r3
  exact wpAny_truthy_bool ⟨H3, I3, q3⟩
theorem line63 : (sizeLine : Nat) < 2 ^ 63 := by rw [sizeLine_eq]; decide
theorem op_add_str : OpR X (binaryOp .Add) (fun x y H Q => ∃ i j, x = .str i ∧ y = .str j ∧ i.length + j.length ≤ sizeLine ∧ Q (.str (i ++ j)) H) := by
  intro pins s σ H x y v u Q I rx ry h
  obtain ⟨i, j, rfl, rfl, hz, q⟩ := h
  obtain ⟨t, rfl⟩ := rx
  obtain ⟨t', rfl⟩ := ry
  exact add_str (fun t' tk => ⟨.str (i ++ j), H, I.tok _, ⟨_, rfl⟩, q⟩) hz
theorem vals1 {x : V} {us : List Value} (r : Vals [x] us) : ∃ u, us = [u] ∧ RelV x u := by
  cases r with
  | cons r1 r2 => cases r2; exact ⟨_, rfl, r1⟩
theorem vals2 {x y : V} {us : List Value} (r : Vals [x, y] us) : ∃ u w', us = [u, w'] ∧ RelV x u ∧ RelV y w' := by
  cases r with
  | cons r1 r2 =>
    cases r2 with
    | cons r3 r4 => cases r4; exact ⟨_, _, rfl, r1, r3⟩
theorem call_int1 : CallR X (.type "int") (fun xs H Q => (∃ i, xs = [.int i] ∧ Q (.int i) H) ∨ ∃ k, xs = [.bl k] ∧ Q (.int (if k then 1 else 0)) H) := by
  intro pins s σ H xs us Q I r h
  rcases h with ⟨i, rfl, q⟩ | ⟨k, rfl, q⟩
  · obtain ⟨u, rfl, t, rfl⟩ := vals1 r
    exact call_int_int ⟨.int i, H, I, ⟨_, rfl⟩, q⟩
  · obtain ⟨u, rfl, r1⟩ := vals1 r
    cases r1
    exact call_int_bool ⟨.int (if k then 1 else 0), H, I.tok _, ⟨_, rfl⟩, q⟩
end
end L2
namespace L2
open PySem PySem.Spec PyProof.Rows
structure ObjM (h : Heap) (x dx C : Addr) (mA : Str → Option Value) : Prop where
  obj : h.get? x = some (PySem.W.instObj C dx)
  ns : h.Ns1 dx mA
  ne : dx ≠ x
theorem lookIn_ns {h : Heap} {dx : Addr} {mA : Str → Option Value} (n : h.Ns1 dx mA) : ∃ od, h.get? dx = some od ∧ ∀ name, PySem.W.lookIn name od = some (mA name) := by
  obtain ⟨o, es, ep, ho, hd, hk, _, hm⟩ := n
  refine ⟨o, ho, fun name => ?_⟩
  have e := hm name
  unfold nsFind findBy at e
  rw [← Array.find?_toList] at e
  unfold PySem.W.lookIn
  rw [hd]
  dsimp only
  split
  · rename_i y q
    rw [q] at e
    exact congrArg some e
  · rename_i q
    rw [q] at e
    have a : es.toList.any (·.refKey) = false := by
      rw [List.any_eq_false]
      intro y hy
      obtain ⟨z, t, hkey⟩ := hk y (Array.mem_toList_iff.mp hy)
      simp [DictEntry.refKey, hkey]
    have a' : ¬ es.toList.any (·.refKey) = true := by rw [a]; exact Bool.false_ne_true
    rw [if_neg a']
    exact congrArg some e
theorem ObjM.look {h : Heap} {x dx C : Addr} {mA : Str → Option Value} (I : ObjM h x dx C mA) : ∃ od, PySem.W.InstAt h x (PySem.W.instObj C dx) C (some od) ∧ ∀ name, PySem.W.lookIn name od = some (mA name) :=
  let ⟨od, ho, hl⟩ := lookIn_ns I.ns
  ⟨od, ⟨I.obj, rfl, rfl, ho⟩, hl⟩
section
variable {prog : Program} {w : World} {A : Around} {E : Value → Shared → Prop} {s : Shared} {K : PySem.W.Frag} {x dx C f : Addr} {mA : Str → Option Value} {name : Str} {v : Value}
end
theorem RelO.none_of {o : Option Value} (r : RelO none o) : o = none := by
  cases o with
  | none => rfl
  | some u => exact (show False from r).elim
section
variable {P : Program} {w : World} {H H' : Hp} {h h' : Heap} {a C dx : Addr} {fs fs' : List (Str × V)}
theorem ins_get (hok : HOk P w H h) (e : H a = some (.ins C dx fs)) : ∃ mA, ObjM h a dx C mA ∧ (∀ f, RelO (fs.lookup f) (mA f)) ∧ PySem.Within mA (fs.map (·.1)) ∧ fs.length ≤ 1000 ∧ H dx = some (.own a) := by
  obtain ⟨d, z, ne, ob, mA, n, r, q⟩ := (show ObjOk P w H h a (.ins C dx fs) from hok a _ e)
  exact ⟨mA, ⟨ob, n, ne⟩, r, q, z, d⟩
end
structure Cls (K : PySem.W.Frag) (C : Addr) : Prop where
  pg : PySem.W.plainGet K C Str.empty = true
  hd : PySem.W.hasDictIn K C = true
  po : PySem.W.plainOver K C = true
  sa : PySem.W.findIn K (.ref C) "__setattr__" = some (some (.builtin "object.__setattr__"))
theorem Cls.get {K : PySem.W.Frag} {C : Addr} (c : Cls K C) (f : Str) : PySem.W.plainGet K C f = true := c.pg
structure Con (K : PySem.W.Frag) (C : Addr) (f : Str) (v : V) (u : Value) : Prop where
  at_ : PySem.W.findIn K (.ref C) f = some (some u)
  rel : RelV v u
  get : PySem.W.specialIn K u "__get__" = some none
  cp : PySem.W.copiedNames.contains f = false
structure Meth (K : PySem.W.Frag) (C : Addr) (m : Str) (f : Addr) : Prop where
  at_ : PySem.W.findIn K (.ref C) m = some (some (.ref f))
  fn : PySem.W.isFn K (.ref f) = true
  kp : PySem.W.keepIn K (.ref f) = true
section
variable {X : Cx} {pins : List (Addr × Obj)} {σ : St} {H : Hp} {s : Shared} {a C dx : Addr} {fs : List (Str × V)} {f : Str} {v : V} {A : Around} {E : Value → Shared → Prop}
end
section
variable {X : Cx} {o e value : Expr} {f : Str} {pos pos' tpos : Pos} {ta tv : TE}
end
section
variable {X : Cx} {pins : List (Addr × Obj)} {σ : St} {H : Hp} {s : Shared} {A : Around} {E : Value → Shared → Prop} {Q : Value → Shared → Prop} {c : Value} {b : Bool}
inductive TyOf (K : PySem.W.Frag) (H : Hp) : V → Value → Prop where
  | non : TyOf K H .non (.type "NoneType")
  | bl (x : Bool) : TyOf K H (.bl x) (.type "bool")
  | int (i : Int) : TyOf K H (.int i) (.type "int")
  | str (x : Str) : TyOf K H (.str x) (.type "str")
  | flt (x : UInt64) : TyOf K H (.flt x) (.type "float")
  | lst {a : Addr} {xs : List V} (e : H a = some (.lst xs)) : TyOf K H (.ref a) (.type "list")
  | frz {a : Addr} {o : Obj} {xs : List V} (e : H a = some (.frz o (.lst xs))) : TyOf K H (.ref a) (.type "list")
  | tup {a : Addr} {xs : List V} (e : H a = some (.tup xs)) : TyOf K H (.ref a) (.type "tuple")
  | dK {a : Addr} {kvs : List (Key × V)} (e : H a = some (.dK kvs)) : TyOf K H (.ref a) (.type "dict")
  | dT {a : Addr} {kvs : List (List Key × V)} (e : H a = some (.dT kvs)) : TyOf K H (.ref a) (.type "dict")
  | ins {a C dx : Addr} {fs : List (Str × V)} (e : H a = some (.ins C dx fs)) (cl : Cls K C) (ha : PySem.W.findIn K (.ref C) "__class__" = some (some (.builtin "object.__class__")))
      (hn : PySem.W.specialIn K (.builtin "object.__class__") "__get__" = some (some (.builtin "getset_descriptor.__get__"))) (htk : PySem.W.takesIn K (.builtin "object.__class__") = some true)
      (hm : PySem.W.mroIn K C (.type "object") = some true) : TyOf K H (.ref a) (.ref C)
theorem isinst_ok {x : V} {u t : Value} (I : Inv X pins σ H s) (rx : RelV x u) (ty : TyOf X.K H x t) (e : PySem.W.kitOne X.K t c = some b) (h : ∀ tk, Q (.bool b) { s with toks := tk }) :
    wpAny (model X.prog X.w) A (call (.builtin "isinstance") [u, c]) Q E s := by
  cases ty with
  | non => cases (show u = Value.none from rx); exact PySem.W.kia_one PySem.W.kitx_none I.kIn True.intro e (fun z => nomatch z) h
  | bl y => cases (show u = Value.bool y from rx); exact PySem.W.kia_one PySem.W.kitx_bool I.kIn True.intro e (fun z => nomatch z) h
  | int i => obtain ⟨t, q⟩ := (show ∃ t, u = Value.int i t from rx); cases q; exact PySem.W.kia_one PySem.W.kitx_int I.kIn True.intro e (fun z => nomatch z) h
  | str y => obtain ⟨t, q⟩ := (show ∃ t, u = Value.str y t from rx); cases q; exact PySem.W.kia_one PySem.W.kitx_str I.kIn True.intro e (fun z => nomatch z) h
  | flt y => obtain ⟨t, q⟩ := (show ∃ t, u = Value.float y t from rx); cases q; exact PySem.W.kia_one PySem.W.kitx_float I.kIn True.intro e (fun z => nomatch z) h
  | @lst a xs ea =>
    cases (show u = Value.ref a from rx)
    obtain ⟨_, _, n, _, h1⟩ := (show ObjOk X.prog X.w H s.heap a (.lst xs) from I.hok a _ ea)
    exact PySem.W.kia_one PySem.W.kitx_list I.kIn ⟨_, h1, rfl⟩ e (fun z => nomatch z) h
  | @frz a ob xs ea =>
    cases (show u = Value.ref a from rx)
    obtain ⟨_, _, _, n, _, h1⟩ := (show ObjOk X.prog X.w H s.heap a (.frz ob (.lst xs)) from I.hok a _ ea)
    exact PySem.W.kia_one PySem.W.kitx_list I.kIn ⟨_, h1, rfl⟩ e (fun z => nomatch z) h
  | @tup a xs ea =>
    cases (show u = Value.ref a from rx)
    obtain ⟨_, _, _, p⟩ := (show ObjOk X.prog X.w H s.heap a (.tup xs) from I.hok a _ ea)
    obtain ⟨o, h1, h2, _⟩ := p
    exact PySem.W.kia_one PySem.W.kitx_tuple I.kIn ⟨o, h1, h2⟩ e (fun z => nomatch z) h
  | @dK a kvs ea =>
    cases (show u = Value.ref a from rx)
    obtain ⟨_, _, vs, _, p⟩ := (show ObjOk X.prog X.w H s.heap a (.dK kvs) from I.hok a _ ea)
    obtain ⟨o, es, ep, h1, h2, _⟩ := p
    exact PySem.W.kia_one PySem.W.kitx_dict I.kIn ⟨o, h1, h2.1⟩ e (fun z => nomatch z) h
  | @dT a kvs ea =>
    cases (show u = Value.ref a from rx)
    obtain ⟨_, _, xs, _, o, es, ep, h1, h2, _⟩ := (show ObjOk X.prog X.w H s.heap a (.dT kvs) from I.hok a _ ea)
    exact PySem.W.kia_one PySem.W.kitx_dict I.kIn ⟨o, h1, h2.1⟩ e (fun z => nomatch z) h
  | @ins a C dx fs ea cl ha hn htk hm =>
    cases (show u = Value.ref a from rx)
    obtain ⟨mA, O, _⟩ := ins_get I.hok ea
    obtain ⟨od, J, _⟩ := O.look
    exact PySem.W.kia_one (PySem.W.kitx_own (cl.get _) cl.hd ha hn htk hm) I.kIn J e (fun z => nomatch z) h
end
end L2
namespace L2
open PySem PySem.Spec PyProof.Rows
structure Room (k : Nat) (A : Around) : Prop where
  hd : A.handled = none
  dp : A.depth + 3 * k + 5 < recursionLimit
  un : A.units + 16 * k + 200 < cLine
theorem Room.mono {j k : Nat} {A : Around} (r : Room k A) (h : j ≤ k) : Room j A := ⟨r.hd, by have := r.dp; omega, by have := r.un; omega⟩
theorem Room.deeper {k : Nat} {A : Around} (r : Room (k + 1) A) (env : Env) : Room k (A.deeper env) :=
  ⟨r.hd, by have := r.dp; show A.depth + 1 + 3 * k + 5 < _; omega, by have := r.un; show A.units + 3 + 16 * k + 200 < _; omega⟩
theorem Room.in1 {k : Nat} {A : Around} (r : Room (k + 1) A) : Room k A.in1 :=
  ⟨r.hd, by have := r.dp; show A.depth + 3 * k + 5 < _; omega, by have := r.un; show A.units + 1 + 16 * k + 200 < _; omega⟩
theorem make_depth {A : Around} {C : Addr} {us : List Value} {kw : List (Str × Value)} : (A.under (.builtin "type.__call__" ⟨.ref C :: us, kw⟩)).depth = A.depth + 1 := by
  first | rfl | simp [Around.under, Code.weight, Code.isCreation, Code.isGuard, Code.isCaller, Code.frames, Code.isFrame, guardIds]
theorem make_units {A : Around} {C : Addr} {us : List Value} {kw : List (Str × Value)} : (A.under (.builtin "type.__call__" ⟨.ref C :: us, kw⟩)).units = A.units + 1 := by
  first | rfl | simp [Around.under, Code.cUnits, Code.frames, Code.isFrame]
theorem Room.make {k : Nat} {A : Around} (r : Room (k + 1) A) (C : Addr) (us : List Value) (kw : List (Str × Value)) : Room k (A.under (.builtin "type.__call__" ⟨.ref C :: us, kw⟩)) :=
  ⟨r.hd, by have := r.dp; rw [make_depth]; omega, by have := r.un; rw [make_units]; omega⟩
theorem Room.depth {k : Nat} {A : Around} (r : Room k A) : A.depth < recursionLimit := by have := r.dp; omega
theorem Room.units {k : Nat} {A : Around} (r : Room k A) : A.units + 64 < cLine := by have := r.un; omega
def tNil : TA := fun _ H Q => Q [] H
def tCons (ta : TE) (tr : TA) : TA := fun σ H Q => ta σ H fun x H1 => tr σ H1 fun xs H2 => Q (x :: xs) H2
section
variable {X : Cx} {e : Expr} {es : List Expr} {te : TE} {t : TA} {pos : Pos}
theorem pa_nil : PA X [] tNil := fun _ _ _ _ H Q I h => Calls.spliced_nil ⟨[], H, I, .nil, h⟩
theorem pa_cons (ha : PE X e te) (hr : PA X es t) (hs : starEach (e :: es) X.env = (false, eval e X.env) :: starEach es X.env := by rfl) : PA X (e :: es) (tCons te t) := by
  intro pos pins s σ H Q I h
  rw [hs]
  show wpAny _ _ (spliced ((false, eval e X.env) :: backTo pos (starEach es X.env))) _ _ s
  refine Calls.spliced_cons (thn (ha pins s σ H _ I h) fun u s1 ⟨x, H1, I1, r1, q1⟩ => ?_)
  exact thn (hr pos pins s1 σ H1 _ I1 q1) fun us s2 ⟨xs, H2, I2, r2, q2⟩ => ⟨x :: xs, H2, I2, .cons r1 r2, q2⟩
def tTup (t : TA) : TE := fun σ H Q => t σ H fun xs H1 => xs.length ≤ sizeLine ∧ ∀ p, H1 p = none → Q (.ref p) (upd H1 p (.tup xs))
def tLst (t : TA) : TE := fun σ H Q => t σ H fun xs H1 => xs.length ≤ sizeLine ∧ ∀ p, H1 p = none → Q (.ref p) (upd H1 p (.lst xs))
theorem pe_tup {x1} (h : PA X es t) : PE X (.Tuple es x1 pos) (tTup t) := by
  intro pins s σ H Q I hq
  refine wpAny_Tuple_spliced (thn (h pos pins s σ H _ I hq) fun us s1 ⟨xs, H1, I1, r, z, q⟩ => ⟨by rw [← r.length]; exact z, ?_⟩)
  have hf : H1 s1.heap.objs.size = none := I1.hok.fresh (Nat.le_refl _)
  refine ⟨.ref s1.heap.objs.size, upd H1 s1.heap.objs.size (.tup xs), I1.laid (t' := s1.toks) (fun b u e => Heap.get?_push_of_some _ e) (Nat.le_refl _) ?_, rfl, q _ hf⟩
  exact ⟨z, us, r, ⟨_, Heap.get?_push_size _ rfl, rfl, _, rfl⟩⟩
theorem pe_lst (h : PA X es t) : PE X (.List es pos) (tLst t) := by
  intro pins s σ H Q I hq
  refine wpAny_List_spliced (thn (h pos pins s σ H _ I hq) fun us s1 ⟨xs, H1, I1, r, z, q⟩ => ⟨by rw [← r.length]; exact z, ?_⟩)
  have hf : H1 s1.heap.objs.size = none := I1.hok.fresh (Nat.le_refl _)
  refine ⟨.ref s1.heap.objs.size, upd H1 s1.heap.objs.size (.lst xs), I1.laid (t' := s1.toks) (fun b u e => Heap.get?_push_of_some _ e) (Nat.le_refl _) ?_, rfl, q _ hf⟩
  exact ⟨z, us, 0, r, Heap.get?_push_size _ rfl⟩
end
abbrev Sp := List V → Hp → VK → XK → Prop
abbrev CXT := List Env → Hp → Shared → XK → Value → Shared → Prop
structure Env0 (P : Program) (w : World) (K : PySem.W.Frag) (mg : Str → Option Value) (base : Heap) (A : Around) (outer : List Env) (s : Shared) (H : Hp) : Prop where
  frames : A.frames = some outer
  mod : Mod K mg base
  bs : ∀ b o, base.get? b = some o → s.heap.get? b = some o ∧ H b = none
  bsz : base.objs.size ≤ s.heap.objs.size
  funs : s.heap.FunFrames base outer
  frf : ∀ b ∈ frs outer, H b = none
  hok : HOk P w H s.heap
  bare : AllBare s.gens
def CE (outer : List Env) (P : Program) (w : World) (H : Hp) (s : Shared) (Q : VK) (u : Value) (s' : Shared) : Prop :=
  ∃ v H', s'.os = s.os ∧ AllBare s'.gens ∧ Un (frs outer) [] H H' s.heap s'.heap ∧ HOk P w H' s'.heap ∧ RelV v u ∧ Q v H'
def CR (CX : CXT) (outer : List Env) (P : Program) (w : World) (H : Hp) (s : Shared) (Q : VK) (E : XK) (r : Result) (s' : Shared) : Prop :=
  match r with
  | .ok (.ret u) => CE outer P w H s Q u s'
  | .ok _ => False
  | .error e => CX outer H s E e s'
structure FnOk (P : Program) (w : World) (K : PySem.W.Frag) (mg : Str → Option Value) (base : Heap) (CX : CXT) (k : Nat) (f : Addr) (fd : FuncData) (ps : List Str) (sp : Sp) : Prop where
  len : ∀ vs H Q E, sp vs H Q E → vs.length = ps.length
  run : ∀ (A : Around) (outer : List Env) (s : Shared) (H : Hp) (args : Args) (us : List Value) (vs : List V) (Q : VK) (E : XK), Room k A → Env0 P w K mg base A outer s H → BindsTo s fd args (ps.zip us) → Vals vs us → sp vs H Q E →
    codeAny (model P w) A (.call (.ref f) args) (CR CX outer P w H s Q E) s
theorem FnOk.mono {P : Program} {w : World} {K : PySem.W.Frag} {mg : Str → Option Value} {base : Heap} {CX : CXT} {j k : Nat} {f : Addr} {fd : FuncData} {ps : List Str} {sp : Sp} (F : FnOk P w K mg base CX j f fd ps sp) (h : j ≤ k) :
    FnOk P w K mg base CX k f fd ps sp := ⟨F.len, fun A outer s H args us vs Q E hr => F.run A outer s H args us vs Q E (hr.mono h)⟩
theorem FnOk.imp {P : Program} {w : World} {K : PySem.W.Frag} {mg : Str → Option Value} {base : Heap} {CX : CXT} {k : Nat} {f : Addr} {fd : FuncData} {ps : List Str} {sp sp' : Sp} (F : FnOk P w K mg base CX k f fd ps sp)
    (h : ∀ vs H Q E, sp' vs H Q E → sp vs H Q E) : FnOk P w K mg base CX k f fd ps sp' :=
  ⟨fun vs H Q E q => F.len vs H Q E (h _ _ _ _ q), fun A outer s H args us vs Q E hr he hb hv hs => F.run A outer s H args us vs Q E hr he hb hv (h _ _ _ _ hs)⟩
theorem Env0.make {P : Program} {w : World} {K : PySem.W.Frag} {mg : Str → Option Value} {base : Heap} {A : Around} {outer : List Env} {s : Shared} {H : Hp} (e : Env0 P w K mg base A outer s H) (C : Addr) (us : List Value) (kw : List (Str × Value)) :
    Env0 P w K mg base (A.under (.builtin "type.__call__" ⟨.ref C :: us, kw⟩)) outer s H := ⟨by first | exact e.frames | (simpa [Around.under, Code.envs, Code.isFrame, pushEnvs] using e.frames), e.mod, e.bs, e.bsz, e.funs, e.frf, e.hok, e.bare⟩
theorem Env0.in1 {P : Program} {w : World} {K : PySem.W.Frag} {mg : Str → Option Value} {base : Heap} {A : Around} {outer : List Env} {s : Shared} {H : Hp} (e : Env0 P w K mg base A outer s H) :
    Env0 P w K mg base A.in1 outer s H := ⟨e.frames, e.mod, e.bs, e.bsz, e.funs, e.frf, e.hok, e.bare⟩
section
variable {X : Cx} {pins : List (Addr × Obj)} {σ : St} {H : Hp} {s s' : Shared}
theorem Inv.env0 (I : Inv X pins σ H s) : Env0 X.prog X.w X.K X.mg X.base X.A X.stack s H :=
  ⟨I.ok.frames, I.ok.mod, I.bs, Nat.le_trans I.ok.bsz I.sz, I.stack, I.stkFree, I.hok, I.bare⟩
theorem Inv.after {Q : VK} {u : Value} (I : Inv X pins σ H s) (h : CE X.stack X.prog X.w H s Q u s') : EP X pins σ Q u s' := by
  obtain ⟨v, H', os, bare, un, hok, r, q⟩ := h
  obtain ⟨hh, g, d, t, os'⟩ := s'
  obtain rfl : os' = s.os := os
  exact ⟨v, H', I.call (h' := hh) (g' := g) (d' := d) (t' := t) (ch := []) un hok bare (fun b z => absurd z (by simp)), r, q⟩
end
def tCall (sp : Sp) (dvs : List V) (E : XK) (t : TA) : TE := fun σ H Q => t σ H fun vs H1 => sp (vs ++ dvs) H1 Q E
def Binds (K : PySem.W.Frag) (fd : FuncData) (ps : List Str) (ds : List Value) : Prop :=
  ∀ (s : Shared) (us : List Value), K.In s.heap → (us ++ ds).length = ps.length → BindsTo s fd ⟨us, []⟩ (ps.zip (us ++ ds))
theorem Binds.all {K : PySem.W.Frag} {fd : FuncData} {ps : List Str} (h : ∀ us : List Value, us.length = ps.length → bindArgs fd ⟨us, []⟩ = pure (ps.zip us)) : Binds K fd ps [] := fun s us _ hl => by
  rw [List.append_nil] at hl ⊢
  exact .of_eq (h us hl)
def Passes (CX : CXT) (X : Cx) (E : XK) : Prop := ∀ (pins : List (Addr × Obj)) (σ : St) (H : Hp) (s : Shared) (e : Value) (s' : Shared), Inv X pins σ H s → CX X.stack H s E e s' → X.xe e s'
section
variable {X : Cx} {CX : CXT} {k : Nat} {f C : Addr} {fd : FuncData} {ps : List Str} {sp : Sp} {dvs : List V} {ds : List Value} {E : XK} {x m : Str} {p pos apos : Pos} {e o : Expr} {es : List Expr} {ta : TE} {t : TA}
theorem run_fn {pins : List (Addr × Obj)} {σ : St} {H : Hp} {s : Shared} {Q : VK} {us : List Value} {vs : List V} (F : FnOk X.prog X.w X.K X.mg X.base CX k f fd ps sp) (hr : Room k X.A) (hb : Binds X.K fd ps ds) (hd : Vals dvs ds) (hx : Passes CX X E)
    (I : Inv X pins σ H s) (r : Vals vs us) (h : sp (vs ++ dvs) H Q E) : wpAny (model X.prog X.w) X.A (call (.ref f) us) (EP X pins σ Q) X.xe s := by
  have r2 : Vals (vs ++ dvs) (us ++ ds) := r.append hd
  have hl : (us ++ ds).length = ps.length := by rw [← r2.length]; exact F.len _ _ _ _ h
  refine wpAny_call (codeAny_mono (F.run X.A X.stack s H ⟨us, []⟩ (us ++ ds) (vs ++ dvs) Q E hr I.env0 (hb s us I.kIn hl) r2 h) fun r s' hq => ?_)
  cases r with
  | error e => exact hx pins σ H s e s' I hq
  | ok fl =>
    cases fl with
    | ret u => exact I.after hq
    | next => exact False.elim hq
    | brk => exact False.elim hq
    | cont => exact False.elim hq
theorem pe_call (F : FnOk X.prog X.w X.K X.mg X.base CX k f fd ps sp) (hr : Room k X.A) (hg : Gl X x) (hm : X.mg x = some (.ref f)) (hk : PySem.W.keepIn X.K (.ref f) = true) (hb : Binds X.K fd ps ds) (hd : Vals dvs ds) (hx : Passes CX X E)
    (ha : PA X (e :: es) t) (hdb : (x == ("__debug__" : Str)) = false := by decide) (he : starEach (e :: es) X.env = (false, eval e X.env) :: starEach es X.env := by rfl) (hpl : (backTo pos (starEach es X.env)).any (·.1) = false := by rfl) :
    PE X (.Call (.Name x p) (e :: es) [] pos) (tCall sp dvs E t) := by
  intro pins s σ H Q I h
  refine wpAny_Call_Name_kw (ld_glob I hg hm ?_ hdb)
  refine PySem.W.callWith_K (h₀ := X.base) I.ok.mod.kin hk (thn (ha pos pins s σ H _ I h) fun us s1 ⟨vs, H1, I1, r, q⟩ => ⟨I1.kIn, ?_⟩) he hpl
  exact run_fn F hr hb hd hx I1 r q
structure Mk (K : PySem.W.Frag) (C f : Addr) : Prop where
  makes : PySem.W.makesIn K C = true
  init : PySem.W.findIn K (.ref C) "__init__" = some (some (.ref f))
  fn : PySem.W.isFn K (.ref f) = true
  kp : PySem.W.keepIn K (.ref C) = true
end
section
variable {X : Cx} {CX : CXT} {k : Nat} {f C : Addr} {fd : FuncData} {ps ks : List Str} {sp : Sp} {E : XK} {x m : Str} {p pos apos kpos : Pos} {e o : Expr} {es : List Expr} {kws : List Keyword} {te ta : TE} {t tk : TA} {nm : Option Str}
structure KBinds (K : PySem.W.Frag) (fd : FuncData) (ps ks : List Str) (g : List Value → List Value → List Value) (gV : List V → List V → List V) : Prop where
  to : ∀ (s : Shared) (us ws : List Value), K.In s.heap → (g us ws).length = ps.length → BindsTo s fd ⟨us, ks.zip ws⟩ (ps.zip (g us ws))
  rel : ∀ {vs : List V} {us : List Value} {zs : List V} {ws : List Value}, Vals vs us → Vals zs ws → Vals (gV vs zs) (g us ws)
variable {g : List Value → List Value → List Value} {gV : List V → List V → List V}
end
structure FnScope (N P : List Str) (sc : Scope) : Prop where
  kind : sc.kind = .function
  co : sc.isCoroutine = false
  gen : sc.isGenerator = false
  nd : N.Nodup
  pre : N.take P.length = P
  par : ∀ x ∈ P, sc.names.lookup x = some .local ∨ sc.names.lookup x = some .cell
  nofree : ∀ y ∈ sc.names, y.2 ≠ .free
theorem bindL_out {kindOf : Str → Option NameKind} {x : Str} : ∀ {binds : List (Str × Value)} {m : Str → Option Value}, (∀ v, (x, v) ∉ binds) → bindL kindOf binds m x = m x
  | [], _, _ => rfl
  | (n, v) :: r, m, h => by
    unfold bindL
    rw [bindL_out fun w hw => h w (List.mem_cons_of_mem _ hw)]
    split
    · have : x ≠ n := by rintro rfl; exact h v List.mem_cons_self
      simp [this]
    · rfl
theorem bindC_out {kindOf : Str → Option NameKind} {x : Str} : ∀ {binds : List (Str × Value)} {m : Str → Option Value}, (∀ v, (x, v) ∉ binds) → bindC kindOf binds m x = m x
  | [], _, _ => rfl
  | (n, v) :: r, m, h => by
    unfold bindC
    rw [bindC_out fun w hw => h w (List.mem_cons_of_mem _ hw)]
    split
    · rfl
    · have : x ≠ n := by rintro rfl; exact h v List.mem_cons_self
      simp [this]
theorem bindL_get {kindOf : Str → Option NameKind} {x : Str} {v : Value} : ∀ {P : List Str} {vs : List Value} {i : Nat} {m : Str → Option Value}, P.Nodup → P[i]? = some x → vs[i]? = some v → kindOf x = some .local →
    bindL kindOf (P.zip vs) m x = some v
  | [], _, _, _, _, h, _, _ => by simp at h
  | _ :: _, [], _, _, _, _, h, _ => by simp at h
  | p :: P, w :: vs, 0, m, nd, h1, h2, hk => by
    simp at h1 h2; subst h1; subst h2
    show bindL kindOf ((p, w) :: P.zip vs) m p = _
    unfold bindL
    rw [bindL_out fun v hv => (List.nodup_cons.mp nd).1 (List.of_mem_zip hv).1, if_pos hk]
    simp
  | p :: P, w :: vs, i + 1, m, nd, h1, h2, hk => by
    show bindL kindOf ((p, w) :: P.zip vs) m x = _
    unfold bindL
    exact bindL_get (i := i) (List.nodup_cons.mp nd).2 (by simpa using h1) (by simpa using h2) hk
theorem bindC_get {kindOf : Str → Option NameKind} {x : Str} {v : Value} : ∀ {P : List Str} {vs : List Value} {i : Nat} {m : Str → Option Value}, P.Nodup → P[i]? = some x → vs[i]? = some v → kindOf x ≠ some .local →
    bindC kindOf (P.zip vs) m x = some v
  | [], _, _, _, _, h, _, _ => by simp at h
  | _ :: _, [], _, _, _, _, h, _ => by simp at h
  | p :: P, w :: vs, 0, m, nd, h1, h2, hk => by
    simp at h1 h2; subst h1; subst h2
    show bindC kindOf ((p, w) :: P.zip vs) m p = _
    unfold bindC
    rw [bindC_out fun v hv => (List.nodup_cons.mp nd).1 (List.of_mem_zip hv).1, if_neg hk]
    simp
  | p :: P, w :: vs, i + 1, m, nd, h1, h2, hk => by
    show bindC kindOf ((p, w) :: P.zip vs) m x = _
    unfold bindC
    exact bindC_get (i := i) (List.nodup_cons.mp nd).2 (by simpa using h1) (by simpa using h2) hk
def start (N : List Str) (vs : List V) : St := vs.map some ++ List.replicate (N.length - vs.length) none
def cxOf (CX : CXT) (P : Program) (w : World) (K : PySem.W.Frag) (mg : Str → Option Value) (base : Heap) (N : List Str) (qual : Str) (scope : Scope) (f : Addr) (cd : Value) (A : Around) (outer : List Env) (s : Shared) (H : Hp) (E : XK) : Cx where
  prog := P
  w := w
  K := K
  mg := mg
  base := base
  A := A.deeper (envOfC qual scope s.heap.objs.size f cd)
  N := N
  s₀ := s
  H₀ := H
  env := envOfC qual scope s.heap.objs.size f cd
  outer := outer
  stack := envOfC qual scope s.heap.objs.size f cd :: outer
  ex := []
  calm := true
  fn := fun _ => true
  pn := []
  xe := fun e s' => wpAny (model P w) (A.deeper (envOfC qual scope s.heap.objs.size f cd)) (leaving (envOfC qual scope s.heap.objs.size f cd) e) (fun _ s'' => CX outer H s E e s'') (fun e' s'' => CX outer H s E e' s'') s'
theorem cell_has {sc : Scope} {n : Nat} {x : Str} (h : sc.names.lookup x = some .cell) : ∃ c, (cellsFrom n sc.names []).lookup x = some c := by
  have q := PySem.W.cellsFrom_some sc.names n [] (.inl h)
  exact Option.isSome_iff_exists.mp q
theorem inv_start {CX : CXT} {P : Program} {w : World} {K : PySem.W.Frag} {mg : Str → Option Value} {base : Heap} {N ps : List Str} {qual : Str} {scope : Scope} {f : Addr} {cd : Value} {A : Around} {outer : List Env} {s s1 : Shared} {H : Hp} {E : XK} {us : List Value} {vs : List V}
    (S : FnScope N ps scope) (hd : A.handled = none) (e0 : Env0 P w K mg base A outer s H) (hl : vs.length = ps.length) (r : Vals vs us)
    (x : InCallC s s.heap.objs.size (bindL (envOfC qual scope s.heap.objs.size f cd).kindOf (ps.zip us) fun _ => none) (cellsFrom (s.heap.objs.size + 1) scope.names []) (bindC (envOfC qual scope s.heap.objs.size f cd).kindOf (ps.zip us) fun _ => none) s1) :
    Inv (cxOf CX P w K mg base N qual scope f cd A outer s H E) [] (start N vs) H s1 := by
  have hpl : ps.length ≤ N.length := by have := congrArg List.length S.pre; rw [List.length_take] at this; omega
  obtain ⟨h1, tk, rfl, hk⟩ := x.done
  have noA : ∀ b : Addr, b ∉ (cxOf CX P w K mg base N qual scope f cd A outer s H E).ex := fun b z => absurd (show b ∈ ([] : List Addr) from z) (by simp)
  refine ⟨⟨e0.mod, S.kind, rfl, rfl, Nat.le_refl _, fun y z c h1 h2 => ?_, fun y hy => ?_, fun y c _ h => ?_, fun _ => hd, Around.frames_deeper e0.frames, .inr ⟨rfl, rfl⟩, fun b z => absurd z (noA b), e0.bs, e0.bsz, fun b _ _ => noA b, fun b z => absurd z (noA b), e0.funs, e0.frf⟩,
    rfl, e0.bare, Un.kept hk, ⟨_, x.toInCall.ns, fun i y v h1 h2 h3 => ?_⟩, fun y c h => ⟨_, x.cell y c h⟩, e0.hok.fresh (Nat.le_refl _), fun y c h => ?_, fun p hp => absurd (show p ∈ ([] : List (Addr × Obj)) from hp) (by simp), e0.hok.kept hk, ?_⟩
  · exact name_of_addr x.apart (PySem.mem_of_lookup h1) (PySem.mem_of_lookup h2)
  · have hy : scope.names.lookup y = some .cell ∨ scope.names.lookup y = some .free := hy
    rcases hy with hy | hy
    · exact cell_has hy
    · exact absurd rfl (S.nofree _ (PySem.mem_of_lookup hy))
  · exact Nat.le_of_lt (x.above y c (PySem.mem_of_lookup h))
  · have hi : i < vs.length := by
      unfold start at h2
      by_cases hi : i < vs.length
      · exact hi
      · rw [List.getElem?_append_right (by simpa using hi)] at h2
        rw [List.getElem?_replicate] at h2
        split at h2 <;> cases h2
    have ha : vs[i]? = some v := by
      unfold start at h2
      rw [List.getElem?_append_left (by simpa using hi), List.getElem?_map] at h2
      cases e : vs[i]? with
      | none => rw [e] at h2; cases h2
      | some a => rw [e] at h2; cases h2; rfl
    obtain ⟨u, hu, rv⟩ := r.get ha
    have hp : ps[i]? = some y := by
      rw [← S.pre, List.getElem?_take_of_lt (by omega)]; exact h1
    have ndP : ps.Nodup := by rw [← S.pre]; exact S.nd.sublist (List.take_sublist _ _)
    refine ⟨u, rv, ?_⟩
    rcases S.par y (List.mem_of_getElem? hp) with k | k
    · exact .inl ⟨k, bindL_get ndP hp hu k⟩
    · obtain ⟨c, e⟩ := cell_has (n := s.heap.objs.size + 1) k
      refine .inr ⟨.inl k, c, e, ?_⟩
      have q := x.cell y c e
      rw [bindC_get ndP hp hu (by show scope.names.lookup y ≠ _; rw [k]; decide)] at q
      exact q
  · exact e0.hok.fresh (Nat.le_of_lt (x.above y c (PySem.mem_of_lookup h)))
  · unfold start
    show _ = N.length
    rw [List.length_append, List.length_map, List.length_replicate]
    omega
theorem fn_of {CX : CXT} {P : Program} {w : World} {K : PySem.W.Frag} {mg : Str → Option Value} {base : Heap} {k : Nat} {f : Addr} {name qual : Str} {params : Arguments} {body : List Stmt} {scope : Scope} {dV kV doc pm cdv ct oc : Value} {an od : Option Addr}
    {osl : Array (Option Value)} {N ps : List Str} {sp : Sp} (lk : K.lookup f = some ⟨oc, od, .func (PySem.W.fnOf name qual params body scope dV kV doc pm an cdv ct), osl⟩) (hcd : PySem.W.codeIn K cdv qual = true) (S : FnScope N ps scope)
    (len : ∀ vs H Q E, sp vs H Q E → vs.length = ps.length)
    (hbody : ∀ (A : Around) (outer : List Env) (s : Shared) (H : Hp) (vs : List V) (Q : VK) (E : XK), Room k (A.deeper (envOfC qual scope s.heap.objs.size f cdv)) → sp vs H Q E →
      ∃ t, PSs (cxOf CX P w K mg base N qual scope f cdv A outer s H E) body t ∧ t { nx := fun _ H' => Q .non H', rt := Q } (start N vs) H) :
    FnOk P w K mg base CX (k + 1) f (PySem.W.fnOf name qual params body scope dV kV doc pm an cdv ct) ps sp := by
  refine ⟨len, fun A outer s H args us vs Q E hr e0 hb r hsp => ?_⟩
  have hl := len _ _ _ _ hsp
  have KX : K.In s.heap := e0.mod.kin.keeps fun b o e => (e0.bs b o e).1
  have lim : s.heap.NoLimit := e0.mod.nolimit.keeps fun b o e => (e0.bs b o e).1
  have hkind : ∀ y ∈ ps.zip us, scope.names.lookup y.1 = some .local ∨ (scope.names.lookup y.1 = some .cell ∧ ((cellsFrom (s.heap.objs.size + 1) scope.names []).lookup y.1).isSome = true) := fun ⟨n, v⟩ hy => by
    rcases S.par n (List.of_mem_zip hy).1 with q | q
    · exact .inl q
    · exact .inr ⟨q, PySem.W.cellsFrom_some _ _ _ (.inl q)⟩
  refine codeAny_call_function hr.depth (KX _ _ lk) rfl S.co S.gen rfl (PySem.W.codeRec_of KX hcd) (hb _ _ _ _ ?_)
  refine wpAny_newFunctionEnv_cells S.kind hkind fun env he s1 x => ?_
  subst he
  refine ⟨lim.keeps x.toInCall.keep, codeAny_func ?_⟩
  obtain ⟨t, ht, hq⟩ := hbody A outer s H vs Q E (hr.deeper _) hsp
  have I : Inv (cxOf CX P w K mg base N qual scope f cdv A outer s H E) [] (start N vs) H s1 := inv_start S hr.hd e0 hl r x
  refine wpAny_mono (ht [] s1 (start N vs) H _ I hq) (fun fl s' hs => ?_) fun e s' hs => hs
  have fin : ∀ {σ' : St} {H' : Hp} {v : V} {u : Value}, Inv (cxOf CX P w K mg base N qual scope f cdv A outer s H E) [] σ' H' s' → RelV v u → Q v H' → CE outer P w H s Q u s' :=
    fun {σ' H' v u} J rv q => ⟨v, H', J.os, J.bare, J.base, J.hok, rv, q⟩
  cases fl with
  | ret u =>
    obtain ⟨v, σ', H', J, rv, q⟩ := hs
    exact fin J rv q
  | next =>
    obtain ⟨σ', H', J, q⟩ := hs
    exact fin (v := V.non) (u := Value.none) J rfl q
  | brk =>
    obtain ⟨_, _, _, q⟩ := hs
    exact False.elim q
  | cont =>
    obtain ⟨_, _, _, q⟩ := hs
    exact False.elim q
end L2
namespace L2
open PySem PySem.Spec PyProof.Rows
section
variable {X : Cx} {x : Str} {p pos : Pos} {e : Expr} {es : List Expr} {t : TA} {id T : String} {r : List V → Hp → VK → Prop}
def tCB (r : List V → Hp → VK → Prop) (t : TA) : TE := fun σ H Q => t σ H fun vs H1 => r vs H1 Q
theorem pe_callB (hc : CallR X (.builtin id) r) (hg : Gl X x) (hm : X.mg x = none) (hv : bootBuiltins x = some (.builtin id)) (ha : PA X (e :: es) t) (hn : x ≠ "__name__" := by decide) (hdb : (x == ("__debug__" : Str)) = false := by decide)
    (he : starEach (e :: es) X.env = (false, eval e X.env) :: starEach es X.env := by rfl) (hpl : (backTo pos (starEach es X.env)).any (·.1) = false := by rfl) : PE X (.Call (.Name x p) (e :: es) [] pos) (tCB r t) := by
  intro pins s σ H Q I h
  refine wpAny_Call_Name_kw (ld_blt I hg hm hv ?_ hn hdb)
  exact PyProof.Rows.callWith_builtin1 (thn (ha pos pins s σ H _ I h) fun us s1 ⟨vs, H1, I1, r1, q1⟩ => hc pins s1 σ H1 vs us Q I1 r1 q1) he hpl
theorem pe_callTy (hc : CallR X (.type T) r) (hg : Gl X x) (hm : X.mg x = none) (hv : bootBuiltins x = some (.type T)) (ha : PA X (e :: es) t) (hn : x ≠ "__name__" := by decide) (hdb : (x == ("__debug__" : Str)) = false := by decide)
    (he : starEach (e :: es) X.env = (false, eval e X.env) :: starEach es X.env := by rfl) (hpl : (backTo pos (starEach es X.env)).any (·.1) = false := by rfl) : PE X (.Call (.Name x p) (e :: es) [] pos) (tCB r t) := by
  intro pins s σ H Q I h
  refine wpAny_Call_Name_kw (ld_blt I hg hm hv ?_ hn hdb)
  exact PyProof.Rows.callWith_type1 (thn (ha pos pins s σ H _ I h) fun us s1 ⟨vs, H1, I1, r1, q1⟩ => hc pins s1 σ H1 vs us Q I1 r1 q1) he hpl
end
end L2
namespace HT
open PySem PyProof.Rows
section
open PySem.SeqAt
open PySem.AutoSeq1 (wpAny_loadPart')
open PySem.MeetsSeq PySem.MeetsSeq2 PySem.MeetsSeq3
end
section
variable {prog : Program} {w : World} {A : Around} {E : Value → Shared → Prop} {s : Shared}
theorem cat_tup {t b : Addr} {vs ws : List Value} {Q : Value → Shared → Prop} (ht : IsTup s.heap t vs.toArray) (hb : IsTup s.heap b ws.toArray) (hv : vs ≠ [])
    (h1 : ws = [] → Q (.ref t) s) (h2 : ws ≠ [] → Q (.ref s.heap.objs.size) { s with heap := s.heap.push { cls := .type "tuple", data := .seq (vs ++ ws).toArray } })
    (hsz : vs.length + ws.length ≤ sizeLine) : wpAny (model prog w) A (binaryOp .Add (.ref t) (.ref b)) Q E s := by
  obtain ⟨⟨cls, dd, data, sl⟩, ho, hc, n, hd⟩ := id ht
  obtain ⟨⟨cls2, dd2, data2, sl2⟩, ho2, hc2, n2, hd2⟩ := id hb
  simp only at hc hd hc2 hd2
  subst hc hd hc2 hd2
  have e : vs.toArray ++ ws.toArray = (vs ++ ws).toArray := by simp
  by_cases hw : ws = []
  · exact concat_meets ⟨_, ho, rfl⟩ ⟨_, ho2, rfl⟩ noFill_tuple_add seq_tuple_add PySem.F.slot_tuple_add PySem.F.entry_tuple_add (PySem.F.args_tuple_add_2 _ _)
      (tuple_addW1 t b vs.toArray ws.toArray n n2 dd dd2 sl sl2 (by simpa using hv) (by simp [hw])) ⟨ho, ho2, h1 hw⟩
  · refine concat_meets ⟨_, ho, rfl⟩ ⟨_, ho2, rfl⟩ noFill_tuple_add seq_tuple_add PySem.F.slot_tuple_add PySem.F.entry_tuple_add (PySem.F.args_tuple_add_2 _ _)
      (tuple_addW2 t b vs.toArray ws.toArray n n2 dd dd2 sl sl2 (by simpa using hv) (by simpa using hw) (by rw [List.size_toArray, List.size_toArray]; exact hsz)) ⟨ho, ho2, ?_⟩
    rw [e]
    exact h2 hw
def sIx (n d : Nat) : Option Int → Nat
  | none => d
  | some v => if v < 0 then (v + (n : Int)).toNat else min v.toNat n
end
end HT
namespace L2
open PySem PySem.Spec PyProof.Rows
abbrev TO := St → Hp → (Option Int → Hp → Prop) → Prop
def PO (X : Cx) (e : Option Expr) (t : TO) : Prop :=
  ∀ (pins : List (Addr × Obj)) (s : Shared) (σ : St) (H : Hp) (Q : Option Int → Hp → Prop), Inv X pins σ H s → t σ H Q →
    wpAny (model X.prog X.w) X.A (evalPart e X.env) (fun u s' => ∃ o H', Inv X pins σ H' s' ∧ IsPart u o ∧ Q o H') X.xe s
def tPart (t : TE) : TO := fun σ H Q => t σ H fun x H1 => ∃ i, x = .int i ∧ Q (some i) H1
theorem intsAre_of {ns : List Int} : ∀ {us : List Value}, Vals (ns.map V.int) us → IntsAre us ns := by
  induction ns with
  | nil => intro us r; rw [List.map_nil] at r; cases r; exact .nil
  | cons n ns ih =>
    intro us r
    rw [List.map_cons] at r
    cases r with
    | cons r1 r2 =>
      obtain ⟨t, e⟩ := r1
      subst e
      exact .cons n t (ih r2)
section
variable {X : Cx} {e : Expr} {te : TE} {lo hi : Option Expr} {tl th : TO} {pos p2 : Pos}
theorem po_some (h : PE X e te) : PO X (some e) (tPart te) := by
  intro pins s σ H Q I hw
  rw [evalPart_some]
  refine thn (h pins s σ H _ I hw) fun u s1 ⟨x, H1, I1, r1, q1⟩ => ?_
  obtain ⟨i, rfl, q⟩ := q1
  obtain ⟨t, rfl⟩ := r1
  exact ⟨some i, H1, I1, .int i t, q⟩
def SlR (X : Cx) (r : V → Option Int → Option Int → Hp → VK → Prop) : Prop :=
  ∀ (pins : List (Addr × Obj)) (s : Shared) (σ : St) (H : Hp) (x : V) (v vl vu : Value) (lo hi : Option Int) (sl : Addr) (Q : VK), Inv X pins σ H s → RelV x v → s.heap.IsSliceOf sl vl vu .none → IsPart vl lo → IsPart vu hi → r x lo hi H Q →
    ∃ T id, typeLookup (.type T) "__getitem__" = pure (some (.builtin id)) ∧ s.TypeIs v T ∧ wpAny (model X.prog X.w) X.A (getItem v (.ref sl)) (EP X pins σ Q) X.xe s
theorem SlR.or {r r' : V → Option Int → Option Int → Hp → VK → Prop} (h : SlR X r) (h' : SlR X r') : SlR X (fun x lo hi H Q => r x lo hi H Q ∨ r' x lo hi H Q) := by
  intro pins s σ H x v vl vu lo hi sl Q I rx hs pl pu q
  rcases q with q | q
  · exact h pins s σ H x v vl vu lo hi sl Q I rx hs pl pu q
  · exact h' pins s σ H x v vl vu lo hi sl Q I rx hs pl pu q
def tSl (r : V → Option Int → Option Int → Hp → VK → Prop) (te : TE) (tl th : TO) : TE := fun σ H Q => te σ H fun x H1 => tl σ H1 fun l H2 => th σ H2 fun u H3 => r x l u H3 Q
theorem pe_slice {r : V → Option Int → Option Int → Hp → VK → Prop} (hr : SlR X r) (he : PE X e te) (hl : PO X lo tl) (hu : PO X hi th) : PE X (.Subscript e (.Slice lo hi none p2) pos) (tSl r te tl th) := by
  intro pins s σ H Q I h
  refine Subscript_ (thn (he pins s σ H _ I h) fun v s1 ⟨x, H1, I1, r1, q1⟩ => ?_)
  refine wpAny_Slice (thn (hl pins s1 σ H1 _ I1 q1) fun vl s2 ⟨l, H2, I2, pl, q2⟩ => thn (hu pins s2 σ H2 _ I2 q2) fun vu s3 ⟨u, H3, I3, pu, q3⟩ => ?_)
  rw [evalPart_none]
  refine wpAny_pure ?_
  have I4 : Inv X pins σ H3 { s3 with heap := s3.heap.push { cls := .type "slice", data := .fields #[vl, vu, .none] } } := I3.kept (t' := s3.toks) fun b ob q => Heap.get?_push_of_some _ q
  obtain ⟨T, id, hT, ht, hg⟩ := hr pins { s3 with heap := s3.heap.push { cls := .type "slice", data := .fields #[vl, vu, .none] } } σ H3 x v vl vu l u s3.heap.objs.size Q I4 r1 (Heap.IsSliceOf.new ..) pl pu q3
  show wpAny (model X.prog X.w) X.A (subscriptTail e (.Slice lo hi none p2) v (.ref s3.heap.objs.size)) (EP X pins σ Q) X.xe { s3 with heap := s3.heap.push { cls := .type "slice", data := .fields #[vl, vu, .none] } }
  exact tail_any (ops := [.ref s3.heap.objs.size, v]) ht hT hg (by with_unfolding_all rfl)
def cutV (xs : List V) (lo hi : Option Int) : List V := (xs.drop (HT.sIx xs.length 0 lo)).take (HT.sIx xs.length xs.length hi - HT.sIx xs.length 0 lo)
theorem cutV_length (xs : List V) (lo hi : Option Int) : (cutV xs lo hi).length ≤ xs.length := by
  unfold cutV
  rw [List.length_take, List.length_drop]
  omega
def rCatT (K : PySem.W.Frag) : R2 := fun x y H Q => ∃ a b xs ys, x = .ref a ∧ y = .ref b ∧ SqT K H a xs ∧ SqT K H b ys ∧ xs ≠ [] ∧ xs.length + ys.length ≤ sizeLine ∧
  (ys = [] → Q (.ref a) H) ∧ (ys ≠ [] → ∀ p, H p = none → Q (.ref p) (upd H p (.tup (xs ++ ys))))
theorem Vals.nil_iff {xs : List V} {us : List Value} (r : Vals xs us) : us = [] ↔ xs = [] := by
  cases r with
  | nil => simp
  | cons _ _ => simp
theorem op_catT : OpR X (binaryOp .Add) (rCatT X.K) := by
  intro pins s σ H x y v u Q I rx ry h
  obtain ⟨a, b, xs, ys, rfl, rfl, ha, hb, hx, hz, q1, q2⟩ := h
  cases rx
  cases ry
  obtain ⟨its, r1, p1, _⟩ := I.tuple ha
  obtain ⟨its2, r2, p2, _⟩ := I.tuple hb
  refine HT.cat_tup p1 p2 (fun z => hx (r1.nil_iff.mp z)) (fun z => ⟨.ref a, H, I, rfl, q1 (r2.nil_iff.mp z)⟩) (fun z => ?_) (by rw [← r1.length, ← r2.length]; exact hz)
  refine ⟨.ref s.heap.objs.size, _, I.laid (t' := s.toks) (o := .tup (xs ++ ys)) (fun b ob q => Heap.get?_push_of_some _ q) (Nat.le_refl _) ?_, rfl, q2 (fun w => z (r2.nil_iff.mpr w)) _ (I.hok.fresh (Nat.le_refl _))⟩
  exact ⟨by rw [List.length_append]; exact hz, _, r1.append r2, IsTup.new _ _⟩
end
end L2
namespace L2
open PySem PySem.Spec PyProof.Rows
def ixN (n : Nat) (i : Int) : Option Nat := if 0 ≤ i then (if i < n then some i.toNat else none) else if -(n : Int) ≤ i then some (i + n).toNat else none
def atI {α : Type} (xs : List α) (i : Int) : Option α := (ixN xs.length i).bind fun j => xs[j]?
theorem ixN_seq {n : Nat} {i : Int} {j : Nat} (h : ixN n i = some j) : seqIndex? i n = some j ∧ j < n ∧ -(n : Int) ≤ i ∧ i < n := by
  unfold ixN at h
  by_cases h0 : 0 ≤ i
  · rw [if_pos h0] at h
    by_cases h1 : i < n
    · rw [if_pos h1] at h
      have e : i.toNat = j := Option.some.inj h
      exact ⟨by rw [seqIndex_of h0 h1, e], by omega, by omega, h1⟩
    · rw [if_neg h1] at h; cases h
  · rw [if_neg h0] at h
    by_cases h1 : -(n : Int) ≤ i
    · rw [if_pos h1] at h
      have e : (i + n).toNat = j := Option.some.inj h
      exact ⟨by rw [seqIndex_neg (by omega) h1, e], by omega, h1, by omega⟩
    · rw [if_neg h1] at h; cases h
theorem atI_get {α : Type} {xs : List α} {i : Int} {v : α} (h : atI xs i = some v) : ∃ j, seqIndex? i xs.length = some j ∧ xs[j]? = some v ∧ j < xs.length ∧ -(xs.length : Int) ≤ i ∧ i < xs.length := by
  unfold atI at h
  cases e : ixN xs.length i with
  | none => rw [e] at h; cases h
  | some j =>
    rw [e] at h
    obtain ⟨h1, h2, h3, h4⟩ := ixN_seq e
    exact ⟨j, h1, h, h2, h3, h4⟩
theorem atI_nat {α : Type} {xs : List α} {j : Nat} {v : α} (h : xs[j]? = some v) : atI xs (j : Int) = some v := by
  have hj : j < xs.length := (List.getElem?_eq_some_iff.mp h).1
  have e : ixN xs.length (j : Int) = some j := by
    unfold ixN
    rw [if_pos (by omega), if_pos (by omega)]; simp
  unfold atI; rw [e]; exact h
theorem atI_last {α : Type} (xs : List α) (v : α) : atI (xs ++ [v]) (-1) = some v := by
  have hl : (xs ++ [v]).length = xs.length + 1 := by simp
  have e : ixN (xs ++ [v]).length (-1) = some xs.length := by
    unfold ixN
    rw [hl, if_neg (by decide), if_pos (by omega)]
    congr 1
    omega
  unfold atI
  rw [e]
  show (xs ++ [v])[xs.length]? = some v
  simp
def PlainIx (b : Expr) : Prop := ∀ o i, subscripted b false o i = operate [o, i] (getItem o i)
def IxR (X : Cx) (r : R2) : Prop :=
  ∀ (value slice : Expr) (pins : List (Addr × Obj)) (s : Shared) (σ : St) (H : Hp) (x y : V) (v u : Value) (Q : VK), Inv X pins σ H s → RelV x v → RelV y u → r x y H Q →
    subscripted slice false v u = operate [v, u] (getItem v u) → wpAny (model X.prog X.w) X.A (subscriptTail value slice v u) (EP X pins σ Q) X.xe s
def MtR (X : Cx) (id : String) (r : V → List V → Hp → VK → Prop) : Prop :=
  ∀ (pins : List (Addr × Obj)) (s : Shared) (σ : St) (H : Hp) (x : V) (xs : List V) (v : Value) (us : List Value) (Q : VK), Inv X pins σ H s → RelV x v → Vals xs us → r x xs H Q →
    wpAny (model X.prog X.w) X.A (call (.builtin id) (v :: us)) (EP X pins σ Q) X.xe s
section
variable {X : Cx} {a b : Expr} {ta tb : TE} {pos : Pos}
theorem IxR.or {r r' : R2} (h : IxR X r) (h' : IxR X r') : IxR X (fun x y H Q => r x y H Q ∨ r' x y H Q) := by
  intro value slice pins s σ H x y v u Q I rx ry q hs
  rcases q with q | q
  · exact h value slice pins s σ H x y v u Q I rx ry q hs
  · exact h' value slice pins s σ H x y v u Q I rx ry q hs
theorem MtR.or {id : String} {r r' : V → List V → Hp → VK → Prop} (h : MtR X id r) (h' : MtR X id r') : MtR X id (fun x xs H Q => r x xs H Q ∨ r' x xs H Q) := by
  intro pins s σ H x xs v us Q I rx rs q
  rcases q with q | q
  · exact h pins s σ H x xs v us Q I rx rs q
  · exact h' pins s σ H x xs v us Q I rx rs q
theorem pe_ix {r : R2} (hr : IxR X r) (ha : PE X a ta) (hb : PE X b tb) (hs : PlainIx b) : PE X (.Subscript a b pos) (tOp r ta tb) := by
  intro pins s σ H Q I h
  exact Subscript_ (binT ha hb I h fun v u s2 x y H2 I2 rx ry q => hr a b pins s2 σ H2 x y v u Q I2 rx ry q (hs _ _))
def rIxL (K : PySem.W.Frag) : R2 := fun x y H Q => ∃ p xs i v, x = .ref p ∧ y = .int i ∧ SqL K H p xs ∧ atI xs i = some v ∧ Q v H
def rIxT (K : PySem.W.Frag) : R2 := fun x y H Q => ∃ p xs i v, x = .ref p ∧ y = .int i ∧ SqT K H p xs ∧ atI xs i = some v ∧ Q v H
def rIxS : R2 := fun x y H Q => ∃ z i c, x = .str z ∧ y = .int i ∧ z.length ≤ sizeLine ∧ atI z.cps.toList i = some c ∧ Q (.str ⟨#[c]⟩) H
theorem ix_list : IxR X (rIxL X.K) := by
  intro value slice pins s σ H x y v u Q I rx ry h hs
  obtain ⟨p, xs, i, z, rfl, rfl, hq, he, q⟩ := h
  cases rx
  obtain ⟨t, rfl⟩ := ry
  obtain ⟨its, r, pl, hz⟩ := I.list hq
  obtain ⟨j, h1, h2, h3, h4, h5⟩ := atI_get he
  obtain ⟨w, ew, rw'⟩ := r.get h2
  have hl := r.length
  have hn := line63
  have fin : EP X pins σ Q w s := ⟨z, H, I, rw', q⟩
  by_cases h0 : 0 ≤ i
  · have hj : i.toNat = j := by
      rw [seqIndex_of h0 h5] at h1
      exact Option.some.inj h1
    exact item_listR pl.isList h0 (by omega) (by rw [hj]; simpa using ew) fin hs
  · have hj : (i + (its.toArray.size : Int)).toNat = j := by
      rw [seqIndex_neg (by omega) h4] at h1
      rw [List.size_toArray, ← hl]
      exact Option.some.inj h1
    exact subscriptTail_builtinR (x := w) pl.isList.typeIs slot_list_getitem.lookup
      (wpAny_getItem_list_neg (Q := fun r s' => r = w ∧ EP X pins σ Q r s') pl.isList (by omega) (by rw [List.size_toArray] <;> omega) (by omega) (by rw [hj]; simpa using ew) ⟨rfl, fin⟩) hs
theorem ix_tup : IxR X (rIxT X.K) := by
  intro value slice pins s σ H x y v u Q I rx ry h hs
  obtain ⟨p, xs, i, z, rfl, rfl, hq, he, q⟩ := h
  cases rx
  obtain ⟨t, rfl⟩ := ry
  obtain ⟨its, r, pl, hz⟩ := I.tuple hq
  obtain ⟨j, h1, h2, h3, h4, h5⟩ := atI_get he
  obtain ⟨w, ew, rw'⟩ := r.get h2
  have hl := r.length
  have hn := line63
  have fin : EP X pins σ Q w s := ⟨z, H, I, rw', q⟩
  exact subscriptTail_builtinR (x := w) pl.typeIs slot_tuple_getitem.lookup
    (getItem_tuple (j := j) (Q := fun r s' => r = w ∧ EP X pins σ Q r s') pl (by omega) (by omega) (by rw [List.size_toArray, ← hl]; exact h1) (by simpa using ew) ⟨rfl, fin⟩) hs
theorem ix_str : IxR X rIxS := by
  intro value slice pins s σ H x y v u Q I rx ry h hs
  obtain ⟨z, i, c, rfl, rfl, hz, he, q⟩ := h
  obtain ⟨t, rfl⟩ := rx
  obtain ⟨t', rfl⟩ := ry
  obtain ⟨j, h1, h2, h3, h4, h5⟩ := atI_get he
  have hl : z.cps.toList.length = z.length := by simp [Str.length]
  rw [hl] at h1 h4 h5
  have hn := line63
  exact tail_any (typeIs_str s z t) slot_str_getitem.lookup (getItem_str (c := c) (by
    have e1 : decide (i < -(2 ^ 63 : Int)) = false := decide_eq_false (by omega)
    have e2 : decide (i ≥ 2 ^ 63) = false := decide_eq_false (by omega)
    rw [e1, e2, Bool.or_false]) (by rw [h1]; simpa using h2) ⟨.str ⟨#[c]⟩, H, I.tok _, ⟨_, rfl⟩, q⟩) hs
def rIx (K : PySem.W.Frag) : R2 := fun x y H Q => rIxL K x y H Q ∨ rIxT K x y H Q ∨ rIxS x y H Q
theorem ix_seq : IxR X (rIx X.K) := ix_list.or (ix_tup.or ix_str)
theorem mapSeq_set (its : List Value) (n j : Nat) (u : Value) : Obj.mapSeq (·.setIfInBounds j u) { cls := .type "list", data := .seq its.toArray n } = { cls := .type "list", data := .seq (its.set j u).toArray n } := by
  simp [Obj.mapSeq]
theorem Inv.lst {pins : List (Addr × Obj)} {σ : St} {H : Hp} {s : Shared} {p : Addr} {xs : List V} (I : Inv X pins σ H s) (h : H p = some (.lst xs)) :
    ∃ (its : List Value) (n : Nat), Vals xs its ∧ s.heap.get? p = some { cls := .type "list", data := .seq its.toArray n } ∧ xs.length ≤ sizeLine := by
  obtain ⟨z, its, n, r, e⟩ := I.hok p _ h
  exact ⟨its, n, r, e, z⟩
theorem Inv.lstUpd {pins : List (Addr × Obj)} {σ : St} {H : Hp} {s : Shared} {p : Addr} {xs ys : List V} {its its' : List Value} {n n' : Nat} {f : Obj → Obj} (I : Inv X pins σ H s) (h : H p = some (.lst xs))
    (ho : s.heap.get? p = some { cls := .type "list", data := .seq its.toArray n }) (hf : f { cls := .type "list", data := .seq its.toArray n } = { cls := .type "list", data := .seq its'.toArray n' }) (r : Vals ys its') (hz : ys.length ≤ sizeLine) (t : Nat) :
    Inv X pins σ (upd H p (.lst ys)) { s with heap := s.heap.update p f, toks := t } := by
  have e : (s.heap.update p f).get? p = some { cls := .type "list", data := .seq its'.toArray n' } := by
    rw [Heap.get?_update_self f ho (by rw [hf] <;> rfl), hf]
  refine I.write (x := p) (e := p) (by rw [h]; trivial) (.inl rfl) (fun b u hb q => (Heap.get?_update_other _ _ (Ne.symm hb)).trans q) ⟨_, e⟩ ?_
  exact ⟨hz, its', n', r, e⟩
def rSetL : V → V → V → Hp → (Hp → Prop) → Prop := fun o i v H Q => ∃ p xs k j, o = .ref p ∧ i = .int k ∧ H p = some (.lst xs) ∧ ixN xs.length k = some j ∧ Q (upd H p (.lst (xs.set j v)))
theorem set_list : PSet X rSetL := by
  intro pins s σ H o i v ov iv u Q I ro ri rv h
  obtain ⟨p, xs, k, j, rfl, rfl, hp, hj, q⟩ := h
  cases ro
  obtain ⟨t, rfl⟩ := ri
  obtain ⟨its, n, r, ho, hz⟩ := I.lst hp
  obtain ⟨h1, h2, h3, h4⟩ := ixN_seq hj
  have hl := r.length
  have hn := line63
  have I' : Inv X pins σ (upd H p (.lst (xs.set j v))) { s with heap := s.heap.update p (Obj.mapSeq (·.setIfInBounds j u)) } :=
    I.lstUpd hp ho (mapSeq_set its n j u) (r.set rv j) (by rw [List.length_set]; exact hz) s.toks
  by_cases h0 : 0 ≤ k
  · have hk : k.toNat = j := by
      rw [seqIndex_of h0 h4] at h1
      exact Option.some.inj h1
    exact PySem.W.ki_setAt ho h0 (by omega) (by rw [List.size_toArray, ← hl]; exact h4) (by rw [hk]; exact ⟨_, I', q⟩)
  · have hk : (k + (its.toArray.size : Int)).toNat = j := by
      rw [seqIndex_neg (by omega) h3] at h1
      rw [List.size_toArray, ← hl]
      exact Option.some.inj h1
    exact PySem.W.ki_setBack ho (by omega) (by rw [List.size_toArray, ← hl]; exact h3) (by omega) (by rw [hk]; exact ⟨_, I', q⟩)
theorem slice_bounds (lo hi : Option Int) (n : Nat) : (sliceBounds lo hi none n).1 = ((HT.sIx n 0 lo : Nat) : Int) ∧ (sliceBounds lo hi none n).2.1 = ((HT.sIx n n hi : Nat) : Int) ∧ (sliceBounds lo hi none n).2.2 = 1 := by
  refine ⟨?_, ?_, rfl⟩
  · cases lo with
    | none => simp [sliceBounds, HT.sIx]
    | some i =>
      simp only [sliceBounds, HT.sIx, Option.getD_none, show (1 : Int) > 0 by decide, if_true]
      by_cases h : i < 0
      · simp only [h, if_true] <;> omega
      · simp only [h, if_false] <;> omega
  · cases hi with
    | none => simp [sliceBounds, HT.sIx]
    | some i =>
      simp only [sliceBounds, HT.sIx, Option.getD_none, show (1 : Int) > 0 by decide, if_true]
      by_cases h : i < 0
      · simp only [h, if_true] <;> omega
      · simp only [h, if_false] <;> omega
theorem slicePick_cut (its : List Value) (lo hi : Option Int) : slicePick its.toArray lo hi none = ((its.drop (HT.sIx its.length 0 lo)).take (HT.sIx its.length its.length hi - HT.sIx its.length 0 lo)).toArray := by
  obtain ⟨h1, h2, h3⟩ := slice_bounds lo hi its.toArray.size
  unfold slicePick
  rw [h1, h2, h3]
  simp only [sliceRange_one, pick_run, List.size_toArray] <;> rfl
def rSlL (K : PySem.W.Frag) : V → Option Int → Option Int → Hp → VK → Prop := fun x lo hi H Q => ∃ a xs, x = .ref a ∧ SqL K H a xs ∧ ∀ p, H p = none → Q (.ref p) (upd H p (.lst (cutV xs lo hi)))
theorem sl_list : SlR X (rSlL X.K) := by
  intro pins s σ H x v vl vu lo hi sl Q I rx hs pl pu h
  obtain ⟨a, xs, rfl, hx, q⟩ := h
  cases rx
  obtain ⟨its, r, ht, hz⟩ := I.list hx
  have hlen := r.length
  refine ⟨"list", _, slot_list_getitem.lookup, ht.isList.typeIs, ?_⟩
  refine wpAny_getItem_list_slice ht.isList hs pl pu .none (by simp) ?_ (by rw [List.size_toArray] <;> omega)
  rw [slicePick_cut, ← hlen]
  refine ⟨.ref s.heap.objs.size, _, I.laid (t' := s.toks) (o := .lst (cutV xs lo hi)) (fun b ob q => Heap.get?_push_of_some _ q) (Nat.le_refl _) ?_, rfl, q _ (I.hok.fresh (Nat.le_refl _))⟩
  exact ⟨Nat.le_trans (cutV_length xs lo hi) hz, _, 0, (r.drop (HT.sIx xs.length 0 lo)).take (HT.sIx xs.length xs.length hi - HT.sIx xs.length 0 lo), Heap.get?_push_size _ rfl⟩
def flatV : V → Bool
  | .non => true
  | .bl _ => true
  | .int _ => true
  | .str _ => true
  | _ => false
def eqV : V → V → Bool
  | .non, .non => true
  | .bl a, .bl b => a == b
  | .bl a, .int b => (if a then 1 else 0) == b
  | .int a, .bl b => a == (if b then 1 else 0)
  | .int a, .int b => a == b
  | .str a, .str b => a == b
  | _, _ => false
theorem eqAt_V {A : Around} {s : Shared} {y x : V} {u v : Value} (ry : RelV y u) (rx : RelV x v) (fy : flatV y = true) (fx : flatV x = true) : SeqAt.EqAt A s u v (eqV y x) := by
  cases y with
  | non =>
    cases ry
    cases x with
    | non => cases rx; exact SeqAt.EqAt.same _
    | bl b => cases rx; exact SeqAt.EqAt.none_bool b
    | int b => obtain ⟨t, rfl⟩ := rx; exact SeqAt.EqAt.none_int b t
    | str b => obtain ⟨t, rfl⟩ := rx; exact SeqAt.EqAt.none_str b t
    | _ => exact absurd (show false = true from fx) Bool.false_ne_true
  | bl a =>
    cases ry
    cases x with
    | non => cases rx; exact SeqAt.EqAt.bool_none a
    | bl b => cases rx; exact SeqAt.EqAt.bool_bool a b
    | int b => obtain ⟨t, rfl⟩ := rx; exact SeqAt.EqAt.bool_int a b t
    | str b => obtain ⟨t, rfl⟩ := rx; exact SeqAt.EqAt.bool_str a b t
    | _ => exact absurd (show false = true from fx) Bool.false_ne_true
  | int a =>
    obtain ⟨t', rfl⟩ := ry
    cases x with
    | non => cases rx; exact SeqAt.EqAt.int_none a t'
    | bl b => cases rx; exact SeqAt.EqAt.int_bool a t' b
    | int b => obtain ⟨t, rfl⟩ := rx; exact SeqAt.EqAt.int_int a t' b t
    | str b => obtain ⟨t, rfl⟩ := rx; exact SeqAt.EqAt.int_str a t' b t
    | _ => exact absurd (show false = true from fx) Bool.false_ne_true
  | str a =>
    obtain ⟨t', rfl⟩ := ry
    cases x with
    | non => cases rx; exact SeqAt.EqAt.str_none a t'
    | bl b => cases rx; exact SeqAt.EqAt.str_bool a t' b
    | int b => obtain ⟨t, rfl⟩ := rx; exact SeqAt.EqAt.str_int a t' b t
    | str b => obtain ⟨t, rfl⟩ := rx; exact SeqAt.EqAt.str_str a t' b t
    | _ => exact absurd (show false = true from fx) Bool.false_ne_true
  | _ => exact absurd (show false = true from fy) Bool.false_ne_true
def eqU (x : V) (u : Value) : Bool := match u with
  | .none => eqV .non x
  | .bool b => eqV (.bl b) x
  | .int i _ => eqV (.int i) x
  | .str z _ => eqV (.str z) x
  | _ => false
theorem eqU_of {x y : V} {u : Value} (r : RelV y u) (f : flatV y = true) : eqU x u = eqV y x := by
  cases y with
  | non => cases r; rfl
  | bl b => cases r; rfl
  | int i => obtain ⟨t, rfl⟩ := r; rfl
  | str z => obtain ⟨t, rfl⟩ := r; rfl
  | _ => exact absurd (show false = true from f) Bool.false_ne_true
theorem any_eqU {x : V} : ∀ {xs : List V} {us : List Value}, Vals xs us → xs.all flatV = true → us.any (eqU x) = xs.any fun y => eqV y x
  | _, _, .nil, _ => rfl
  | y :: xs, u :: us, .cons r t, f => by
    rw [List.all_cons, Bool.and_eq_true] at f
    rw [List.any_cons, List.any_cons, eqU_of r f.1, any_eqU t f.2]
theorem mem_eqAt {A : Around} {s : Shared} {x : V} {v : Value} (rx : RelV x v) (fx : flatV x = true) : ∀ {xs : List V} {us : List Value}, Vals xs us → xs.all flatV = true → ∀ u ∈ us, SeqAt.EqAt A s u v (eqU x u)
  | _, _, .nil, _ => fun u hu => by cases hu
  | y :: xs, u :: us, .cons r t, f => fun u' hu => by
    rw [List.all_cons, Bool.and_eq_true] at f
    rcases List.mem_cons.mp hu with rfl | hu
    · rw [eqU_of r f.1]; exact eqAt_V r rx f.1 fx
    · exact mem_eqAt rx fx t f.2 u' hu
def inV (x : V) (xs : List V) : Bool := xs.any fun y => eqV y x
def rIn (K : PySem.W.Frag) (neg : Bool) : R2 := fun x y H Q => ∃ p xs, y = .ref p ∧ (SqL K H p xs ∨ SqT K H p xs) ∧ flatV x = true ∧ xs.all flatV = true ∧ Q (.bl (if neg then !inV x xs else inV x xs)) H
theorem op_in_seq : OpR X (compareOp .In) (rIn X.K false) := by
  intro pins s σ H x y v u Q I rx ry h
  obtain ⟨p, xs, rfl, hq, fx, fs, q⟩ := h
  cases ry
  rcases hq with hq | hq
  · obtain ⟨its, r, pl, hz⟩ := I.list hq
    refine SeqAt.in_listAt (eqU x) pl.isList (fun w hw => mem_eqAt rx fx r fs w (by simpa using hw)) ⟨.bl _, H, I, rfl, ?_⟩
    rw [show its.toArray.any (eqU x) = its.any (eqU x) by simp, any_eqU r fs]
    exact q
  · obtain ⟨its, r, pl, hz⟩ := I.tuple hq
    refine SeqAt.in_tupleAt (eqU x) pl (fun w hw => mem_eqAt rx fx r fs w (by simpa using hw)) ⟨.bl _, H, I, rfl, ?_⟩
    rw [show its.toArray.any (eqU x) = its.any (eqU x) by simp, any_eqU r fs]
    exact q
theorem call_len_seq : CallR X (.builtin "len") (fun xs H Q => ∃ p ys, xs = [.ref p] ∧ (SqL X.K H p ys ∨ SqT X.K H p ys) ∧ Q (.int ys.length) H) := by
  intro pins s σ H xs us Q I r h
  obtain ⟨p, ys, rfl, hq, q⟩ := h
  obtain ⟨u, rfl, rx⟩ := vals1 r
  cases rx
  have hn := line63
  rcases hq with hq | hq
  · obtain ⟨its, r', pl, hz⟩ := I.list hq
    have hlen := r'.length
    exact Calls.call_len_list pl.isList (by simp only [List.size_toArray] <;> omega) ⟨.int ys.length, H, I.tok _, ⟨s.toks + 1, by rw [List.size_toArray, hlen]⟩, q⟩
  · obtain ⟨its, r', pl, hz⟩ := I.tuple hq
    have hlen := r'.length
    exact len_tuple pl (by simp only [List.size_toArray] <;> omega) ⟨.int ys.length, H, I.tok _, ⟨s.toks + 1, by rw [List.size_toArray, hlen]⟩, q⟩
theorem call_len_str : CallR X (.builtin "len") (fun xs H Q => ∃ z, xs = [.str z] ∧ z.length ≤ sizeLine ∧ Q (.int z.length) H) := by
  intro pins s σ H xs us Q I r h
  obtain ⟨z, rfl, hz, q⟩ := h
  obtain ⟨u, rfl, t, rfl⟩ := vals1 r
  have hn := line63
  exact len_str (by omega) ⟨.int z.length, H, I.tok _, ⟨_, rfl⟩, q⟩
theorem CallR.or {f : Value} {r r' : List V → Hp → VK → Prop} (h : CallR X f r) (h' : CallR X f r') : CallR X f (fun xs H Q => r xs H Q ∨ r' xs H Q) := by
  intro pins s σ H xs us Q I rs q
  rcases q with q | q
  · exact h pins s σ H xs us Q I rs q
  · exact h' pins s σ H xs us Q I rs q
theorem call_list_of : CallR X (.type "list") (fun xs H Q => ∃ p ys, xs = [.ref p] ∧ (SqL X.K H p ys ∨ SqT X.K H p ys) ∧ ∀ l, H l = none → Q (.ref l) (upd H l (.lst ys))) := by
  intro pins s σ H xs us Q I r h
  obtain ⟨p, ys, rfl, hq, q⟩ := h
  obtain ⟨u, rfl, rx⟩ := vals1 r
  cases rx
  have fin : ∀ (its : List Value), Vals ys its → ys.length ≤ sizeLine → ∀ (h' : Heap) (c' : Nat), (∀ b o', s.heap.get? b = some o' → h'.get? b = some o') →
      h'.get? s.heap.objs.size = some { cls := .type "list", dict := none, data := .seq its.toArray c', slots := #[] } → EP X pins σ Q (.ref s.heap.objs.size) { s with heap := h' } := fun its r' hz h' c' kp e =>
    ⟨.ref s.heap.objs.size, _, I.laid (t' := s.toks) kp (Nat.le_refl _) (show ObjOk X.prog X.w _ h' _ (.lst ys) from ⟨hz, its, c', r', e⟩), rfl, q _ (I.hok.fresh (Nat.le_refl _))⟩
  rcases hq with hq | hq
  · obtain ⟨its, r', pl, hz⟩ := I.list hq
    have hlen := r'.length
    obtain ⟨o, ho, hc, n, hd⟩ := pl.isList
    exact call_list_seq p (.inl rfl) ho hc hd (fun h' c' kp e => fin its r' hz h' c' kp e) (by simp only [List.size_toArray] <;> omega)
  · obtain ⟨its, r', pl, hz⟩ := I.tuple hq
    have hlen := r'.length
    obtain ⟨o, ho, hc, n, hd⟩ := pl
    exact call_list_seq p (.inr rfl) ho hc hd (fun h' c' kp e => fin its r' hz h' c' kp e) (by simp only [List.size_toArray] <;> omega)
def tyV (K : PySem.W.Frag) (T : String) (x : V) (H : Hp) : Prop := match x with
  | .str _ => T = "str"
  | .int _ => T = "int"
  | .ref p => (T = "list" ∧ ∃ xs, SqL K H p xs) ∨ (T = "tuple" ∧ ∃ o, K.lookup p = some o ∧ o.cls = .type "tuple" ∧ o.dict = none) ∨
      (T = "dict" ∧ ((∃ kvs, H p = some (.dK kvs)) ∨ ∃ kvs, H p = some (.dT kvs))) ∨ (T = "set" ∧ ∃ S n, H p = some (.set S n))
  | _ => False
theorem tyV_is {pins : List (Addr × Obj)} {σ : St} {H : Hp} {s : Shared} {T : String} {x : V} {v : Value} (I : Inv X pins σ H s) (r : RelV x v) (ty : tyV X.K T x H) :
    s.TypeIs v T ∧ ∀ a, v = .ref a → ∃ ob, s.heap.get? a = some ob ∧ ob.dict = none := by
  cases x with
  | str z =>
    obtain ⟨t, rfl⟩ := r
    cases (show T = "str" from ty)
    exact ⟨typeIs_str s z t, fun _ e => nomatch e⟩
  | int i =>
    obtain ⟨t, rfl⟩ := r
    cases (show T = "int" from ty)
    exact ⟨typeIs_int s i t, fun _ e => nomatch e⟩
  | ref p =>
    cases r
    rcases ty with ⟨rfl, xs, hq⟩ | ⟨rfl, o, hk, hc, hd⟩ | ⟨rfl, hk⟩ | ⟨rfl, S, n, hk⟩
    · obtain ⟨its, _, pl, _⟩ := I.list hq
      refine ⟨pl.isList.typeIs, fun a e => ?_⟩
      cases e
      obtain ⟨o, n, e, c, hd, _⟩ := pl
      exact ⟨o, e, hd⟩
    · refine ⟨⟨o, I.kIn p o hk, hc⟩, fun a e => ?_⟩
      cases e
      exact ⟨o, I.kIn _ o hk, hd⟩
    · have z : ∃ o, s.heap.get? p = some o ∧ o.ExactDict := by
        rcases hk with ⟨kvs, hk⟩ | ⟨kvs, hk⟩
        · obtain ⟨_, _, _, _, o, _, _, e, ex, _⟩ := I.hok p _ hk
          exact ⟨o, e, ex⟩
        · obtain ⟨_, _, _, _, o, _, _, e, ex, _⟩ := I.hok p _ hk
          exact ⟨o, e, ex⟩
      obtain ⟨o, e, ex⟩ := z
      refine ⟨⟨o, e, ex.1⟩, fun a e2 => ?_⟩
      cases e2
      exact ⟨o, e, ex.2.1⟩
    · obtain ⟨o, _, _, _, e, ex, _⟩ := I.hok p _ hk
      refine ⟨⟨o, e, ex.1⟩, fun a e2 => ?_⟩
      cases e2
      exact ⟨o, e, ex.2.1⟩
  | _ => exact False.elim ty
def tBM0 (K : PySem.W.Frag) (T : String) (r : V → List V → Hp → VK → Prop) (to : TE) : TE := fun σ H Q => to σ H fun x H1 => tyV K T x H1 ∧ r x [] H1 Q
def tBM (K : PySem.W.Frag) (T : String) (r : V → List V → Hp → VK → Prop) (to : TE) (t : TA) : TE := fun σ H Q => to σ H fun x H1 => tyV K T x H1 ∧ t σ H1 fun xs H2 => r x xs H2 Q
variable {o e : Expr} {es : List Expr} {to : TE} {t : TA} {name : Str} {apos cpos : Pos} {T id : String} {r : V → List V → Hp → VK → Prop}
theorem pe_bm0 (pa : PlainAttrs T) (slot : Slot T name id) (hty : typeOf (.builtin id) = pure (.type "method_descriptor")) (hm : MtR X id r) (ho : PE X o to)
    (hbase : attributeBase o name X.env (eval o X.env) = eval o X.env := by rfl) (hline : (apos.endLine == cpos.line) = true := by rfl) : PE X (.Call (.Attribute o name apos) [] [] cpos) (tBM0 X.K T r to) := by
  intro pins s σ H Q I h
  refine wpAny_Call_method0_late hbase hline (thn (ho pins s σ H _ I h) fun v s1 ⟨x, H1, I1, r1, ty, q1⟩ => ?_)
  obtain ⟨h1, h2⟩ := tyV_is I1 r1 ty
  exact ⟨T, id, pa, slot, hty, h1, h2, Calls.callWith_builtin rfl (PySem.evalArgs_none (hm pins s1 σ H1 x [] v [] Q I1 r1 .nil q1))⟩
theorem pe_bm (pa : PlainAttrs T) (slot : Slot T name id) (hty : typeOf (.builtin id) = pure (.type "method_descriptor")) (hm : MtR X id r) (ho : PE X o to) (ha : PA X (e :: es) t)
    (hbase : attributeBase o name X.env (eval o X.env) = eval o X.env := by rfl)
    (hfew : ((backTo cpos (starEach (e :: es) X.env)).all (fun x => !x.1) && (backToKw cpos (keywordEach [] X.env)).all (fun x => x.1.isSome)
      && decide ((e :: es).length + ([] : List Keyword).length + (if ([] : List Keyword).isEmpty then 0 else 1) < 30)) = true := by rfl)
    (hline : (apos.endLine == cpos.line) = true := by rfl) (hs : starEach (e :: es) X.env = (false, eval e X.env) :: starEach es X.env := by rfl) (hplain : (backTo cpos (starEach es X.env)).any (·.1) = false := by rfl) :
    PE X (.Call (.Attribute o name apos) (e :: es) [] cpos) (tBM X.K T r to t) := by
  intro pins s σ H Q I h
  refine wpAny_Call_method_late hbase hfew hline rfl (thn (ho pins s σ H _ I h) fun v s1 ⟨x, H1, I1, r1, ty, q1⟩ => ?_)
  obtain ⟨h1, h2⟩ := tyV_is I1 r1 ty
  refine ⟨T, id, pa, slot, hty, h1, h2, ?_⟩
  have hA := ha cpos pins s1 σ H1 _ I1 q1
  rw [hs] at hA ⊢
  refine Calls.callWith_builtin (by show (false || (backTo cpos (starEach es X.env)).any (·.1)) = false; rw [hplain] <;> rfl) (Calls.evalArgs_plain ?_)
  exact thn hA fun us s2 ⟨vs, H2, I2, r2, q2⟩ => hm pins s2 σ H2 x vs v us Q I2 r1 r2 q2
end
end L2
namespace L2
open PySem PySem.Spec PyProof.Rows
def MtM (X : Cx) (id : String) (r : V → List V → Hp → VK → Prop) : Prop :=
  ∀ (pins : List (Addr × Obj)) (s : Shared) (σ : St) (H : Hp) (x : V) (xs : List V) (v : Value) (us : List Value) (Q : VK), Inv X pins σ H s → RelV x v → Vals xs us → r x xs H Q →
    wpAny (model X.prog X.w) X.A (call (.builtin id) (v :: us)) (EP X pins σ Q) X.xe s
theorem Vals.one : ∀ {x : V} {us : List Value}, Vals [x] us → ∃ u, us = [u] ∧ RelV x u
  | _, _, .cons r .nil => ⟨_, rfl, r⟩
theorem Vals.zero : ∀ {us : List Value}, Vals [] us → us = []
  | _, .nil => rfl
theorem Vals.dropLast {xs : List V} {us : List Value} (h : Vals xs us) : Vals xs.dropLast us.dropLast := by
  induction h with
  | nil => exact .nil
  | cons r t ih =>
    cases t with
    | nil => exact .nil
    | cons q t' => exact .cons r ih
theorem Vals.eraseIdx : ∀ {xs : List V} {us : List Value} (i : Nat), Vals xs us → Vals (xs.eraseIdx i) (us.eraseIdx i)
  | _, _, _, .nil => .nil
  | _, _, 0, .cons _ t => t
  | _, _, i + 1, .cons r t => .cons r (Vals.eraseIdx i t)
theorem Vals.reverse {xs : List V} {us : List Value} (h : Vals xs us) : Vals xs.reverse us.reverse := by
  induction h with
  | nil => exact .nil
  | cons r t ih => rw [List.reverse_cons, List.reverse_cons]; exact Vals.append ih (.cons r .nil)
theorem Vals.rep {xs : List V} {us : List Value} (h : Vals xs us) : ∀ k : Nat, Vals (List.replicate k xs).flatten (List.replicate k us).flatten
  | 0 => .nil
  | k + 1 => by
    rw [List.replicate_succ, List.replicate_succ, List.flatten_cons, List.flatten_cons]
    exact Vals.append h (Vals.rep h k)
theorem foldl_rep (its : List Value) : ∀ (k : Nat) (acc : List Value),
    List.foldl (fun x1 x2 => x1 ++ x2) acc.toArray (List.replicate k its.toArray) = (acc ++ (List.replicate k its).flatten).toArray
  | 0, acc => by simp
  | k + 1, acc => by
    have e : acc.toArray ++ its.toArray = (acc ++ its).toArray := by simp
    have e2 : (acc ++ its) ++ (List.replicate k its).flatten = acc ++ (List.replicate (k + 1) its).flatten := by
      rw [List.replicate_succ, List.flatten_cons, List.append_assoc]
    rw [← e2, ← foldl_rep its k (acc ++ its), ← e, List.replicate_succ, List.foldl_cons]
section
variable {X : Cx} {pins : List (Addr × Obj)} {σ : St} {H : Hp} {s : Shared} {l b : Addr} {xs ys zs : List V}
theorem Inv.lset {its its' : List Value} {n : Nat} {f : Array Value → Array Value} {t' : Nat} (I : Inv X pins σ H s) (hH : H l = some (.lst xs))
    (e : s.heap.get? l = some { cls := .type "list", data := .seq its.toArray n }) (hf : f its.toArray = its'.toArray) (hv : Vals ys its') (hz : ys.length ≤ sizeLine) :
    Inv X pins σ (upd H l (.lst ys)) { s with heap := s.heap.update l (Obj.mapSeq f), toks := t' } := by
  have q := PySem.IsL.update e f
  rw [hf] at q
  refine I.write (x := l) (e := l) (by rw [hH]; exact trivial) (.inl rfl) (fun b' u hb hu => (Heap.get?_update_other s.heap (Obj.mapSeq f) (Ne.symm hb)).trans hu) ⟨_, q⟩ ?_
  exact ⟨hz, its', _, hv, q⟩
theorem Inv.lnew {its : List Value} {t' : Nat} (I : Inv X pins σ H s) (hv : Vals ys its) (hz : ys.length ≤ sizeLine) :
    Inv X pins σ (upd H s.heap.objs.size (.lst ys)) { s with heap := s.heap.push { cls := .type "list", data := .seq its.toArray }, toks := t' } :=
  I.laid (fun _ _ q => Heap.get?_push_of_some _ q) (Nat.le_refl _) ⟨hz, its, 0, hv, Heap.get?_push_size _ rfl⟩
theorem Inv.fresh (I : Inv X pins σ H s) : H s.heap.objs.size = none := I.hok.fresh (Nat.le_refl _)
theorem Inv.lstM (I : Inv X pins σ H s) (hH : H l = some (.lst xs)) : xs.length ≤ sizeLine ∧ ∃ (its : List Value) (n : Nat), Vals xs its ∧ xs.length = its.length ∧ s.heap.get? l = some { cls := .type "list", data := .seq its.toArray n } := by
  obtain ⟨z, its, n, r, e⟩ := I.hok l _ hH
  exact ⟨z, its, n, r, r.length, e⟩
theorem notLongL {n : Nat} (h : n ≤ sizeLine) : Builtin.List.listTooLong n = false := by
  unfold Builtin.List.listTooLong
  exact decide_eq_false (by omega)
end
section
variable {X : Cx}
def rAppend : V → List V → Hp → VK → Prop := fun x vs H Q => ∃ l xs y, x = .ref l ∧ vs = [y] ∧ H l = some (.lst xs) ∧ xs.length < sizeLine ∧ Q .non (upd H l (.lst (xs ++ [y])))
theorem mt_append : MtM X "list.append" rAppend := by
  intro pins s σ H x vs v us Q I rx rv h
  obtain ⟨l, xs, y, rfl, rfl, hH, hz, q⟩ := h
  cases rx
  obtain ⟨u, rfl, ru⟩ := rv.one
  obtain ⟨z, its, n, r, hl, e⟩ := I.lstM hH
  refine call_meets F.slot_list_append ⟨_, e, rfl⟩ F.entry_list_append (F.args_list_append_2 _ _) (PySem.list_append l its.toArray n u (by rw [List.size_toArray]; omega)) ⟨e, ?_⟩
  refine ⟨.non, _, I.lset (its' := its ++ [u]) hH e (by simp) (r.append (.cons ru .nil)) ?_, rfl, q⟩
  rw [List.length_append, List.length_singleton]
  omega
def rRep : R2 := fun x y H Q => ∃ l k xs, x = .ref l ∧ y = .int k ∧ H l = some (.lst xs) ∧ -(2 ^ 63) ≤ k ∧ k < 2 ^ 63 ∧ xs.length * k.toNat ≤ sizeLine ∧
  ∀ p, H p = none → Q (.ref p) (upd H p (.lst (List.replicate k.toNat xs).flatten))
theorem len_rep {α : Type} (xs : List α) (k : Nat) : (List.replicate k xs).flatten.length = k * xs.length := by
  induction k with
  | zero => simp
  | succ k ih => rw [List.replicate_succ, List.flatten_cons, List.length_append, ih, Nat.succ_mul, Nat.add_comm]
theorem op_rep : OpR X (binaryOp .Mult) rRep := by
  intro pins s σ H x y v u Q I rx ry h
  obtain ⟨l, k, xs, rfl, rfl, hH, h1, h2, hz, q⟩ := h
  cases rx
  obtain ⟨t, rfl⟩ := ry
  obtain ⟨z, its, n, r, hl, e⟩ := I.lstM hH
  have hlen : its.toArray.size * k.toNat ≤ sizeLine := by rw [List.size_toArray, ← hl]; exact hz
  have hcap : ¬ its.toArray.size * k.toNat > (2 ^ 63 - 1) / 8 := by
    have : (sizeLine : Nat) ≤ (2 ^ 63 - 1) / 8 := by decide
    omega
  have hfit : ¬ (!Builtin.List.listFitsIndex k) = true := by
    rw [fitsIndex_both h1 h2]
    exact Bool.false_ne_true
  have hlong : ¬ Builtin.List.listTooLong (its.toArray.size * k.toNat) = true := by
    rw [notLongL hlen]
    exact Bool.false_ne_true
  have hnew : List.foldl (fun x1 x2 => x1 ++ x2) #[] (List.replicate (if its.toArray.isEmpty = true then 0 else k.toNat) its.toArray) = (List.replicate k.toNat its).flatten.toArray := by
    have f0 : ∀ m : Nat, List.foldl (fun x1 x2 => x1 ++ x2) #[] (List.replicate m its.toArray) = (List.replicate m its).flatten.toArray := fun m => by
      have := foldl_rep its m []
      rw [List.nil_append] at this
      exact this
    rw [f0]
    cases its with
    | nil => simp
    | cons a r' => rw [if_neg (by simp)]
  refine wpAny_binaryOp_repeat_ref (T := "list") (U := "int") (by decide) ⟨_, e, rfl⟩ (fun s' => typeIs_int s' k t) noFill_list_mul F.fills_int_mul F.slot_int_rmul repeat_list F.slot_int_index.lookup
    (call_meets F.slot_int_rmul (typeIs_int s k t) F.entry_int_rmul (F.args_int_rmul_2 _ _) (int___rmul___int_list k t l its.toArray n)
      ⟨e, rfl, ⟨_, e, rfl⟩, call_meets F.slot_list_mul ⟨_, e, rfl⟩ F.entry_list_mul (F.args_list_mul_2 _ _) (AutoListH.list___mul___list_int_3 l its.toArray n k t hfit hcap hlong) ⟨e, ?_⟩⟩)
  rw [hnew]
  exact ⟨.ref _, _, I.lnew (t' := s.toks) (r.rep k.toNat) (by rw [len_rep, Nat.mul_comm]; exact hz), rfl, q _ I.fresh⟩
end
section
variable {prog : Program} {w : World} {A : Around} {E : Value → Shared → Prop} {s : Shared}
set_option maxRecDepth 100000 in
end
section
variable {X : Cx}
end
end L2
namespace Att
open PySem PySem.W PySem.Calls PyProof.Rows
theorem ints_of_wellAll {P : Params} {h : Heap} : ∀ (ns : List Int) (vs : List Value), WellAll P h vs (ns.map WData.int) → IntsAre vs ns := by
  intro ns
  induction ns with
  | nil =>
    intro vs w
    rw [List.map_nil] at w
    cases w
    exact .nil
  | cons n ns ih =>
    intro vs w
    rw [List.map_cons] at w
    cases w with
    | cons a b =>
      cases a
      exact .cons _ _ (ih _ b)
theorem script_of {l : OpenLaw} {n : Nat} (hn : l.most = some n) {P : Params} {h : Heap} {args : List WData} {vals : List Value}
    (hpre : l.row.toRowW.claim.pre args = true) (hwl : WellAll P h vals args) :
    ∃ a vs ns, vals = [Value.ref a] ∧ args = [WData.list (ns.map WData.int)] ∧ h.get? a = some { cls := .type "list", data := .seq vs.toArray } ∧ IntsAre vs ns ∧ ns.length ≤ n := by
  have hsh : WShape.hasAll [] args [.list .int] = true := (pre_splitW hpre).1
  have hc : l.pre.holds [] { args := args } = true := (pre_splitW hpre).2
  obtain ⟨d, r, rfl, h1, h2⟩ := hasAllW_cons hsh
  obtain rfl := hasAllW_nil h2
  obtain ⟨xs, rfl, h3⟩ := hasW_list h1
  obtain ⟨ns, rfl⟩ := items_int h3
  have hlen : ns.length ≤ n := by
    unfold OpenLaw.pre at hc
    have h4 : (WTm.not (.lt (.lit (.int (n : Int))) (.len (.arg 0)))).holds [] { args := [.list (ns.map .int)] } = true := by
      have h4 := (holds_andW hc).1
      rw [hn] at h4
      exact h4
    have h5 := condW_of h4 (w_not (w_lt w_lit (w_len_list (w_arg rfl))))
    rw [List.length_map] at h5
    refine Nat.le_of_not_lt fun q => ?_
    have q' : (n : Int) < ((ns.length : Nat) : Int) := by omega
    first
      | (rw [decide_eq_true q'] at h5; exact absurd h5 (by decide))
      | (simp at h5; omega)
  cases hwl with
  | cons w1 w2 =>
    cases w2
    cases w1 with
    | list ho hall => exact ⟨_, _, ns, rfl, rfl, ho, ints_of_wellAll ns _ hall, hlen⟩
theorem post_true (l : OpenLaw) (args : List WData) : l.row.toRowW.claim.post args (.bool true) args = true :=
  postW_of (r := l.row.toRowW) (X := (true == true))
    (show WShape.has [] (.bool true) .bool = true by first | rfl | decide | simp [WShape.has, WShape.arms, WShape.armsAll])
    (show (WTm.eq .res (.lit (.bool true))).value [] { args := args, res := some (.bool true), after := args } = some (.bool (true == true)) from w_eq_bool (w_res rfl) w_lit) rfl
section
variable {prog : Program} {w : World} {A : Around} {E : Value → Shared → Prop} {s : Shared} {K : Frag}
end
end Att
namespace L2
open PySem PySem.Spec PyProof.Rows
theorem vals_ints : ∀ {vs : List Value} {ns : List Int}, IntsAre vs ns → Vals (ns.map V.int) vs
  | _, _, .nil => .nil
  | _, _, .cons n t h => .cons ⟨t, rfl⟩ (vals_ints h)
def Only (H : Hp) : Prop := ∀ b, H b = none ∨ ∃ o xs, H b = some (.frz o (.lst xs))
theorem law_call {P : Program} {w : World} {K : PySem.W.Frag} {mg mb : Str → Option Value} {CX : CXT} {k : Nat} {fa a : Addr} {fd : FuncData} {x : Str} {sp : Sp} {s₁ : Shared} {vs : List Value} {ns : List Int}
    (KX : K.In s₁.heap) (hns : s₁.heap.Ns mainGlobals mg) (hb : s₁.heap.Ns builtinsNs mb) (hbb : ∀ x : Str, x ≠ "__name__" → mb x = bootBuiltins x) (hlim : s₁.heap.NoLimit) (hg : s₁.gens = #[])
    (ha : s₁.heap.get? a = some { cls := .type "list", data := .seq vs.toArray }) (hi : IntsAre vs ns) (hl : ns.length ≤ sizeLine) (hr : Room k callerA)
    (F : ∀ base : Heap, K.In base → base.Ns mainGlobals mg → FnOk P w K mg base CX k fa fd [x] sp) (hbind : ∀ (s : Shared) (u : Value), BindsTo s fd ⟨[u], []⟩ [(x, u)])
    (hsp : ∀ H : Hp, Only H → SqL K H a (ns.map V.int) → sp [.ref a] H (fun v _ => v = .bl true) fun _ _ _ => False)
    (hCX : ∀ H e s', CX [] H s₁ (fun _ _ _ => False) e s' → False) :
    codeAny (model P w) callerA (.call (.ref fa) ⟨[.ref a], []⟩) (fun r s' => r = .ok (.ret (.bool true)) ∧ OldK s₁.heap s'.heap ∧ s'.os = s₁.os ∧ AllBare s'.gens) s₁ := by
  have rv := vals_ints hi
  have lenV := hi.length
  have core : ∀ H : Hp, Only H → SqL K H a (ns.map V.int) → HOk P w H s₁.heap → (∀ b, H b ≠ none → b = a) → (H a ≠ none → K.lookup a = none) →
      codeAny (model P w) callerA (.call (.ref fa) ⟨[.ref a], []⟩) (fun r s' => r = .ok (.ret (.bool true)) ∧ OldK s₁.heap s'.heap ∧ s'.os = s₁.os ∧ AllBare s'.gens) s₁ := by
    intro H hO hS hok hA hK
    have base_of : ∀ {b : Addr} {o : Obj}, s₁.heap.get? b = some o → H b = none → (hidT s₁.heap H).get? b = some o := fun e n => hidT_get e n
    have noA : ∀ {b : Addr} {o : Obj} {es : Array DictEntry} {ep : Nat}, s₁.heap.get? b = some o → o.data = .dict es ep → H b = none := fun {b o es ep} e d => by
      cases q : H b with
      | none => rfl
      | some u =>
        have e' : b = a := hA b (by rw [q]; simp)
        subst e'
        rw [ha] at e; cases e
        have d' : Data.seq vs.toArray _ = Data.dict es ep := d
        cases d'
    have nsK : ∀ {b : Addr} {m : Str → Option Value}, s₁.heap.Ns b m → (hidT s₁.heap H).Ns b m := fun {b m} ⟨o, es, ep, e, d, r⟩ => ⟨o, es, ep, base_of e (noA e d), d, r⟩
    have hKb : K.In (hidT s₁.heap H) := fun b o e => base_of (KX b o e) (by
      cases q : H b with
      | none => rfl
      | some u =>
        have e' : b = a := hA b (by rw [q]; simp)
        subst e'
        rw [hK (by rw [q]; simp)] at e; cases e)
    have hM : Mod K mg (hidT s₁.heap H) := ⟨hKb, nsK hns, ⟨mb, nsK hb, hbb⟩, let ⟨mc, h1, h2⟩ := hlim; ⟨mc, nsK h1, h2⟩⟩
    have e0 : Env0 P w K mg (hidT s₁.heap H) callerA [] s₁ H := ⟨rfl, hM, fun b o e => of_hidT e, Nat.le_of_eq (hidT_size _ _), trivial, fun b hb => absurd (show b ∈ ([] : List Addr) from hb) (by simp), hok, .of_eq hg⟩
    refine codeAny_mono ((F _ hKb (nsK hns)).run callerA [] s₁ H ⟨[.ref a], []⟩ [.ref a] [.ref a] _ _ hr e0 (hbind s₁ (.ref a)) (.cons rfl .nil) (hsp H hO hS)) fun r s' h => ?_
    cases r with
    | error e => exact (hCX H e s' h).elim
    | ok fl =>
      cases fl with
      | next => exact False.elim h
      | brk => exact False.elim h
      | cont => exact False.elim h
      | ret u =>
        obtain ⟨v, H', os, bare, un, hok', r', q⟩ := h
        have q' : v = .bl true := q
        subst q'
        obtain rfl : u = Value.bool true := r'
        refine ⟨rfl, OldK.of_keep fun b o e => ?_, os, bare⟩
        cases q : H b with
        | none => exact un.keep b o e q (by intro z; exact absurd (show b ∈ ([] : List Addr) from z) (by simp)) (by simp)
        | some u =>
          rcases hO b with z | ⟨ob, xs, z⟩
          · rw [q] at z; cases z
          · have z2 := un.frzs b ob _ z
            obtain ⟨e1, _⟩ := hok b _ z
            obtain ⟨e2, _⟩ := hok' b _ z2
            rw [e] at e1; cases e1
            exact e2
  cases hk : K.lookup a with
  | some o =>
    have e := KX a o hk
    rw [ha] at e
    cases e
    refine core (fun _ => none) (fun _ => .inl rfl) (.inr ⟨_, vs.toArray, _, hk, rfl, rfl, rfl, by rw [List.size_toArray, lenV]; exact hl, by simpa using rv⟩) (fun b u z => by have z' : (none : Option HO) = some u := z; cases z') (fun b z => absurd rfl z) fun z => absurd rfl z
  | none =>
    refine core (fun b => if b = a then some (.frz { cls := .type "list", data := .seq vs.toArray } (.lst (ns.map V.int))) else none) (fun b => ?_) (.inl (.inr ⟨{ cls := .type "list", data := .seq vs.toArray }, if_pos rfl⟩)) (fun b u z => ?_) (fun b z => ?_) fun _ => hk
    · by_cases hb : b = a
      · exact .inr ⟨_, _, if_pos hb⟩
      · exact .inl (if_neg hb)
    · by_cases hb : b = a
      · have z' := (if_pos hb).symm.trans z
        cases z'
        subst hb
        exact ⟨ha, by rw [List.length_map]; exact hl, vs, _, rv, ha⟩
      · have z' := (if_neg hb).symm.trans z
        cases z'
    · by_cases hb : b = a
      · exact hb
      · exact absurd (if_neg hb) z
end L2
namespace L2
open PySem PySem.Spec PyProof.Rows
abbrev KOf {K : PySem.W.Frag} {h : Heap} (_ : K.In h) : PySem.W.Frag := K
end L2
namespace L2
open PySem PySem.Spec PyProof.Rows
def defArgs (s : Stmt) : Arguments := match s with
  | .FunctionDef _ a _ _ _ _ _ _ _ _ => a
  | _ => { posonlyargs := [], args := [], vararg := none, kwonlyargs := [], kw_defaults := [], kwarg := none, defaults := [] }
def defBody (s : Stmt) : List Stmt := match s with
  | .FunctionDef _ _ b _ _ _ _ _ _ _ => b
  | _ => []
def defScope (s : Stmt) : Scope := match s with
  | .FunctionDef _ _ _ _ _ _ sc _ _ _ => sc
  | _ => { kind := .function, names := [], isGenerator := false, isCoroutine := false }
abbrev CX0 : CXT := fun _ _ _ _ _ _ => False
abbrev E0 : XK := fun _ _ _ => False
theorem pass0 {X : Cx} : Passes CX0 X E0 := fun _ _ _ _ _ _ _ h => h.elim
structure Fun (K : PySem.W.Frag) (x qual : Str) (st : Stmt) (f : Addr) (fd : FuncData) : Prop where
  ex : ∃ (oc : Value) (od : Option Addr) (kV doc pm : Value) (an : Option Addr) (cdv ct : Value) (osl : Array (Option Value)),
    fd = PySem.W.fnOf x qual (defArgs st) (defBody st) (defScope st) .none kV doc pm an cdv ct ∧ K.lookup f = some ⟨oc, od, .func fd, osl⟩ ∧ PySem.W.codeIn K cdv qual = true
  kp : PySem.W.keepIn K (.ref f) = true
section
variable {P : Program} {w : World} {K : PySem.W.Frag} {mg : Str → Option Value} {base : Heap}
theorem Fun.ok {x qual : Str} {st : Stmt} {f : Addr} {fd : FuncData} {N ps : List Str} {k : Nat} {sp : Sp} (F : Fun K x qual st f fd) (S : FnScope N ps (defScope st)) (len : ∀ vs H Q E, sp vs H Q E → vs.length = ps.length)
    (hbody : ∀ (cdv : Value) (A : Around) (outer : List Env) (s : Shared) (H : Hp) (vs : List V) (Q : VK) (E : XK), Room k (A.deeper (envOfC qual (defScope st) s.heap.objs.size f cdv)) → sp vs H Q E →
      ∃ t, PSs (cxOf CX0 P w K mg base N qual (defScope st) f cdv A outer s H E).nox (defBody st) t ∧ t { nx := fun _ H' => Q .non H', rt := Q } (start N vs) H) : FnOk P w K mg base CX0 (k + 1) f fd ps sp := by
  obtain ⟨oc, od, kV, doc, pm, an, cdv, ct, osl, rfl, lk, hcd⟩ := F.ex
  refine fn_of lk hcd S len fun A outer s H vs Q E hr hsp => ?_
  obtain ⟨t, h, q⟩ := hbody cdv A outer s H vs Q E hr hsp
  exact ⟨t, h.nox, q⟩
theorem Fun.binds {x qual : Str} {st : Stmt} {f : Addr} {fd : FuncData} {ps : List Str} (F : Fun K x qual st f fd)
    (h : ∀ (kV doc pm : Value) (an : Option Addr) (cdv ct : Value) (us : List Value), us.length = ps.length → bindArgs (PySem.W.fnOf x qual (defArgs st) (defBody st) (defScope st) .none kV doc pm an cdv ct) ⟨us, []⟩ = pure (ps.zip us)) : Binds K fd ps [] := by
  obtain ⟨oc, od, kV, doc, pm, an, cdv, ct, osl, rfl, lk, hcd⟩ := F.ex
  exact .all (h kV doc pm an cdv ct)
theorem fun_mk {x qual : Str} {st : Stmt} {f : Addr} {oc : Value} {od an : Option Addr} {osl : Array (Option Value)} {kV doc pm cdv ct : Value} (l : K.lookup f = some ⟨oc, od, .func (PySem.W.fnOf x qual (defArgs st) (defBody st) (defScope st) .none kV doc pm an cdv ct), osl⟩)
    (c : PySem.W.codeIn K cdv qual = true) (k : PySem.W.keepIn K (.ref f) = true) : Fun K x qual st f (PySem.W.fnOf x qual (defArgs st) (defBody st) (defScope st) .none kV doc pm an cdv ct) := ⟨⟨oc, od, kV, doc, pm, an, cdv, ct, osl, rfl, l, c⟩, k⟩
end
section
variable {X : Cx}
theorem pv (i : Nat) {x : Str} {pos : Pos} (hN : X.N[i]? = some x := by rfl) (hv : Vis X.env.scope x := by first | exact Or.inl rfl | exact Or.inr (Or.inl rfl) | exact Or.inr (Or.inr rfl)) (hd : (x == ("__debug__" : Str)) = false := by decide)
    (hcd : (x == ("__classdict__" : Str)) = false := by decide) : PE X (.Name x pos) (tVar i) := pe_var hN hv hd hcd
end
def Same (H H' : Hp) : Prop := ∀ b o, H b = some o → H' b = some o
theorem Same.refl (H : Hp) : Same H H := fun _ _ h => h
theorem Same.trans {H H1 H2 : Hp} (a : Same H H1) (b : Same H1 H2) : Same H H2 := fun c o h => b c o (a c o h)
theorem Same.free {H H' : Hp} (e : Same H H') {l : Addr} (h : H' l = Option.none) : H l = Option.none := by
  cases q : H l with
  | none => rfl
  | some o =>
    rw [e l o q] at h
    cases h
theorem Same.seq {K : PySem.W.Frag} {H H' : Hp} {a : Addr} {xs : List V} (e : Same H H') (h : SqL K H a xs) : SqL K H' a xs := by
  rcases h with (h | ⟨o, h⟩) | h
  · exact .inl (.inl (e _ _ h))
  · exact .inl (.inr ⟨o, e _ _ h⟩)
  · exact .inr h
end L2
set_option Elab.async false
set_option linter.all false
set_option maxRecDepth 100000
namespace L2
open PySem PySem.Spec PyProof.Rows
theorem Inv.track {X : Cx} {pins : List (Addr × Obj)} {σ : St} {H : Hp} {s : Shared} {D : Addr} {o : HO} (I : Inv X pins σ H s) (hn : H D = none) (hD : X.s₀.heap.objs.size ≤ D) (hL : D ≠ X.env.locals)
    (hc : ∀ x c, X.env.cells.lookup x = some c → c ≠ D) (hp : ∀ p ∈ X.pn ++ pins, p.1 ≠ D) (new : ObjOk X.prog X.w (upd H D o) s.heap D o) : Inv X pins σ (upd H D o) s := by
  have ne : ∀ b u, H b = some u → b ≠ D := fun b u e => ne_of_none e hn
  refine ⟨I.ok, I.os, I.bare, ⟨I.base.keep, I.base.slot, fun b ob e n hx => ?_, I.base.there, fun b xs e => ?_, fun b ob u e => ?_, fun b ps e => ?_⟩, I.loc, I.cell, ?_, fun x c e => ?_, fun p q => ?_, fun b u e => ?_, I.len⟩
  · have : b ≠ D := Nat.ne_of_lt (Nat.lt_of_lt_of_le (Heap.lt_size e) hD)
    rw [upd_ne this]; exact I.base.free b ob e n hx
  · have z := I.base.tups b xs e
    rw [upd_ne (ne _ _ z)]; exact z
  · have z := I.base.frzs b ob u e
    rw [upd_ne (ne _ _ z)]; exact z
  · obtain ⟨more, z⟩ := I.base.tbls b ps e
    exact ⟨more, by rw [upd_ne (ne _ _ z)]; exact z⟩
  · rw [upd_ne (Ne.symm hL)]; exact I.free
  · rw [upd_ne (hc x c e)]; exact I.freeC x c e
  · obtain ⟨h1, h2, h3⟩ := I.pin p q
    exact ⟨h1, by rw [upd_ne (hp p q)]; exact h2, h3⟩
  · by_cases hb : b = D
    · subst hb; rw [upd_same] at e; cases e; exact new
    · rw [upd_ne hb] at e
      exact (I.hok b u e).stay (fun _ _ _ q => q) (fun c q => by rw [upd_ne (ne _ _ q)]; exact q) fun c xs q => by rw [upd_ne (ne _ _ q)]; exact q
def cloOf (cells : List (Str × Addr)) : List (Str × NameKind) → List (Str × Addr) → List (Str × Addr)
  | [], acc => acc
  | (n, k) :: r, acc => cloOf cells r (if (k == NameKind.free) = true then (n, (cells.lookup n).getD 0) :: acc else acc)
theorem clo_run {env : Env} : ∀ (names : List (Str × NameKind)) (acc : List (Str × Addr)), (∀ y ∈ names, y.2 = .free → ∃ c, env.cells.lookup y.1 = some c) →
    (forIn names acc fun (x : Str × NameKind) (r : List (Str × Addr)) => (if (x.2 == NameKind.free) = true then do
        let c ← cellOf env x.1
        pure (ForInStep.yield ((x.1, c) :: r)) else pure (ForInStep.yield r) : Sem (ForInStep (List (Str × Addr))))) = pure (cloOf env.cells names acc)
  | [], acc, _ => rfl
  | (n, k) :: r, acc, h => by
    have ih := fun acc' => clo_run (env := env) r acc' fun y hy => h y (List.mem_cons_of_mem _ hy)
    rw [List.forIn_cons]
    by_cases hk : k = .free
    · subst hk
      obtain ⟨c, hc⟩ := h (n, .free) List.mem_cons_self rfl
      have hc' : env.cells.lookup n = some c := hc
      have e : cellOf env n = pure c := by
        unfold cellOf
        rw [hc']
      show (if (NameKind.free == NameKind.free) = true then _ else _) >>= _ = _
      rw [if_pos (by decide), e]
      simp only [pure_bind]
      rw [ih]
      simp only [cloOf, hc', Option.getD_some]
      rfl
    · have hb : (k == NameKind.free) = false := by simpa using hk
      show (if (k == NameKind.free) = true then _ else _) >>= _ = _
      rw [hb, if_neg Bool.false_ne_true]
      simp only [pure_bind]
      rw [ih]
      simp only [cloOf, hb, Bool.false_eq_true, if_false]
theorem clo_eq {scope : Scope} {env : Env} (h : ∀ y ∈ scope.names, y.2 = .free → ∃ c, env.cells.lookup y.1 = some c) : closureFor scope env = pure (cloOf env.cells scope.names []) := by
  unfold closureFor
  have e := clo_run (env := env) scope.names [] h
  simp only [bind_pure]
  exact e
theorem clo_sub {cells : List (Str × Addr)} : ∀ (names : List (Str × NameKind)) (acc : List (Str × Addr)), (∀ y ∈ names, y.2 = .free → ∃ c, cells.lookup y.1 = some c) → (∀ y c, acc.lookup y = some c → cells.lookup y = some c) →
    ∀ y c, (cloOf cells names acc).lookup y = some c → cells.lookup y = some c
  | [], _, _, ha => ha
  | (n, k) :: r, acc, h, ha => by
    refine clo_sub r _ (fun y hy => h y (List.mem_cons_of_mem _ hy)) fun y c e => ?_
    by_cases hk : (k == NameKind.free) = true
    · rw [if_pos hk] at e
      obtain ⟨c', hc⟩ := h (n, k) List.mem_cons_self (by simpa using hk)
      have hc' : cells.lookup n = some c' := hc
      rw [hc', Option.getD_some] at e
      rw [List.lookup_cons] at e
      by_cases hy : (y == n) = true
      · rw [hy] at e
        have : y = n := by simpa using hy
        subst this
        rw [hc']; exact e
      · have hy' : (y == n) = false := by simpa using hy
        rw [hy'] at e
        exact ha y c e
    · rw [if_neg hk] at e
      exact ha y c e
theorem clo_has {cells : List (Str × Addr)} : ∀ (names : List (Str × NameKind)) (acc : List (Str × Addr)) (y : Str), ((y, NameKind.free) ∈ names ∨ ∃ c, acc.lookup y = some c) → ∃ c, (cloOf cells names acc).lookup y = some c
  | [], acc, y, h => by
    rcases h with h | h
    · cases h
    · exact h
  | (n, k) :: r, acc, y, h => by
    refine clo_has r _ y ?_
    rcases h with h | ⟨c, h⟩
    · rcases List.mem_cons.mp h with e | h
      · cases e
        refine .inr ⟨(cells.lookup n).getD 0, ?_⟩
        rw [if_pos (by decide), List.lookup_cons]
        simp
      · exact .inl h
    · refine .inr ?_
      split
      · rw [List.lookup_cons]
        cases y == n with
        | true => exact ⟨_, rfl⟩
        | false => exact ⟨c, h⟩
      · exact ⟨c, h⟩
theorem relabel_lookup (env : Env) : ∀ (names : List (Str × NameKind)) (y : Str),
    (names.map fun (n, k) => if (k == NameKind.free && env.scope.kind == .function && env.kindOf n == some .cell) then (n, NameKind.cell) else (n, k)).lookup y
      = (names.lookup y).map fun k => if (k == NameKind.free && env.scope.kind == .function && env.kindOf y == some .cell) = true then NameKind.cell else k
  | [], _ => rfl
  | (n, k) :: r, y => by
    have ih := relabel_lookup env r y
    show List.lookup y ((if (k == NameKind.free && env.scope.kind == .function && env.kindOf n == some .cell) = true then (n, NameKind.cell) else (n, k)) :: _) = _
    by_cases hy : (y == n) = true
    · have : y = n := by simpa using hy
      subst this
      by_cases hc : (k == NameKind.free && env.scope.kind == .function && env.kindOf y == some .cell) = true
      · rw [if_pos hc]; simp only [List.lookup_cons, hy, Option.map_some, hc, if_true]
      · rw [if_neg hc]; simp only [List.lookup_cons, hy, Option.map_some, hc]; simp
    · have hy' : (y == n) = false := by simpa using hy
      by_cases hc : (k == NameKind.free && env.scope.kind == .function && env.kindOf n == some .cell) = true
      · rw [if_pos hc]; simp only [List.lookup_cons, hy']; exact ih
      · rw [if_neg hc]; simp only [List.lookup_cons, hy']; exact ih
def cxComp (X : Cx) (scope : Scope) (N' : List Str) (s₂ : Shared) (H₂ : Hp) (C : Addr) (fp : List Addr) : Cx :=
  { X with N := N', s₀ := s₂, H₀ := H₂, env := compEnvC scope (cloOf X.env.cells scope.names []) C X.env, outer := X.stack, ex := fp, fn := fun _ => false, pn := [], xe := fun _ _ => False }
def compNs (x : Str) (fr : List (Str × Nat)) : List Str := x :: fr.map (·.1)
def compRest (σ : St) (fr : List (Str × Nat)) : St := fr.map fun p => σ.getD p.2 none
structure Blk (X : Cx) (scope : Scope) (x : Str) (fr : List (Str × Nat)) : Prop where
  nocell : (scope.names.all fun y => y.2 != .cell) = true
  kind : scope.kind = .function
  names : (scope.names.all fun y => y.2 != .local || scope.names.lookup y.1 == some .local) = true
  here : scope.names.lookup x = some .local
  free : (scope.names.all fun y => y.2 != .free || X.env.scope.names.lookup y.1 == some .cell) = true
  seen : (fr.all fun p => scope.names.lookup p.1 == some .free && X.N[p.2]? == some p.1) = true
  nd : (compNs x fr).Nodup
section
variable {X : Cx} {scope : Scope} {x : Str} {fr : List (Str × Nat)} {pins : List (Addr × Obj)} {σ : St} {H : Hp} {s : Shared}
theorem Blk.cell (B : Blk X scope x fr) : ∀ y ∈ scope.names, y.2 ≠ .cell := fun y hy => by
  have := List.all_eq_true.mp B.nocell y hy
  simpa using this
theorem Blk.loc (B : Blk X scope x fr) : ∀ y ∈ scope.names, y.2 = .local → scope.names.lookup y.1 = some .local := fun y hy e => by
  have := List.all_eq_true.mp B.names y hy
  rw [e] at this
  simpa using this
theorem Blk.frees (B : Blk X scope x fr) : ∀ y ∈ scope.names, y.2 = .free → X.env.kindOf y.1 = some .cell := fun y hy e => by
  have := List.all_eq_true.mp B.free y hy
  rw [e] at this
  have h : X.env.scope.names.lookup y.1 = some .cell := by simpa using this
  exact h
theorem Blk.clos (B : Blk X scope x fr) (ok : X.Ok) : ∀ y ∈ scope.names, y.2 = .free → ∃ c, X.env.cells.lookup y.1 = some c := fun y hy e => ok.has y.1 (.inl (B.frees y hy e))
theorem Blk.sub (B : Blk X scope x fr) (ok : X.Ok) : ∀ y c, (cloOf X.env.cells scope.names []).lookup y = some c → X.env.cells.lookup y = some c :=
  clo_sub scope.names [] (B.clos ok) fun y c e => by simp at e
theorem Blk.kinds (B : Blk X scope x fr) {y : Str} (h : (relabel scope X.env).names.lookup y = some .cell ∨ (relabel scope X.env).names.lookup y = some .free) : (y, NameKind.free) ∈ scope.names := by
  have e : (relabel scope X.env).names.lookup y = _ := relabel_lookup X.env scope.names y
  rw [e] at h
  cases q : scope.names.lookup y with
  | none => rw [q] at h; simp at h
  | some k =>
    have hm := PySem.mem_of_lookup q
    rw [q] at h
    have hk : k = .free := by
      by_cases hk : k = .free
      · exact hk
      · have hb : (k == NameKind.free) = false := by simpa using hk
        have hc : k ≠ .cell := B.cell _ hm
        rw [Option.map_some, hb, Bool.false_and, Bool.false_and, if_neg Bool.false_ne_true] at h
        rcases h with h | h
        · exact absurd (Option.some.inj h) hc
        · exact Option.some.inj h
    subst hk
    exact hm
theorem Blk.sees (B : Blk X scope x fr) (hk : X.env.scope.kind = .function) {y : Str} (h : scope.names.lookup y = some .free) : (relabel scope X.env).names.lookup y = some .cell := by
  have e : (relabel scope X.env).names.lookup y = _ := relabel_lookup X.env scope.names y
  rw [e, h]
  have h2 : X.env.kindOf y = some .cell := B.frees _ (PySem.mem_of_lookup h) rfl
  simp [hk, h2]
theorem inv_comp (I : Inv X pins σ H s) (B : Blk X scope x fr) {C : Addr} {fp : List Addr} {h₁ : Heap} {tk : Nat} {o : Option V} (hC : s.heap.objs.size ≤ C) (hfp : ∀ b ∈ fp, FpOk X pins H b) (hlt : ∀ b ∈ fp, b < s.heap.objs.size)
    (old : ∀ b ob, s.heap.get? b = some ob → h₁.get? b = some ob) (hns : h₁.Ns C fun _ => none) : Inv (cxComp X scope (compNs x fr) s H C fp) [] (none :: compRest σ fr) H { s with heap := h₁, toks := tk } := by
  have neC : ∀ b, b < s.heap.objs.size → b ≠ C := fun b hb => Nat.ne_of_lt (Nat.lt_of_lt_of_le hb hC)
  have cl : ∀ y c, X.env.cells.lookup y = some c → c < s.heap.objs.size := fun y c e => by
    obtain ⟨v, o, ho, _⟩ := I.cell y c e
    exact Heap.lt_size ho
  refine ⟨⟨I.ok.mod, B.kind, I.ok.glob, I.ok.blt, hC, fun y z c h1 h2 => I.ok.inj y z c (B.sub I.ok _ _ h1) (B.sub I.ok _ _ h2), fun y hy => clo_has _ _ _ (.inl (B.kinds hy)), fun y c h _ => (Bool.false_ne_true h).elim, I.ok.hd, I.ok.frames, .inl rfl,
    fun b hb => ⟨neC b (hlt b hb), fun y c e => (hfp b hb).2.2.2.2.1 y c (B.sub I.ok _ _ e)⟩, I.bs, Nat.le_trans I.ok.bsz I.sz, fun b ob e hb => ?_, fun b hb hs => ?_, I.stack, I.stkFree⟩,
    rfl, I.bare, Un.kept old, ⟨_, hns, fun i y v h1 h2 h3 => ?_⟩, fun y c e => ?_, I.hok.fresh hC, fun y c e => I.freeC y c (B.sub I.ok _ _ e), fun p hp => ?_, I.hok.kept old, ?_⟩
  · rcases (hfp b hb).2.2.2.1 with z | z
    · exact I.ok.noex b ob e z
    · have h1 : b < X.base.objs.size := Heap.lt_size e
      have h2 := I.ok.bsz
      exact absurd (Nat.lt_of_lt_of_le h1 h2) (Nat.not_lt.mpr z)
  · have z := I.stkSub b hs
    rcases List.mem_cons.mp z with z | z
    · exact (hfp b hb).2.1 z
    · exact (hfp b hb).2.2.1 z
  · cases i with
    | zero => simp at h2
    | succ i =>
      have h1' : (fr.map (·.1))[i]? = some y := by
        have z : (x :: fr.map (·.1))[i + 1]? = some y := h1
        rw [List.getElem?_cons_succ] at z
        exact z
      have h2' : (compRest σ fr)[i]? = some (some v) := by simpa using h2
      rw [List.getElem?_map] at h1'
      unfold compRest at h2'
      rw [List.getElem?_map] at h2'
      cases e : fr[i]? with
      | none => rw [e] at h1'; cases h1'
      | some p =>
        rw [e] at h1' h2'
        have e1 : p.1 = y := by simpa using h1'
        have e2 : σ.getD p.2 none = some v := by simpa using h2'
        have hs := List.all_eq_true.mp B.seen p (List.mem_of_getElem? e)
        rw [Bool.and_eq_true] at hs
        have hs1 : scope.names.lookup p.1 = some .free := by simpa using hs.1
        have hs2 : X.N[p.2]? = some p.1 := by simpa using hs.2
        rw [e1] at hs1 hs2
        have hk : X.env.kindOf y = some .cell := B.frees _ (PySem.mem_of_lookup hs1) rfl
        have e3 : σ[p.2]? = some (some v) := by
          rw [List.getD_eq_getElem?_getD] at e2
          cases q : σ[p.2]? with
          | none => rw [q] at e2; simp at e2
          | some z => rw [q] at e2; simp at e2; rw [e2]
        obtain ⟨m, hn, hl⟩ := I.loc
        obtain ⟨u, r, l⟩ := hl p.2 y v hs2 e3 (.inr (.inl hk))
        refine ⟨u, r, .inr ⟨.inl (B.sees I.ok.kind hs1), ?_⟩⟩
        rcases l with ⟨z, _⟩ | ⟨_, c, ec, z⟩
        · rw [hk] at z; cases z
        · obtain ⟨c', hc'⟩ := clo_has (cells := X.env.cells) scope.names [] y (.inl (PySem.mem_of_lookup hs1))
          have := B.sub I.ok _ _ hc'
          rw [ec] at this
          cases this
          obtain ⟨ob, ho, hd⟩ := z
          exact ⟨c, hc', ob, old _ _ ho, hd⟩
  · obtain ⟨v, ob, ho, hd⟩ := I.cell y c (B.sub I.ok _ _ e)
    exact ⟨v, ob, old _ _ ho, hd⟩
  · exact absurd (show p ∈ ([] : List (Addr × Obj)) from hp) (by simp)
  · show _ = (compNs x fr).length
    simp [compNs, compRest]
end
end L2
set_option Elab.async false
set_option linter.all false
set_option maxRecDepth 100000
namespace L2
open PySem PySem.Spec PyProof.Rows
def PIf (X : Cx) (ifs : List Expr) (t : TT) : Prop :=
  ∀ (pins : List (Addr × Obj)) (s : Shared) (σ : St) (H : Hp) (Q : Bool → Hp → Prop), Inv X pins σ H s → t σ H Q →
    wpAny (model X.prog X.w) X.A (forIn ifs true fun c r => if r = true then do let ok ← isTrue c X.env (eval c X.env); pure (ForInStep.yield ok) else pure (ForInStep.yield r)) (TP X pins σ Q) X.xe s
def tYes : TT := fun _ H Q => Q true H
theorem pif_nil {X : Cx} : PIf X [] tYes := fun _ _ _ H _ I h => wpAny_tests_nil ⟨H, I, h⟩
def tLC (fr : List (Str × Nat)) (wi : TI) (tc : TT) (te : TE) : TE := fun σ H Q => wi σ H fun J H1 => ∃ W : Nat → Nat → List V → Hp → Prop, (∃ m, W 0 m [] H1) ∧ ∀ i m ys H2, W i m ys H2 → ys.length < sizeLine ∧
  ((J.stop i H2 ∧ ∀ D, H2 D = none → Q (.ref D) (upd H2 D (.lst ys))) ∨
    (J.go i H2 ∧ ∀ v H3, J.yld i H2 v H3 → tc (some v :: compRest σ fr) H3 fun b H4 =>
      if b = true then te (some v :: compRest σ fr) H4 fun y H5 => ∃ m', m' < m ∧ W (i + 1) m' (ys ++ [y]) H5 else ∃ m', m' < m ∧ W (i + 1) m' ys H4))
section
variable {X : Cx}
theorem anyE {α : Type} {M : Model} {A : Around} {t : Sem α} {Q : α → Shared → Prop} {E : Value → Shared → Prop} {s : Shared} (h : wpAny M A t Q (fun _ _ => False) s) : wpAny M A t Q E s := wpAny_mono h (fun _ _ x => x) fun _ _ x => x.elim
theorem comp_loop {prog : Program} {w : World} {A : Around} {R : Result → Shared → Prop} {s : Shared} {elt target iter : Expr} {ifs : List Expr} {scope : Scope} {pos : Pos} {it acc : Value} {env : Env} (J : Nat → Shared → Prop)
    (turn : ∀ n s, J n s → wpAny (model prog w) A (pyNext it) (fun r s₁ => match r with
      | none => R (.ok .next) s₁
      | some v => wpAny (model prog w) A (letOwnedTupleGo target it v) (fun _ s₂ => wpAny (model prog w) A (assign target env v) (fun _ s₃ =>
          wpAny (model prog w) A (forIn ifs true fun c r => if r = true then do let ok ← isTrue c env (eval c env); pure (ForInStep.yield ok) else pure (ForInStep.yield r)) (fun ok s₄ =>
            if ok = true then wpAny (model prog w) A (eval elt env) (fun y s₅ =>
              wpAny (model prog w) A (call (.builtin "list.append") [acc, y]) (fun _ s₆ => ∃ m, m < n ∧ J m s₆) (fun _ _ => False) s₅) (fun _ _ => False) s₄
            else ∃ m, m < n ∧ J m s₄) (fun _ _ => False) s₃) (fun _ _ => False) s₂) (fun _ _ => False) s₁) (fun _ _ => False) s)
    (n : Nat) (h : J n s) : codeAny (model prog w) A (.compLoop (.ListComp elt [⟨target, iter, ifs, 0⟩] scope pos) 0 it acc env) R s := by
  refine codeAny_loop rfl J (fun k s' hJ => ?_) n h
  show wpAny (model prog w) A ((compTurn (.ListComp elt [⟨target, iter, ifs, 0⟩] scope pos) 0 it acc env).onRaise (fun x => do noteFrame x env; theTreesLotGoes x)) _ _ s'
  refine wpAny_noted ?_
  rw [compTurn_list]
  refine wpAny_bind (wpAny_standAt (wpAny_bind (wpAny_mono (turn k s' hJ) (fun r s₁ h₁ => ?_) fun _ _ z => z.elim)))
  cases r with
  | none => exact wpAny_pure h₁
  | some v =>
    refine wpAny_bind (wpAny_mono h₁ (fun _ s₂ h₂ => wpAny_bind (wpAny_mono h₂ (fun _ s₃ h₃ => wpAny_bind (wpAny_mono h₃ (fun ok s₄ h₄ => ?_) fun _ _ z => z.elim)) fun _ _ z => z.elim)) fun _ _ z => z.elim)
    cases ok with
    | false => exact wpAny_pure ⟨rfl, h₄⟩
    | true =>
      exact wpAny_bind (wpAny_bind (wpAny_mono h₄ (fun y s₅ h₅ => wpAny_bind (wpAny_mono h₅ (fun _ s₆ h₆ => wpAny_pure (wpAny_pure ⟨rfl, h₆⟩)) fun _ _ z => z.elim)) fun _ _ z => z.elim))
theorem pe_lc {elt iter : Expr} {x : Str} {px : Pos} {ifs : List Expr} {scope : Scope} {pos : Pos} {fr : List (Str × Nat)} {wi : TI} {tc : TT} {te : TE} (hc : X.calm = true) (B : Blk X scope x fr)
    (hi : PI X (.Name x px) iter wi) (ht : ∀ s₂ H₂ C fp, PIf (cxComp X scope (compNs x fr) s₂ H₂ C fp) ifs tc) (he : ∀ s₂ H₂ C fp, PE (cxComp X scope (compNs x fr) s₂ H₂ C fp) elt te)
    (hs : ∀ v, foldedSetIterable iter X.env v = pure v := by intro _; rfl) : PE X (.ListComp elt [⟨.Name x px, iter, ifs, 0⟩] scope pos) (tLC fr wi tc te) := by
  intro pins s σ H Q I h
  rw [eval_ListComp]
  have hclos := clo_eq (scope := scope) (env := X.env) (B.clos I.ok)
  refine wpAny_comprehension_free (use := none) rfl hs hclos B.kind B.loc (thn (hi pins s σ H _ I h) fun v s1 h1 => thn h1 fun itv s2 h2 => ?_)
  obtain ⟨it, fp, tn, J, H2, rfl, I2, T, st2, f2, W, ⟨m0, w0⟩, turn⟩ := h2
  refine wpAny_newObj_type (wpAny_newFunctionEnv B.cell (by intro y hy; simp at hy) (fun h₁ hns hsb => ?_) B.kind)
  dsimp only at hns hsb ⊢
  generalize hG : s2.heap.push { cls := .type "list", dict := none, data := .seq ([] : List Value).toArray } = G at hns hsb ⊢
  have hC : G.objs.size = s2.heap.objs.size + 1 := by rw [← hG, Heap.size_push]
  have hDC : s2.heap.objs.size ≠ G.objs.size := by omega
  have old : ∀ b ob, s2.heap.get? b = some ob → h₁.get? b = some ob := fun b ob e => by
    have hb := Heap.lt_size e
    refine hsb.extBut b ob (Nat.ne_of_lt (by rw [hC]; exact Nat.lt_succ_of_lt hb)) (Heap.get?_push_of_some _ ?_)
    rw [← hG]
    exact Heap.get?_push_of_some _ e
  have hacc : h₁.get? s2.heap.objs.size = some { cls := .type "list", data := .seq ([] : List Value).toArray 0 } := by
    refine hsb.extBut _ _ hDC (Heap.get?_push_of_some _ ?_)
    rw [← hG]
    exact Heap.get?_push_size _ rfl
  have hlt : ∀ b ∈ fp, b < s2.heap.objs.size := fun b hb => by
    obtain ⟨o, e, _⟩ := T.obj 0 _ st2 b hb
    exact Heap.lt_size e
  have I4 := inv_comp (tk := s2.toks + ([] : List (Str × Value)).length) (o := none) I2 B (show s2.heap.objs.size ≤ G.objs.size by omega) f2 hlt old hns
  have tn4 : tn 0 h₁ := T.keep 0 _ _ st2 fun b _ o e => old b o e
  have Dfs : s2.heap.objs.size ∉ frs X.stack := fun z => by
    obtain ⟨_, o, ho, _⟩ := I2.stack.mem z
    exact absurd (Heap.lt_size ho) (Nat.lt_irrefl _)
  have Dcl : ∀ y c, X.env.cells.lookup y = some c → c ≠ s2.heap.objs.size := fun y c e => by
    obtain ⟨v, o, ho, _⟩ := I2.cell y c e
    exact Nat.ne_of_lt (Heap.lt_size ho)
  have DL : s2.heap.objs.size ≠ X.env.locals := Nat.ne_of_gt I2.lt
  have Dfp : s2.heap.objs.size ∉ fp := fun z => absurd (hlt _ z) (Nat.lt_irrefl _)
  have loop : ∀ s₃ : Shared, s₃ = { s2 with heap := h₁, toks := s2.toks + ([] : List (Str × Value)).length } →
      codeAny (model X.prog X.w) X.A (.compLoop (.ListComp elt [⟨.Name x px, iter, ifs, 0⟩] scope pos) 0 (.ref it) (.ref s2.heap.objs.size) (compEnvC scope (cloOf X.env.cells scope.names []) G.objs.size X.env))
        (compPost (model X.prog X.w) X.A X.xe none (EP X pins σ Q) (.ref s2.heap.objs.size) G.objs.size) s₃ := by
    rintro s₃ rfl
    refine comp_loop
      (fun n s' => ∃ i o H' ys its k, Inv (cxComp X scope (compNs x fr) s2 H2 G.objs.size fp) [] (o :: compRest σ fr) H' s' ∧ tn i s'.heap ∧ (∀ b ∈ fp, H' b = none) ∧ H' s2.heap.objs.size = none ∧
        s'.heap.get? s2.heap.objs.size = some { cls := .type "list", data := .seq (its : List Value).toArray k } ∧ Vals ys its ∧ W i n ys H') ?_ m0
      ⟨0, none, H2, [], [], 0, I4, tn4, fun b hb => (f2 b hb).1, I2.hok.fresh (Nat.le_refl _), hacc, .nil, w0⟩
    rintro n s5 ⟨i, o, H5, ys, its, k, I5, st5, fr5, D5, hD5, r5, w5⟩
    have fok : ∀ {H' : Hp}, (∀ b ∈ fp, H' b = none) → ∀ b ∈ fp, FpOk (cxComp X scope (compNs x fr) s2 H2 G.objs.size fp) [] H' b := fun hn b hb =>
      ⟨hn b hb, (I5.ok.exf b hb).1, I5.ok.exfs b hb, .inl hb, (I5.ok.exf b hb).2, fun p hp => absurd (show p ∈ ([] : List (Addr × Obj)) from hp) (by simp)⟩
    have dok : ∀ {H' : Hp}, H' s2.heap.objs.size = none → FpOk (cxComp X scope (compNs x fr) s2 H2 G.objs.size fp) [] H' s2.heap.objs.size := fun hn =>
      ⟨hn, hDC, Dfs, .inr (Nat.le_refl _), fun y c e => Dcl y c (B.sub I2.ok _ _ e), fun p hp => absurd (show p ∈ ([] : List (Addr × Obj)) from hp) (by simp)⟩
    obtain ⟨hz, alt⟩ := turn i n ys H5 w5
    have hzl : its.length ≤ sizeLine := by rw [← r5.length]; exact Nat.le_of_lt hz
    rcases alt with ⟨stop, fin⟩ | ⟨go, step⟩
    · refine thn (T.done (cxComp X scope (compNs x fr) s2 H2 G.objs.size fp) rfl rfl rfl hc i (pinsAt [s2.heap.objs.size] s5.heap) s5 (o :: compRest σ fr) H5 _ ?_ (fun b hb => ?_) st5 stop) fun r s6 ⟨hr, I6⟩ => ?_
      · exact (Inv.pinned I5 (fp := [s2.heap.objs.size]) (fun b hb => by rw [List.mem_singleton.mp hb]; exact dok D5) fun b hb => by
          rw [List.mem_singleton.mp hb]
          exact ⟨_, hD5, fun v z => by cases z⟩)
      · obtain ⟨f0, f1, f2', f3, f4, f5⟩ := fok fr5 b hb
        refine ⟨f0, f1, f2', f3, f4, fun p hp => ?_⟩
        have hp' : p ∈ pinsAt [s2.heap.objs.size] s5.heap := (List.mem_append.mp hp).elim (fun z => absurd (show p ∈ ([] : List (Addr × Obj)) from z) (by simp)) id
        have := (of_pinsAt hp').1
        rw [List.mem_singleton.mp this]
        exact fun e => Dfp (by rw [e]; exact hb)
      · subst hr
        have hD6 := (I6.pin (s2.heap.objs.size, { cls := .type "list", data := .seq its.toArray k }) (List.mem_append_right _ (mem_pinsAt (by simp) hD5))).1
        obtain ⟨m6, hn6, _⟩ := I6.loc
        refine ⟨m6, hn6, fun h' hs' => ?_⟩
        have hCn : s2.heap.get? G.objs.size = none := by
          cases e : s2.heap.get? G.objs.size with
          | none => rfl
          | some ob => exact absurd (Heap.lt_size e) (by rw [hC]; exact Nat.not_lt.mpr (Nat.le_succ _))
        have neC : ∀ b ob, s2.heap.get? b = some ob → b ≠ G.objs.size := fun b ob e z => by rw [z, hCn] at e; cases e
        have u6 : Un (frs X.stack) fp H2 H5 s2.heap s6.heap := I6.base
        have u7 : Un (frs X.stack) fp H2 H5 s2.heap h' := ⟨fun b ob e n hb hx => hs'.extBut b ob (neC b ob e) (u6.keep b ob e n hb hx), fun b ob e n hb hx => by
            obtain ⟨sl, q⟩ := u6.slot b ob e n hb hx
            exact ⟨sl, hs'.extBut b _ (neC b ob e) q⟩, u6.free, fun b ob e hx => by
            obtain ⟨o', q⟩ := u6.there b ob e hx
            exact ⟨o', hs'.extBut b _ (neC b ob e) q⟩, u6.tups, u6.frzs, u6.tbls⟩
        have hC5 : H5 G.objs.size = none := I6.free
        have hok7 : HOk X.prog X.w H5 h' := fun b ob e => (I6.hok b ob e).stay (fun c u hc q => hs'.extBut c u (by
            rintro rfl
            rcases hc with rfl | hc
            · rw [hC5] at e; cases e
            · rw [hC5] at hc; cases hc) q) (fun _ q => q) fun _ _ q => q
        have I7 : Inv X pins σ H5 { s6 with heap := h' } := I2.call' (s' := { s6 with heap := h' }) (I6.os) u7 hok7 I6.bare fun b hb => ⟨(f2 b hb).2.2.2.1, (f2 b hb).2.1, (f2 b hb).2.2.2.2.1, (f2 b hb).2.2.2.2.2⟩
        refine ⟨.ref s2.heap.objs.size, upd H5 s2.heap.objs.size (.lst ys), I7.track D5 I2.sz DL Dcl (fun p hp z => ?_) ?_, rfl, fin _ D5⟩
        · obtain ⟨e, _⟩ := I2.pin p hp
          rw [z] at e
          exact absurd (Heap.lt_size e) (Nat.lt_irrefl _)
        · exact ⟨Nat.le_of_lt hz, its, k, r5, hs'.extBut _ _ hDC hD6⟩
    · refine anyE (thn (T.item (cxComp X scope (compNs x fr) s2 H2 G.objs.size fp) rfl rfl rfl hc i (pinsAt [s2.heap.objs.size] s5.heap) s5 (o :: compRest σ fr) H5 _ ?_ (fun b hb => ?_) st5 go) fun r s6 ⟨u, hr, h6⟩ => ?_)
      · exact (Inv.pinned I5 (fp := [s2.heap.objs.size]) (fun b hb => by rw [List.mem_singleton.mp hb]; exact dok D5) fun b hb => by
          rw [List.mem_singleton.mp hb]
          exact ⟨_, hD5, fun v z => by cases z⟩)
      · obtain ⟨f0, f1, f2', f3, f4, f5⟩ := fok fr5 b hb
        refine ⟨f0, f1, f2', f3, f4, fun p hp => ?_⟩
        have hp' : p ∈ pinsAt [s2.heap.objs.size] s5.heap := (List.mem_append.mp hp).elim (fun z => absurd (show p ∈ ([] : List (Addr × Obj)) from z) (by simp)) id
        have := (of_pinsAt hp').1
        rw [List.mem_singleton.mp this]
        exact fun e => Dfp (by rw [e]; exact hb)
      · subst hr
        refine thn h6 fun _ s7 ⟨v, H7, I7, rv, y7, st7, fr7⟩ => ?_
        have p7 := I7.pin (s2.heap.objs.size, { cls := .type "list", data := .seq its.toArray k }) (List.mem_append_right _ (mem_pinsAt (by simp) hD5))
        have hD7 : s7.heap.get? s2.heap.objs.size = some { cls := .type "list", data := .seq its.toArray k } := p7.1
        have D7 : H7 s2.heap.objs.size = none := p7.2.1
        have I7u : Inv (cxComp X scope (compNs x fr) s2 H2 G.objs.size fp) [] (o :: compRest σ fr) H7 s7 := Inv.unpinned (pins := []) I7
        have I8 := Inv.pinned I7u (fp := s2.heap.objs.size :: fp) (fun b hb => by
            rcases List.mem_cons.mp hb with e | hb
            · rw [e]; exact dok D7
            · exact fok fr7 b hb) fun b hb => by
            rcases List.mem_cons.mp hb with e | hb
            · rw [e]; exact ⟨_, hD7, fun v z => by cases z⟩
            · exact T.obj _ _ st7 b hb
        have hl : Loc (cxComp X scope (compNs x fr) s2 H2 G.objs.size fp).env.scope x := .inl (lookup_relabel_local B.here)
        have pk : ∀ {σ' : St} {H' : Hp} {s' : Shared}, Inv (cxComp X scope (compNs x fr) s2 H2 G.objs.size fp) ([] ++ pinsAt (s2.heap.objs.size :: fp) s7.heap) σ' H' s' →
            tn (i + 1) s'.heap ∧ (∀ b ∈ fp, H' b = none) ∧ H' s2.heap.objs.size = none ∧ s'.heap.get? s2.heap.objs.size = some { cls := .type "list", data := .seq its.toArray k } := fun {σ' H' s'} I' => by
          have pD := I'.pin (s2.heap.objs.size, { cls := .type "list", data := .seq its.toArray k }) (List.mem_append_right _ (List.mem_append_right _ (mem_pinsAt (by simp) hD7)))
          refine ⟨T.keep _ _ _ st7 fun b hb ob e => (I'.pin (b, ob) (List.mem_append_right _ (List.mem_append_right _ (mem_pinsAt (List.mem_cons_of_mem _ hb) e)))).1, fun b hb => ?_, pD.2.1, pD.1⟩
          obtain ⟨ob, e, _⟩ := T.obj _ _ st7 b hb
          exact (I'.pin (b, ob) (List.mem_append_right _ (List.mem_append_right _ (mem_pinsAt (List.mem_cons_of_mem _ hb) e)))).2.1
        refine anyE (thn (pg_name (X := cxComp X scope (compNs x fr) s2 H2 G.objs.size fp) (i := 0) B.nd rfl hl (.inr (lookup_relabel_local B.here)) _ s7 _ H7 v u (fun σ' H' => σ' = some v :: compRest σ fr ∧ H' = H7) I8 rv ⟨rfl, rfl⟩) fun _ s8 ⟨σ8, H8, I9, e1, e2⟩ => ?_)
        subst e1 e2
        refine anyE (thn (ht s2 H2 G.objs.size fp _ s8 _ H8 _ I9 (step v H8 y7)) fun ok s9 ⟨H9, I10, q10⟩ => ?_)
        cases ok with
        | false =>
          rw [if_neg Bool.false_ne_true] at q10
          rw [if_neg Bool.false_ne_true]
          obtain ⟨m', hm, w'⟩ := q10
          obtain ⟨k1, k2, k3, k4⟩ := pk I10
          exact ⟨m', hm, i + 1, some v, H9, ys, its, k, Inv.unpinned (pins := []) I10, k1, k2, k3, k4, r5, w'⟩
        | true =>
          rw [if_pos rfl] at q10
          rw [if_pos rfl]
          refine anyE (thn (he s2 H2 G.objs.size fp _ s9 _ H9 _ I10 q10) fun y' s10 ⟨y, H10, I11, ry, m', hm, w'⟩ => ?_)
          obtain ⟨k1, k2, k3, k4⟩ := pk I11
          refine append_at k4 (fun h' hs' hD' => ?_) (by rw [List.size_toArray]; exact hzl)
          have I12 : Inv (cxComp X scope (compNs x fr) s2 H2 G.objs.size fp) [] (some v :: compRest σ fr) H10 { s10 with heap := h' } :=
            (Inv.unpinned (pins := []) I11).turned (t' := s10.toks) (it := s2.heap.objs.size) (fun b ob hb e => (hs'.2 b hb).trans e) k3 hDC (.inr (Nat.le_refl _)) (fun z c e => Dcl z c (B.sub I2.ok _ _ e)) fun p hp => absurd (show p ∈ ([] : List (Addr × Obj)) from hp) (by simp)
          refine ⟨m', hm, i + 1, some v, H10, ys ++ [y], its ++ [y'], k + 1, I12, T.keep _ _ _ k1 fun b hb ob e => (hs'.2 b fun z => Dfp (by rw [← z]; exact hb)).trans e, k2, k3, ?_, r5.append (.cons ry .nil), w'⟩
          rw [hD']
          simp
  exact codeAny_compStart_list (loop _ rfl) (T.self _ 0 _ _ _ tn4 (loop _ rfl))
end
end L2
set_option Elab.async false
set_option linter.all false
set_option maxRecDepth 100000
namespace L2
open PySem PySem.Spec PyProof.Rows
def tyN (H : Hp) : V → String
  | .non => "NoneType"
  | .bl _ => "bool"
  | .int _ => "int"
  | .str _ => "str"
  | .ref a => match H a with
    | some (.lst _) => "list"
    | some (.tup _) => "tuple"
    | some (.dK _) => "dict"
    | some (.frz _ (.lst _)) => "list"
    | _ => "?"
  | _ => "?"
def tyIs (T n : String) : Bool := T == n || (T == "bool" && n == "int")
def tyKnown : List String := ["NoneType", "bool", "int", "str", "list", "tuple", "dict"]
def tyAsked : List String := ["bool", "int", "str", "list", "tuple", "dict"]
theorem kit_known (K : PySem.W.Frag) : ∀ T ∈ tyKnown, ∀ n ∈ tyAsked, PySem.W.kitOne K (.type T) (.type n) = some (tyIs T n) := by
  intro T hT n hn
  simp only [tyKnown, tyAsked, List.mem_cons, List.not_mem_nil, or_false] at hT hn
  rcases hT with rfl | rfl | rfl | rfl | rfl | rfl | rfl <;> rcases hn with rfl | rfl | rfl | rfl | rfl | rfl <;> kernel_rfl
theorem tyN_of {K : PySem.W.Frag} {H : Hp} {x : V} (h : tyN H x ∈ tyKnown) : TyOf K H x (.type (tyN H x)) := by
  have no : ¬ ("?" ∈ tyKnown) := by decide
  cases x with
  | non => exact .non
  | bl b => exact .bl b
  | int i => exact .int i
  | str z => exact .str z
  | ref a =>
    unfold tyN at h ⊢
    dsimp only at h ⊢
    cases e : H a with
    | none => rw [e] at h; exact absurd h no
    | some o =>
      rw [e] at h
      cases o with
      | lst xs => exact .lst e
      | tup xs => exact .tup e
      | dK kvs => exact .dK e
      | frz ob u =>
        cases u with
        | lst xs => exact .frz e
        | _ => exact absurd h no
      | _ => exact absurd h no
  | _ => exact absurd h no
def rIsi (xs : List V) (H : Hp) (Q : VK) : Prop := ∃ x n, xs = [x, .ty n] ∧ tyN H x ∈ tyKnown ∧ n ∈ tyAsked ∧ Q (.bl (tyIs (tyN H x) n)) H
section
variable {X : Cx}
theorem call_isi : CallR X (.builtin "isinstance") rIsi := by
  intro pins s σ H xs us Q I r h
  obtain ⟨x, n, rfl, h1, h2, q⟩ := h
  obtain ⟨u, v, rfl, ru, rv⟩ := vals2 r
  cases rv
  exact isinst_ok I ru (tyN_of h1) (kit_known X.K _ h1 _ h2) fun tk => ⟨.bl _, H, I.tok tk, rfl, q⟩
end
end L2
set_option Elab.async false
set_option linter.all false
set_option maxRecDepth 100000
namespace L2
open PySem PySem.Spec PyProof.Rows
section
variable {X : Cx}
theorem sum_pre {xs : Array (Int × Tok)} {ns : List Int} {its : List Value} (hi : IntsAre its ns) (hx : its.toArray = intItems xs) : preSum (numAt xs) xs.size = ns.sum := by
  have e1 : ns = xs.toList.map (·.1) := by
    rw [← nums_intItems, ← hx]
    exact hi.numsOf.symm
  rw [preSum_eq, List.take_of_length_le (by simp), e1]
def rSum (K : PySem.W.Frag) (xs : List V) (H : Hp) (Q : VK) : Prop := ∃ (p : Addr) (ns : List Int), xs = [.ref p] ∧ SqL K H p (ns.map V.int) ∧ Q (.int ns.sum) H
theorem call_sum (hc : X.calm = true) : CallR X (.builtin "sum") (rSum X.K) := by
  intro pins s σ H xs us Q I r h
  obtain ⟨p, ns, rfl, hq, q⟩ := h
  obtain ⟨u, rfl, rx⟩ := vals1 r
  cases rx
  obtain ⟨its, r', pl, hz⟩ := I.list hq
  have hi := intsAre_of r'
  obtain ⟨ws, hx⟩ := hi.allInts.items
  refine sum_intListG (I.ok.hd hc) (show s.heap.IsList p (intItems ws) from hx ▸ pl.isList) fun h' tk t' hk => ?_
  rw [sum_pre hi hx]
  exact ⟨.int ns.sum, H, I.kept (t' := tk) hk, ⟨t', rfl⟩, q⟩
def rCount (K : PySem.W.Frag) : V → List V → Hp → VK → Prop := fun x vs H Q => ∃ p xs y, x = .ref p ∧ vs = [y] ∧ SqL K H p xs ∧ flatV y = true ∧ xs.all flatV = true ∧ Q (.int ((xs.countP fun z => eqV z y : Nat) : Int)) H
theorem countP_eqU {x : V} : ∀ {xs : List V} {us : List Value}, Vals xs us → xs.all flatV = true → us.countP (eqU x) = xs.countP fun y => eqV y x
  | _, _, .nil, _ => rfl
  | y :: xs, u :: us, .cons r t, f => by
    rw [List.all_cons, Bool.and_eq_true] at f
    rw [List.countP_cons, List.countP_cons, eqU_of r f.1, countP_eqU t f.2]
theorem mt_count : MtR X "list.count" (rCount X.K) := by
  intro pins s σ H x vs v us Q I rx rv h
  obtain ⟨p, xs, y, rfl, rfl, hq, fy, fs, q⟩ := h
  cases rx
  obtain ⟨u, rfl, ru⟩ := rv.one
  obtain ⟨its, r, pl, hz⟩ := I.list hq
  obtain ⟨⟨oc, od, odt, osl⟩, n, e, c, d, hd⟩ := pl
  cases c; cases d; cases hd
  refine call_meets F.slot_list_count ⟨_, e, rfl⟩ F.entry_list_count (F.args_list_count_2 _ _) (SeqAt.list_countAt p its.toArray n none osl u (eqU y)) ⟨e, fun w hw => mem_eqAt ru fy r fs w (by simpa using hw), ?_⟩
  refine ⟨.int _, H, I.tok _, ⟨_, rfl⟩, ?_⟩
  have e2 : its.toArray.toList.countP (eqU y) = xs.countP fun z => eqV z y := by
    rw [← countP_eqU r fs]
  rw [e2]
  exact q
mutual
inductive DataV (K : PySem.W.Frag) (H : Hp) : V → PyData → Prop
  | non : DataV K H .non .none
  | bl (b : Bool) : DataV K H (.bl b) (.bool b)
  | int (i : Int) : DataV K H (.int i) (.int i)
  | str (x : Str) : DataV K H (.str x) (.str x)
  | lst {a : Addr} {xs : List V} {ds : List PyData} : SqL K H a xs → DataVs K H xs ds → DataV K H (.ref a) (.list ds)
  | tup {a : Addr} {xs : List V} {ds : List PyData} : SqT K H a xs → DataVs K H xs ds → DataV K H (.ref a) (.tuple ds)
inductive DataVs (K : PySem.W.Frag) (H : Hp) : List V → List PyData → Prop
  | nil : DataVs K H [] []
  | cons {x : V} {xs : List V} {d : PyData} {ds : List PyData} : DataV K H x d → DataVs K H xs ds → DataVs K H (x :: xs) (d :: ds)
end
mutual
theorem DataV.reads {pins : List (Addr × Obj)} {s : Shared} {σ : St} {H : Hp} (I : Inv X pins σ H s) : ∀ {x : V} {d : PyData}, DataV X.K H x d → ∀ {u : Value}, RelV x u → ∃ as, Reads s.heap u d as
  | _, _, .non, _, r => by cases r; exact ⟨_, .none⟩
  | _, _, .bl b, _, r => by cases r; exact ⟨_, .bool b⟩
  | _, _, .int i, _, r => by obtain ⟨t, rfl⟩ := r; exact ⟨_, .int i t⟩
  | _, _, .str z, _, r => by obtain ⟨t, rfl⟩ := r; exact ⟨_, .str z t⟩
  | _, _, .lst hq hd, _, r => by
    cases r
    obtain ⟨its, rv, pl, _⟩ := I.list hq
    obtain ⟨as, ha⟩ := DataVs.reads I hd rv
    obtain ⟨o, n, e, c, _, d⟩ := pl
    exact ⟨_, .list e c d ha⟩
  | _, _, .tup hq hd, _, r => by
    cases r
    obtain ⟨its, rv, pl, _⟩ := I.tuple hq
    obtain ⟨as, ha⟩ := DataVs.reads I hd rv
    obtain ⟨o, e, c, n, d⟩ := pl
    exact ⟨_, .tuple e c d ha⟩
theorem DataVs.reads {pins : List (Addr × Obj)} {s : Shared} {σ : St} {H : Hp} (I : Inv X pins σ H s) : ∀ {xs : List V} {ds : List PyData}, DataVs X.K H xs ds → ∀ {us : List Value}, Vals xs us → ∃ as, ReadsAll s.heap us ds as
  | _, _, .nil, _, r => by cases r; exact ⟨_, .nil⟩
  | _, _, .cons h t, _, r => by
    cases r with
    | cons r1 r2 =>
      obtain ⟨as, ha⟩ := DataV.reads I h r1
      obtain ⟨bs, hb⟩ := DataVs.reads I t r2
      exact ⟨_, .cons ha hb⟩
end
def rEqD (K : PySem.W.Frag) : R2 := fun x y H Q => ∃ da db, DataV K H x da ∧ DataV K H y db ∧ SeqAt.shaped da = true ∧ SeqAt.shaped db = true ∧ Q (.bl (PyData.eqv da db)) H
def rNeD (K : PySem.W.Frag) : R2 := fun x y H Q => ∃ da db, DataV K H x da ∧ DataV K H y db ∧ SeqAt.shaped da = true ∧ SeqAt.shaped db = true ∧ Q (.bl (!PyData.eqv da db)) H
theorem op_eqD (hu : X.A.units + 64 < cLine) : OpR X (compareOp .Eq) (rEqD X.K) := by
  intro pins s σ H x y v u Q I rx ry h
  obtain ⟨da, db, ha, hb, sa, sb, q⟩ := h
  obtain ⟨as, ra⟩ := ha.reads I rx
  obtain ⟨bs, rb⟩ := hb.reads I ry
  exact eq_dataH ra rb sa sb hu ⟨.bl _, H, I, rfl, q⟩
theorem op_neD (hu : X.A.units + 64 < cLine) : OpR X (compareOp .NotEq) (rNeD X.K) := by
  intro pins s σ H x y v u Q I rx ry h
  obtain ⟨da, db, ha, hb, sa, sb, q⟩ := h
  obtain ⟨as, ra⟩ := ha.reads I rx
  obtain ⟨bs, rb⟩ := hb.reads I ry
  exact ne_dataH ra rb sa sb hu ⟨.bl _, H, I, rfl, q⟩
theorem op_mulB : OpR X (binaryOp .Mult) (rI IntMulOk fun i j => .int (i * j)) := opI fun _ _ _ _ _ _ _ hc q => mul_int q hc
def rLen (K : PySem.W.Frag) (xs : List V) (H : Hp) (Q : VK) : Prop := (∃ p ys, xs = [.ref p] ∧ (SqL K H p ys ∨ SqT K H p ys) ∧ Q (.int ys.length) H) ∨ (∃ z, xs = [.str z] ∧ z.length ≤ sizeLine ∧ Q (.int z.length) H)
theorem call_lenU : CallR X (.builtin "len") (rLen X.K) := call_len_seq.or call_len_str
end
end L2
set_option Elab.async false
set_option linter.all false
set_option maxRecDepth 100000
namespace L2
open PySem PySem.Spec PyProof.Rows
section
variable {σ : St} {H : Hp} {Q : VK} {D : Ends}
variable {K : PySem.W.Frag}
end
structure Top (K : PySem.W.Frag) (mg : Str → Option Value) (x : Str) (st : Stmt) : Prop where
  ex : ∃ (f : Addr) (fd : FuncData), Fun K x x st f fd ∧ mg x = some (.ref f)
structure Def (P : Program) (w : World) (K : PySem.W.Frag) (mg : Str → Option Value) (base : Heap) (CX : CXT) (k : Nat) (x : Str) (ps : List Str) (sp : Sp) : Prop where
  ex : ∃ (f : Addr) (fd : FuncData), FnOk P w K mg base CX k f fd ps sp ∧ mg x = some (.ref f) ∧ PySem.W.keepIn K (.ref f) = true ∧ Binds K fd ps []
section
variable {P : Program} {w : World} {K : PySem.W.Frag} {mg : Str → Option Value} {base : Heap}
theorem Top.mk' {x : Str} {st : Stmt} {h : Heap} {f : Addr} {oc : Value} {od an : Option Addr} {osl : Array (Option Value)} {kV doc pm cdv ct : Value} (X : K.In h) (G : h.Ns mainGlobals mg) (a : PySem.W.nsIn K mainGlobals x = some (some (.ref f)))
    (l : K.lookup f = some ⟨oc, od, .func (PySem.W.fnOf x x (defArgs st) (defBody st) (defScope st) .none kV doc pm an cdv ct), osl⟩) (c : PySem.W.codeIn K cdv x = true) (k : PySem.W.keepIn K (.ref f) = true) : Top K mg x st :=
  ⟨⟨f, _, fun_mk l c k, PySem.W.mg_of X G a⟩⟩
theorem Top.def {x : Str} {st : Stmt} {N ps : List Str} {k : Nat} {sp : Sp} (T : Top K mg x st) (S : FnScope N ps (defScope st)) (len : ∀ vs H Q E, sp vs H Q E → vs.length = ps.length)
    (hb : ∀ (kV doc pm : Value) (an : Option Addr) (cdv ct : Value) (us : List Value), us.length = ps.length → bindArgs (PySem.W.fnOf x x (defArgs st) (defBody st) (defScope st) .none kV doc pm an cdv ct) ⟨us, []⟩ = pure (ps.zip us))
    (hbody : ∀ (f : Addr) (cdv : Value) (A : Around) (outer : List Env) (s : Shared) (H : Hp) (vs : List V) (Q : VK) (E : XK), Room k (A.deeper (envOfC x (defScope st) s.heap.objs.size f cdv)) → sp vs H Q E →
      ∃ t, PSs (cxOf CX0 P w K mg base N x (defScope st) f cdv A outer s H E).nox (defBody st) t ∧ t { nx := fun _ H' => Q .non H', rt := Q } (start N vs) H) : Def P w K mg base CX0 (k + 1) x ps sp := by
  obtain ⟨f, fd, F, m⟩ := T.ex
  exact ⟨⟨f, fd, F.ok S len (hbody f), m, F.kp, F.binds hb⟩⟩
theorem pe_def {X : Cx} {k : Nat} {x : Str} {ps : List Str} {sp : Sp} {p pos : Pos} {e : Expr} {es : List Expr} {t : TA} (D : Def X.prog X.w X.K X.mg X.base CX0 k x ps sp) (hr : Room k X.A) (ha : PA X (e :: es) t) (hg : Gl X x := by rfl)
    (hdb : (x == ("__debug__" : Str)) = false := by decide) (he : starEach (e :: es) X.env = (false, eval e X.env) :: starEach es X.env := by rfl) (hpl : (backTo pos (starEach es X.env)).any (·.1) = false := by rfl) :
    PE X (.Call (.Name x p) (e :: es) [] pos) (tCall sp [] E0 t) := by
  obtain ⟨f, fd, F, m, kp, b⟩ := D.ex
  exact pe_call F hr hg m kp b .nil pass0 ha hdb he hpl
end
open PySem.W in
theorem bits_weight : ∀ (ns : List Int) (n : Int), n ∈ ns → Builtin.Int.intBits n ≤ WData.weightAll (ns.map WData.int)
  | m :: r, n, h => by
    rw [List.map_cons]
    have e : WData.weightAll (WData.int m :: r.map WData.int) = WData.weight (.int m) + 1 + WData.weightAll (r.map WData.int) := by simp only [WData.weightAll]
    rw [e]
    rcases List.mem_cons.mp h with rfl | h
    · have : Builtin.Int.intBits n = WData.weight (.int n) := by simp only [WData.weight, Builtin.Int.intBits]
      omega
    · have := bits_weight r n h
      omega
open PySem.W in
theorem bits_script {ns : List Int} (h : WData.layableAll [WData.list (ns.map WData.int)] = true) : ∀ n ∈ ns, Builtin.Int.intBits n ≤ 1048576 := fun n hn => by
  have h1 : (WData.list (ns.map WData.int)).layable = true := PySem.W.layableW_arg h _ (by simp)
  have h2 := (PySem.W.layableW_iff.mp h1).2.2
  have h3 : WData.weight (.list (ns.map WData.int)) = WData.weightAll (ns.map WData.int) := by simp only [WData.weight]
  have h4 := bits_weight ns n hn
  have h5 : (2 : Nat) ^ 20 = 1048576 := by decide
  omega
open PySem.W PySem.Calls in
theorem attachB {l : OpenLaw} {n : Nat} {q : Program} {loose : List Str} {XP : (Str → Option Value) → Heap → Prop} {YP : World → Heap → Prop} {d : DefRec}
    (hn : l.most = some n) (hdf : d.params.defaults = [])
    (call : ∀ (w : World) (s₀ s₁ : Shared) (mg mb : Str → Option Value) (fa a : Addr) (vs : List Value) (ns : List Int),
      Ground q loose [] XP w s₀ mg mb s₁.heap → YP w s₁.heap → mg d.name = some (.ref fa) →
      s₁.heap.get? a = some { cls := .type "list", data := .seq vs.toArray } → IntsAre vs ns → ns.length ≤ n → (∀ k ∈ ns, Builtin.Int.intBits k ≤ 1048576) → s₁.gens = #[] →
      codeAny (model l.prog w) callerA (.call (.ref fa) ⟨[.ref a], []⟩) (fun r s' => r = .ok (.ret (.bool true)) ∧ OldK s₁.heap s'.heap ∧ s'.os = s₁.os ∧ AllBare s'.gens) s₁) :
    WalkO q loose XP YP l.row.toRowW d [] (fun f vs => PySem.call f vs) := by
  intro w s₀ s₁ mg mb G Y fa o pm cd doc dV kV ho hd hcd hD hmg hg args vals as' hpre hlay hrd hwl hlo
  obtain rfl : dV = .none := Dflts.none hD hdf
  obtain ⟨a, vs, ns, rfl, rfl, hobj, hints, hlen⟩ := Att.script_of hn hpre hwl
  refine enter_call (codeAny_mono (call w s₀ s₁ mg mb fa a vs ns G Y hmg hobj hints hlen (bits_script hlay) hg) fun r s' hq => ?_)
  obtain ⟨rfl, h2, h3, h4⟩ := hq
  exact ⟨.inl ⟨.bool true, .bool true, [], rfl, fun _ => rfl, .bool true, Att.post_true l _, fun _ => ⟨List.Pairwise.nil, fun _ hm => (nomatch hm)⟩⟩, h2, h3, h4⟩
def spLaw (K : PySem.W.Frag) : Sp := fun vs H Q _ => ∃ (a : Addr) (ns : List Int), vs = [.ref a] ∧ SqL K H a (ns.map V.int) ∧ ns.length ≤ 63 ∧ (∀ k ∈ ns, Builtin.Int.intBits k ≤ 1048576) ∧ ∀ H', Q (.bl true) H'
theorem walk_law {l : PySem.W.OpenLaw} {k : Nat} {q : Program} {loose : List Str} {XP : (Str → Option Value) → Heap → Prop} {YP : World → Heap → Prop} {d : DefRec} {K : Params → PySem.W.Frag} {x : Str} {st : Stmt}
    (hn : l.most = some 63) (hdf : d.params.defaults = []) (hr : Room k callerA) (hY : ∀ (w : World) (h : Heap), YP w h → (K w.params).In h)
    (hb : ∀ (kV doc pm : Value) (an : Option Addr) (cdv ct u : Value), bindArgs (PySem.W.fnOf d.name d.name (defArgs st) (defBody st) (defScope st) .none kV doc pm an cdv ct) ⟨[u], []⟩ = pure [(x, u)])
    (F : ∀ (w : World) (mg : Str → Option Value) (h : Heap), (K w.params).In h → h.Ns mainGlobals mg → Top (K w.params) mg d.name st ∧
      ∀ (f : Addr) (fd : FuncData), Fun (K w.params) d.name d.name st f fd → ∀ base : Heap, (K w.params).In base → base.Ns mainGlobals mg → FnOk l.prog w (K w.params) mg base CX0 k f fd [x] (spLaw (K w.params))) :
    PySem.W.WalkO q loose XP YP l.row.toRowW d [] (fun f vs => PySem.call f vs) := by
  refine attachB hn hdf fun w s₀ s₁ mg mb fa a vs ns G Y hmg hobj hints hlen hbits hg => ?_
  have KX := hY w _ Y
  obtain ⟨T, FF⟩ := F w mg _ KX G.T.g
  obtain ⟨f, fd, Ff, m⟩ := T.ex
  have e := m.symm.trans hmg
  cases e
  have hbd : ∀ (s : Shared) (u : Value), BindsTo s fd ⟨[u], []⟩ [(x, u)] := by
    obtain ⟨oc, od, kV, doc, pm, an, cdv, ct, osl, rfl, lk, hcd⟩ := Ff.ex
    exact fun s u => .of_eq (hb kV doc pm an cdv ct u)
  exact law_call KX G.T.g G.T.b G.T.builtins G.T.nolimit hg hobj hints (Nat.le_trans hlen (by decide)) hr (FF _ fd Ff) hbd (fun H hO hS => ⟨a, ns, rfl, hS, hlen, hbits, fun _ => rfl⟩) fun H e s' h => h
end L2
set_option Elab.async false
set_option linter.all false
set_option maxRecDepth 100000
namespace L2
open PySem PySem.Spec PyProof.Rows
section
variable {σ : St} {H : Hp} {Q : VK} {K : PySem.W.Frag} {fr : List (Str × Nat)}
instance : Inhabited V := ⟨.non⟩
end
section
variable {σ : St} {H : Hp} {Q : VK} {K : PySem.W.Frag} {i j : Int}
end
section
variable {σ : St} {H : Hp} {K : PySem.W.Frag}
end
theorem same_upd {H : Hp} {p : Addr} {o : HO} (h : H p = none) : Same H (upd H p o) := fun b u e => by rw [upd_ne (ne_of_none e h)]; exact e
theorem pe_ty {X : Cx} {x : Str} {n : String} {pos : Pos} (hm : X.mg x = none) (hv : bootBuiltins x = some (.type n)) (hg : Gl X x := by rfl) (hn : x ≠ "__name__" := by decide) (hd : (x == ("__debug__" : Str)) = false := by decide) : PE X (.Name x pos) (tC (.ty n)) :=
  pe_bltn hg hm hv (show RelV (.ty n) (.type n) from rfl) hn hd
end L2
set_option Elab.async false
set_option linter.all false
set_option maxRecDepth 100000
namespace L2
open PySem PySem.Spec PyProof.Rows
section
variable {X : Cx}
theorem ps_setLC {elt iter : Expr} {x y : Str} {px py : Pos} {ifs : List Expr} {scope : Scope} {pos spos : Pos} {fr : List (Str × Nat)} {wi : TI} {tc : TT} {te : TE} {i0 : Nat} (hc : X.calm = true) (hN : X.N.Nodup) (hi0 : X.N[i0]? = some y) (hx0 : Loc X.env.scope y) (B : Blk X scope x fr)
    (hi : PI X (.Name x px) iter wi) (ht : ∀ s₂ H₂ C fp, PIf (cxComp X scope (compNs x fr) s₂ H₂ C fp) ifs tc) (he : ∀ s₂ H₂ C fp, PE (cxComp X scope (compNs x fr) s₂ H₂ C fp) elt te)
    (hsw : swapsWith (.ListComp elt [⟨.Name x px, iter, ifs, 0⟩] scope pos) (some (.Name y py)) spos.line X.env = pure true := by rfl)
    (hf0 : X.fn y = true ∨ X.env.scope.names.lookup y = some .local := by first | exact .inl rfl | exact .inr rfl | assumption)
    (hs : ∀ v, foldedSetIterable iter X.env v = pure v := by intro _; rfl) : PS X (.Assign [.Name y py] (.ListComp elt [⟨.Name x px, iter, ifs, 0⟩] scope pos) spos) (tAsg (tLC fr wi tc te) (gName i0)) := by
  intro pins s σ H D0 I h
  rw [exec_Assign_Name_used _ _ _ _ hsw]
  refine wpAny_bind (wpAny_standAt (wpAny_bind ?_))
  have hclos := clo_eq (scope := scope) (env := X.env) (B.clos I.ok)
  show wpAny _ X.A (do let _ ← comprehension (.ListComp elt [⟨.Name x px, iter, ifs, 0⟩] scope pos) scope X.env _ (newList []) false (eval iter X.env) (some (assign (.Name y py) X.env))) _ _ s
  refine wpAny_bind (wpAny_mono (wpAny_comprehension_free (use := some (assign (.Name y py) X.env)) (Q := fun _ s' => SP X pins D0 .next s') rfl hs hclos B.kind B.loc
    (thn (hi pins s σ H _ I h) fun v s1 h1 => thn h1 fun itv s2 h2 => ?_)) (fun _ s' hq => wpAny_pure (wpAny_pure hq)) fun _ _ e => e)
  obtain ⟨it, fp, tn, J, H2, rfl, I2, T, st2, f2, W, ⟨m0, w0⟩, turn⟩ := h2
  refine wpAny_newObj_type (wpAny_newFunctionEnv B.cell (by intro y hy; simp at hy) (fun h₁ hns hsb => ?_) B.kind)
  dsimp only at hns hsb ⊢
  generalize hG : s2.heap.push { cls := .type "list", dict := none, data := .seq ([] : List Value).toArray } = G at hns hsb ⊢
  have hC : G.objs.size = s2.heap.objs.size + 1 := by rw [← hG, Heap.size_push]
  have hDC : s2.heap.objs.size ≠ G.objs.size := by omega
  have old : ∀ b ob, s2.heap.get? b = some ob → h₁.get? b = some ob := fun b ob e => by
    have hb := Heap.lt_size e
    refine hsb.extBut b ob (Nat.ne_of_lt (by rw [hC]; exact Nat.lt_succ_of_lt hb)) (Heap.get?_push_of_some _ ?_)
    rw [← hG]
    exact Heap.get?_push_of_some _ e
  have hacc : h₁.get? s2.heap.objs.size = some { cls := .type "list", data := .seq ([] : List Value).toArray 0 } := by
    refine hsb.extBut _ _ hDC (Heap.get?_push_of_some _ ?_)
    rw [← hG]
    exact Heap.get?_push_size _ rfl
  have hlt : ∀ b ∈ fp, b < s2.heap.objs.size := fun b hb => by
    obtain ⟨o, e, _⟩ := T.obj 0 _ st2 b hb
    exact Heap.lt_size e
  have I4 := inv_comp (tk := s2.toks + ([] : List (Str × Value)).length) (o := none) I2 B (show s2.heap.objs.size ≤ G.objs.size by omega) f2 hlt old hns
  have tn4 : tn 0 h₁ := T.keep 0 _ _ st2 fun b _ o e => old b o e
  have Dfs : s2.heap.objs.size ∉ frs X.stack := fun z => by
    obtain ⟨_, o, ho, _⟩ := I2.stack.mem z
    exact absurd (Heap.lt_size ho) (Nat.lt_irrefl _)
  have Dcl : ∀ y c, X.env.cells.lookup y = some c → c ≠ s2.heap.objs.size := fun y c e => by
    obtain ⟨v, o, ho, _⟩ := I2.cell y c e
    exact Nat.ne_of_lt (Heap.lt_size ho)
  have DL : s2.heap.objs.size ≠ X.env.locals := Nat.ne_of_gt I2.lt
  have Dfp : s2.heap.objs.size ∉ fp := fun z => absurd (hlt _ z) (Nat.lt_irrefl _)
  have loop : ∀ s₃ : Shared, s₃ = { s2 with heap := h₁, toks := s2.toks + ([] : List (Str × Value)).length } →
      codeAny (model X.prog X.w) X.A (.compLoop (.ListComp elt [⟨.Name x px, iter, ifs, 0⟩] scope pos) 0 (.ref it) (.ref s2.heap.objs.size) (compEnvC scope (cloOf X.env.cells scope.names []) G.objs.size X.env))
        (compPost (model X.prog X.w) X.A X.xe (some (assign (.Name y py) X.env)) (fun _ s' => SP X pins D0 .next s') (.ref s2.heap.objs.size) G.objs.size) s₃ := by
    rintro s₃ rfl
    refine comp_loop
      (fun n s' => ∃ i o H' ys its k, Inv (cxComp X scope (compNs x fr) s2 H2 G.objs.size fp) [] (o :: compRest σ fr) H' s' ∧ tn i s'.heap ∧ (∀ b ∈ fp, H' b = none) ∧ H' s2.heap.objs.size = none ∧
        s'.heap.get? s2.heap.objs.size = some { cls := .type "list", data := .seq (its : List Value).toArray k } ∧ Vals ys its ∧ W i n ys H') ?_ m0
      ⟨0, none, H2, [], [], 0, I4, tn4, fun b hb => (f2 b hb).1, I2.hok.fresh (Nat.le_refl _), hacc, .nil, w0⟩
    rintro n s5 ⟨i, o, H5, ys, its, k, I5, st5, fr5, D5, hD5, r5, w5⟩
    have fok : ∀ {H' : Hp}, (∀ b ∈ fp, H' b = none) → ∀ b ∈ fp, FpOk (cxComp X scope (compNs x fr) s2 H2 G.objs.size fp) [] H' b := fun hn b hb =>
      ⟨hn b hb, (I5.ok.exf b hb).1, I5.ok.exfs b hb, .inl hb, (I5.ok.exf b hb).2, fun p hp => absurd (show p ∈ ([] : List (Addr × Obj)) from hp) (by simp)⟩
    have dok : ∀ {H' : Hp}, H' s2.heap.objs.size = none → FpOk (cxComp X scope (compNs x fr) s2 H2 G.objs.size fp) [] H' s2.heap.objs.size := fun hn =>
      ⟨hn, hDC, Dfs, .inr (Nat.le_refl _), fun y c e => Dcl y c (B.sub I2.ok _ _ e), fun p hp => absurd (show p ∈ ([] : List (Addr × Obj)) from hp) (by simp)⟩
    obtain ⟨hz, alt⟩ := turn i n ys H5 w5
    have hzl : its.length ≤ sizeLine := by rw [← r5.length]; exact Nat.le_of_lt hz
    rcases alt with ⟨stop, fin⟩ | ⟨go, step⟩
    · refine thn (T.done (cxComp X scope (compNs x fr) s2 H2 G.objs.size fp) rfl rfl rfl hc i (pinsAt [s2.heap.objs.size] s5.heap) s5 (o :: compRest σ fr) H5 _ ?_ (fun b hb => ?_) st5 stop) fun r s6 ⟨hr, I6⟩ => ?_
      · exact (Inv.pinned I5 (fp := [s2.heap.objs.size]) (fun b hb => by rw [List.mem_singleton.mp hb]; exact dok D5) fun b hb => by
          rw [List.mem_singleton.mp hb]
          exact ⟨_, hD5, fun v z => by cases z⟩)
      · obtain ⟨f0, f1, f2', f3, f4, f5⟩ := fok fr5 b hb
        refine ⟨f0, f1, f2', f3, f4, fun p hp => ?_⟩
        have hp' : p ∈ pinsAt [s2.heap.objs.size] s5.heap := (List.mem_append.mp hp).elim (fun z => absurd (show p ∈ ([] : List (Addr × Obj)) from z) (by simp)) id
        have := (of_pinsAt hp').1
        rw [List.mem_singleton.mp this]
        exact fun e => Dfp (by rw [e]; exact hb)
      · subst hr
        have hD6 := (I6.pin (s2.heap.objs.size, { cls := .type "list", data := .seq its.toArray k }) (List.mem_append_right _ (mem_pinsAt (by simp) hD5))).1
        obtain ⟨m6, hn6, _⟩ := I6.loc
        have u6 : Un (frs X.stack) fp H2 H5 s2.heap s6.heap := I6.base
        have hC5 : H5 G.objs.size = none := I6.free
        have hCD : G.objs.size ≠ s2.heap.objs.size := fun z => hDC z.symm
        have I7 : Inv X pins σ H5 s6 := I2.call' (s' := s6) (I6.os) u6 I6.hok I6.bare fun b hb => ⟨(f2 b hb).2.2.2.1, (f2 b hb).2.1, (f2 b hb).2.2.2.2.1, (f2 b hb).2.2.2.2.2⟩
        have pD : ∀ p ∈ X.pn ++ pins, p.1 ≠ s2.heap.objs.size := fun p hp z => by
          obtain ⟨e, _⟩ := I2.pin p hp
          rw [z] at e
          exact absurd (Heap.lt_size e) (Nat.lt_irrefl _)
        have I8 : Inv X pins σ (upd H5 s2.heap.objs.size (.lst ys)) s6 := I7.track D5 I2.sz DL Dcl pD ⟨Nat.le_of_lt hz, its, k, r5, hD6⟩
        have hlt : s2.heap.objs.size < G.objs.size := by rw [hC]; exact Nat.lt_succ_self _
        have hCu : upd H5 s2.heap.objs.size (.lst ys) G.objs.size = none := by rw [upd_ne hCD]; exact hC5
        obtain ⟨g0, g1, g2, g3, g4, g5⟩ := I2.fpOk (H' := upd H5 s2.heap.objs.size (.lst ys)) (Nat.le_of_lt hlt) hCu
        obtain ⟨oC, esC, epC, hoC, restC⟩ := id hn6
        have I9 := Inv.pinned I8 (fp := [G.objs.size]) (fun b hb => by
          rw [List.mem_singleton.mp hb]
          exact ⟨g0, g1, g2, g3, g4, g5⟩) fun b hb => by
          rw [List.mem_singleton.mp hb]
          refine ⟨oC, hoC, fun v z => ?_⟩
          have dd := restC
          simp [z] at dd
        refine thn (pg_name (X := X) (i := i0) hN hi0 hx0 hf0 _ s6 σ _ (.ref s2.heap.objs.size) (.ref s2.heap.objs.size) (fun σ' H' => σ' = σ.set i0 (some (.ref s2.heap.objs.size)) ∧ H' = upd H5 s2.heap.objs.size (.lst ys)) I9 rfl ⟨rfl, rfl⟩) fun _ s8 ⟨σ8, H8, I10, e1, e2⟩ => ?_
        subst e1 e2
        have hC8 := (I10.pin (G.objs.size, oC) (List.mem_append_right _ (List.mem_append_right _ (mem_pinsAt (by simp) hoC)))).1
        refine ⟨m6, ⟨oC, esC, epC, hC8, restC⟩, fun h' hs' => ?_⟩
        exact ⟨_, _, (Inv.unpinned (pins := pins) I10).turned (t' := s8.toks) (it := G.objs.size) (fun b ob hb e => hs'.extBut b ob hb e) g0 g1 g3 g4 g5, fin _ D5⟩
    · refine anyE (thn (T.item (cxComp X scope (compNs x fr) s2 H2 G.objs.size fp) rfl rfl rfl hc i (pinsAt [s2.heap.objs.size] s5.heap) s5 (o :: compRest σ fr) H5 _ ?_ (fun b hb => ?_) st5 go) fun r s6 ⟨u, hr, h6⟩ => ?_)
      · exact (Inv.pinned I5 (fp := [s2.heap.objs.size]) (fun b hb => by rw [List.mem_singleton.mp hb]; exact dok D5) fun b hb => by
          rw [List.mem_singleton.mp hb]
          exact ⟨_, hD5, fun v z => by cases z⟩)
      · obtain ⟨f0, f1, f2', f3, f4, f5⟩ := fok fr5 b hb
        refine ⟨f0, f1, f2', f3, f4, fun p hp => ?_⟩
        have hp' : p ∈ pinsAt [s2.heap.objs.size] s5.heap := (List.mem_append.mp hp).elim (fun z => absurd (show p ∈ ([] : List (Addr × Obj)) from z) (by simp)) id
        have := (of_pinsAt hp').1
        rw [List.mem_singleton.mp this]
        exact fun e => Dfp (by rw [e]; exact hb)
      · subst hr
        refine thn h6 fun _ s7 ⟨v, H7, I7, rv, y7, st7, fr7⟩ => ?_
        have p7 := I7.pin (s2.heap.objs.size, { cls := .type "list", data := .seq its.toArray k }) (List.mem_append_right _ (mem_pinsAt (by simp) hD5))
        have hD7 : s7.heap.get? s2.heap.objs.size = some { cls := .type "list", data := .seq its.toArray k } := p7.1
        have D7 : H7 s2.heap.objs.size = none := p7.2.1
        have I7u : Inv (cxComp X scope (compNs x fr) s2 H2 G.objs.size fp) [] (o :: compRest σ fr) H7 s7 := Inv.unpinned (pins := []) I7
        have I8 := Inv.pinned I7u (fp := s2.heap.objs.size :: fp) (fun b hb => by
            rcases List.mem_cons.mp hb with e | hb
            · rw [e]; exact dok D7
            · exact fok fr7 b hb) fun b hb => by
            rcases List.mem_cons.mp hb with e | hb
            · rw [e]; exact ⟨_, hD7, fun v z => by cases z⟩
            · exact T.obj _ _ st7 b hb
        have hl : Loc (cxComp X scope (compNs x fr) s2 H2 G.objs.size fp).env.scope x := .inl (lookup_relabel_local B.here)
        have pk : ∀ {σ' : St} {H' : Hp} {s' : Shared}, Inv (cxComp X scope (compNs x fr) s2 H2 G.objs.size fp) ([] ++ pinsAt (s2.heap.objs.size :: fp) s7.heap) σ' H' s' →
            tn (i + 1) s'.heap ∧ (∀ b ∈ fp, H' b = none) ∧ H' s2.heap.objs.size = none ∧ s'.heap.get? s2.heap.objs.size = some { cls := .type "list", data := .seq its.toArray k } := fun {σ' H' s'} I' => by
          have pD := I'.pin (s2.heap.objs.size, { cls := .type "list", data := .seq its.toArray k }) (List.mem_append_right _ (List.mem_append_right _ (mem_pinsAt (by simp) hD7)))
          refine ⟨T.keep _ _ _ st7 fun b hb ob e => (I'.pin (b, ob) (List.mem_append_right _ (List.mem_append_right _ (mem_pinsAt (List.mem_cons_of_mem _ hb) e)))).1, fun b hb => ?_, pD.2.1, pD.1⟩
          obtain ⟨ob, e, _⟩ := T.obj _ _ st7 b hb
          exact (I'.pin (b, ob) (List.mem_append_right _ (List.mem_append_right _ (mem_pinsAt (List.mem_cons_of_mem _ hb) e)))).2.1
        refine anyE (thn (pg_name (X := cxComp X scope (compNs x fr) s2 H2 G.objs.size fp) (i := 0) B.nd rfl hl (.inr (lookup_relabel_local B.here)) _ s7 _ H7 v u (fun σ' H' => σ' = some v :: compRest σ fr ∧ H' = H7) I8 rv ⟨rfl, rfl⟩) fun _ s8 ⟨σ8, H8, I9, e1, e2⟩ => ?_)
        subst e1 e2
        refine anyE (thn (ht s2 H2 G.objs.size fp _ s8 _ H8 _ I9 (step v H8 y7)) fun ok s9 ⟨H9, I10, q10⟩ => ?_)
        cases ok with
        | false =>
          rw [if_neg Bool.false_ne_true] at q10
          rw [if_neg Bool.false_ne_true]
          obtain ⟨m', hm, w'⟩ := q10
          obtain ⟨k1, k2, k3, k4⟩ := pk I10
          exact ⟨m', hm, i + 1, some v, H9, ys, its, k, Inv.unpinned (pins := []) I10, k1, k2, k3, k4, r5, w'⟩
        | true =>
          rw [if_pos rfl] at q10
          rw [if_pos rfl]
          refine anyE (thn (he s2 H2 G.objs.size fp _ s9 _ H9 _ I10 q10) fun y' s10 ⟨y, H10, I11, ry, m', hm, w'⟩ => ?_)
          obtain ⟨k1, k2, k3, k4⟩ := pk I11
          refine append_at k4 (fun h' hs' hD' => ?_) (by rw [List.size_toArray]; exact hzl)
          have I12 : Inv (cxComp X scope (compNs x fr) s2 H2 G.objs.size fp) [] (some v :: compRest σ fr) H10 { s10 with heap := h' } :=
            (Inv.unpinned (pins := []) I11).turned (t' := s10.toks) (it := s2.heap.objs.size) (fun b ob hb e => (hs'.2 b hb).trans e) k3 hDC (.inr (Nat.le_refl _)) (fun z c e => Dcl z c (B.sub I2.ok _ _ e)) fun p hp => absurd (show p ∈ ([] : List (Addr × Obj)) from hp) (by simp)
          refine ⟨m', hm, i + 1, some v, H10, ys ++ [y], its ++ [y'], k + 1, I12, T.keep _ _ _ k1 fun b hb ob e => (hs'.2 b fun z => Dfp (by rw [← z]; exact hb)).trans e, k2, k3, ?_, r5.append (.cons ry .nil), w'⟩
          rw [hD']
          simp
  exact codeAny_compStart_list (loop _ rfl) (T.self _ 0 _ _ _ tn4 (loop _ rfl))
end
end L2
set_option Elab.async false
set_option linter.all false
set_option maxRecDepth 100000
namespace L2
open PySem PySem.Spec PyProof.Rows
section
variable {P : Program} {w : World} {B : Around} {R : Result → Shared → Prop} {E : Value → Shared → Prop} {t : Shared} {i₀ : Addr} {fp wr : List Addr} {n : Nat} {p : Nat → Value → Prop} {st : Nat → Shared → Prop}
end
section
variable {P : Program} {w : World} {A : Around} {E : Value → Shared → Prop} {s : Shared}
end
section
variable {X : Cx}
abbrev eCall (x : Str) (p : Pos) (es : List Expr) (pos : Pos) : Expr := .Call (.Name x p) es [] pos
theorem lay_list {pins : List (Addr × Obj)} {s : Shared} {σ : St} {H : Hp} {Q : VK} {ys : List V} (I : Inv X pins σ H s) (hz : ys.length ≤ sizeLine) (q : ∀ l, H l = none → Q (.ref l) (upd H l (.lst ys)))
    {l : Addr} (hl : s.heap.objs.size ≤ l) {h' : Heap} {k c : Nat} {acc : Array Value} (kp : ∀ b o, s.heap.get? b = some o → h'.get? b = some o) (ho : h'.get? l = some { cls := .type "list", dict := none, data := .seq acc c, slots := #[] }) (rv : Vals ys acc.toList) :
    EP X pins σ Q (.ref l) { s with heap := h', toks := k } :=
  ⟨.ref l, _, I.laid kp hl (show ObjOk X.prog X.w _ h' _ (.lst ys) from ⟨hz, acc.toList, c, rv, by simpa using ho⟩), rfl, q _ (I.hok.fresh hl)⟩
theorem vals_get : ∀ {ys : List V} {its : List Value}, ys.length = its.length → (∀ (j : Nat) (y : V) (v : Value), ys[j]? = some y → its[j]? = some v → RelV y v) → Vals ys its
  | [], [], _, _ => .nil
  | y :: ys, v :: its, hl, h => .cons (h 0 y v rfl rfl) (vals_get (by simpa using hl) fun j a b h1 h2 => h (j + 1) a b (by simpa using h1) (by simpa using h2))
  | [], _ :: _, hl, _ => by simp at hl
  | _ :: _, [], hl, _ => by simp at hl
def rngV (n : Nat) : List V := (List.range n).map fun k : Nat => V.int (k : Int)
def rListRng : List V → Hp → VK → Prop := fun xs H Q => ∃ n : Nat, xs = [.int (n : Int)] ∧ n ≤ 2 ^ 24 ∧ ∀ l, H l = none → Q (.ref l) (upd H l (.lst (rngV n)))
theorem pe_listRng {a : Expr} {ta : TA} {p p' pos pos' : Pos} (hc : X.calm = true) (hg : Gl X "list") (hm : X.mg "list" = none) (hg' : Gl X "range") (hm' : X.mg "range" = none) (ha : PA X [a] ta)
    (hs : starEach [a] X.env = [(false, eval a X.env)] := by rfl) (hs' : starEach [eCall "range" p' [a] pos'] X.env = [(false, eval (eCall "range" p' [a] pos') X.env)] := by rfl) :
    PE X (eCall "list" p [eCall "range" p' [a] pos'] pos) (tCB rListRng ta) := by
  intro pins s σ H Q I h
  have hn : X.A.handled = none := I.ok.hd hc
  refine wpAny_Call_Name_kw (ld_blt I hg hm boot_list ?_)
  refine PyProof.Rows.callWith_type1 ?_ hs' rfl
  rw [hs']
  refine Calls.spliced_cons ?_
  refine wpAny_Call_Name_kw (ld_blt I hg' hm' boot_range ?_)
  refine PyProof.Rows.callWith_type1 (thn (ha pos' pins s σ H _ I h) fun us s1 ⟨vs, H1, I1, r1, q1⟩ => ?_) hs rfl
  obtain ⟨n, e, hz, q⟩ := q1
  subst e
  cases r1 with
  | cons r rr =>
    cases rr
    obtain ⟨tk, rfl⟩ := r
    refine call_range_1 ?_
    refine Calls.spliced_nil ?_
    have hsz : Builtin.Range.rangeSize 0 (n : Int) 1 = (n : Int) := by rw [PySem.rangeSize_one]; split <;> omega
    refine call_list_range (n := n) hn (IsRange.new _ _ _ _ _ _ _) ?_ hsz hz fun h' k acc c kp ho hacc => ?_
    · exact small_one (by omega) (by omega) (by omega) (by omega)
    · refine lay_list (s := s1) I1 (by simp only [rngV, List.length_map, List.length_range, sizeLine]; omega) q (show s1.heap.objs.size ≤ (s1.heap.push _).objs.size by rw [Heap.size_push]; exact Nat.le_succ _) (fun b o e => kp b o (Heap.get?_push_of_some _ e)) ho (vals_get ?_ fun j y v h1 h2 => ?_)
      · simp only [rngV, List.length_map, List.length_range]
        rw [Array.length_toList, hacc.1]
      · have h2' : acc[j]? = some v := by rw [← Array.getElem?_toList]; exact h2
        obtain ⟨t', h3⟩ := hacc.2 j v h2'
        rw [h3]
        rw [rngV, List.getElem?_map] at h1
        obtain ⟨j', h4, h5⟩ := Option.map_eq_some_iff.mp h1
        have h6 := (List.getElem?_eq_some_iff.mp h4).2
        rw [List.getElem_range] at h6
        subst h6
        rw [← h5]
        exact ⟨t', by rw [Int.zero_add, Int.mul_one]⟩
end
end L2
set_option Elab.async false
set_option linter.all false
set_option maxRecDepth 100000
namespace L2
open PySem PySem.Spec PyProof.Rows
section
variable {prog : Program} {w : World} {A : Around} {E : Value → Shared → Prop} {s : Shared}
theorem pull_list {it t : Addr} {items : Array Value} (hne : t ≠ it) : ∀ (n i : Nat) (s : Shared) (Q : List Value → Shared → Prop), s.heap.IsListIter it t i → s.heap.IsList t items → i + n ≤ items.size →
    (∀ h' : Heap, h'.IsListIter it t (i + n) → Heap.SameBut it s.heap h' → Q ((items.toList.drop i).take n) { s with heap := h' }) → wpAny (model prog w) A (draw (.ref it) n) Q E s
  | 0, i, s, Q, hit, _, _, hQ => by
    show wpAny _ _ (pure []) Q E s
    exact wpAny_pure (by simpa using hQ s.heap hit (Heap.SameBut.refl ..))
  | n + 1, i, s, Q, hit, ht, hle, hQ => by
    have hlt : i < items.size := by omega
    show wpAny _ _ (pyNext (.ref it) >>= _) Q E s
    refine wpAny_bind (wpAny_pyNext_list_item hit ht (x := items[i]) (by simp [hlt]) fun h1 hit1 hs1 => ?_)
    refine wpAny_bind (wpAny_holding (pull_list hne n (i + 1) _ _ hit1 (ht.extBut hs1.extBut hne) (by omega) fun h2 hit2 hs2 => wpAny_pure ?_))
    have hd : items.toList.drop i = items[i] :: items.toList.drop (i + 1) := by simp [List.drop_eq_getElem_cons, hlt]
    have := hQ h2 (by rw [show i + (n + 1) = i + 1 + n by omega]; exact hit2) (hs1.trans hs2)
    rw [hd, List.take_succ_cons] at this
    exact this
theorem unpackItems_lst {t : Addr} {items : Array Value} {Q : List Value → Shared → Prop} (hh : A.handled = none) (ht : s.heap.IsList t items)
    (hQ : ∀ h', Heap.ExtBut s.heap.objs.size s.heap h' → Q items.toList { s with heap := h' }) : wpAny (model prog w) A (unpackItems (.ref t) items.size none) Q E s := by
  have hlt : t ≠ s.heap.objs.size := by obtain ⟨o, ho, _⟩ := ht; exact Nat.ne_of_lt (Heap.lt_size ho)
  unfold unpackItems
  refine wpAny_bind ?_
  · unfold notIterableAtAll
    refine wpAny_bind (wpAny_specialOf ht.typeIs slot_list_iter.lookup ?_)
    refine wpAny_pure ?_
    simp only [Bool.false_eq_true, if_false]
    refine wpAny_bind (wpAny_holding (wpAny_pyIter_list ht ?_))
    refine wpAny_bind (wpAny_holding (pull_list hlt items.size 0 _ _ ⟨_, Heap.get?_push_size _ rfl, rfl, rfl⟩ (ht.push _) (by omega) fun h1 hit1 hs1 => ?_))
    have hall : List.take items.size (List.drop 0 items.toList) = items.toList := by
      rw [List.drop_zero]; exact List.take_of_length_le (by simp)
    rw [hall]
    rw [if_neg (by simp)]
    have ht1 : h1.IsList t items := (ht.push _).extBut hs1.extBut hlt
    refine wpAny_bind (wpAny_holding (wpAny_pyNext_list_end hh hit1 ht1 (by simp) fun h2 he2 => ?_))
    simp only [Option.isSome_none, Bool.false_eq_true, if_false]
    refine wpAny_pure (hQ h2 fun b o hb e => he2 b o hb (hs1.extBut b o hb (Heap.get?_push_of_some _ e)))
theorem assign_Tuple_lst {env : Env} {elts : List Expr} {x1} {pos : Pos} {t : Addr} {items : Array Value} {Q : Unit → Shared → Prop} (hh : A.handled = none) (ht : s.heap.IsList t items)
    (hn : (assignEach elts env).length = items.size) (hstar : (assignEach elts env).findIdx? (·.1) = none)
    (h : ∀ h', Heap.ExtBut s.heap.objs.size s.heap h' → wpAny (model prog w) A (assignInOrder ((assignEach elts env).map (·.2)) items.toList) Q E { s with heap := h' }) :
    wpAny (model prog w) A (assign (.Tuple elts x1 pos) env (.ref t)) Q E s := by
  rw [assign_Tuple]
  refine wpAny_bind (wpAny_standAt ?_)
  unfold unpack
  rw [hn, hstar]
  exact wpAny_bind (wpAny_holding (unpackItems_lst hh ht h))
end
variable {X : Cx}
def gTupL (K : PySem.W.Frag) (n : Nat) (t : TGs) : TG := fun v σ H Q => ∃ a xs, v = .ref a ∧ (SqT K H a xs ∨ SqL K H a xs) ∧ xs.length = n ∧ t xs σ H Q
theorem pg_tupL {es : List Expr} {k : Nat} {pos : Pos} {t : TGs} {n : Nat} (hc : X.calm = true) (h : PGs X es t)
    (hn : (assignEach es X.env).length = n := by rfl) (hst : (assignEach es X.env).findIdx? (·.1) = none := by rfl) : PG X (.Tuple es k pos) (gTupL X.K n t) := by
  intro pins s σ H v u Q I r hw
  obtain ⟨a, xs, e1, hq, hl, hw⟩ := hw
  subst e1
  cases r
  rcases hq with hq | hq
  · obtain ⟨its, rv, ht, hz⟩ := I.tuple hq
    refine assign_Tuple_tuple (I.ok.hd hc) ht (by simp [hn, ← hl, rv.length]) hst fun h' hx => ?_
    have I1 : Inv X pins σ H { s with heap := h' } := I.kept (t' := s.toks) fun b o e => hx b o (Nat.ne_of_lt (Heap.lt_size e)) e
    exact h pins _ σ H xs _ Q I1 (by simpa using rv) hw
  · obtain ⟨its, rv, ht, hz⟩ := I.list hq
    refine assign_Tuple_lst (I.ok.hd hc) ht.isList (by simp [hn, ← hl, rv.length]) hst fun h' hx => ?_
    have I1 : Inv X pins σ H { s with heap := h' } := I.kept (t' := s.toks) fun b o e => hx b o (Nat.ne_of_lt (Heap.lt_size e)) e
    exact h pins _ σ H xs _ Q I1 (by simpa using rv) hw
end L2
set_option Elab.async false
set_option linter.all false
set_option maxRecDepth 100000
namespace L2
open PySem PySem.Spec PyProof.Rows
structure Flown (P : Program) (w : World) (outer : List Env) (H : Hp) (s : Shared) (E : XK) (ea t : Addr) (cls : Value) (B : Heap) (H' : Hp) (s' : Shared) : Prop where
  os : s'.os = s.os
  bare : AllBare s'.gens
  fly : Heap.FlyingW B outer ea cls (.ref t) s'.heap
  keep : ∀ b o, s.heap.get? b = some o → H b = none → b ∉ frs outer → B.get? b = some o
  there : ∀ b o, s.heap.get? b = some o → b ∉ frs outer → ∃ o', B.get? b = some o'
  slot : ∀ b o, s.heap.get? b = some o → b ∈ frs outer → H b = none → ∃ sl, s'.heap.get? b = some { o with slots := sl }
  free : ∀ b o, s.heap.get? b = some o → H b = none → H' b = none
  tups : ∀ b xs, H b = some (.tup xs) → H' b = some (.tup xs)
  frzs : ∀ b o u, H b = some (.frz o u) → H' b = some (.frz o u)
  tbls : ∀ b ps, H b = some (.tbl ps) → ∃ more, H' b = some (.tbl (ps ++ more))
  hok : HOk P w H' B
  wish : E cls none H'
section
variable {X : Cx}
theorem ObjOk.is {P : Program} {w : World} {H : Hp} {h : Heap} {a : Addr} {o : HO} (x : ObjOk P w H h a o) : ∃ u, h.get? a = some u := by
  induction o with
  | lst xs => obtain ⟨z, its, n, r, e⟩ := x; exact ⟨_, e⟩
  | tup xs => obtain ⟨z, its, r, ob, e, c⟩ := x; exact ⟨_, e⟩
  | dK kvs => obtain ⟨z, y, vs, r, ob, es, ep, e, c⟩ := x; exact ⟨_, e⟩
  | dT kvs => obtain ⟨z, y, xs, r, ob, es, ep, e, c⟩ := x; exact ⟨_, e⟩
  | set S n => obtain ⟨ob, es, ep, t, e, c⟩ := x; exact ⟨_, e⟩
  | ins C dx fs => obtain ⟨_, _, _, e, _⟩ := x; exact ⟨_, e⟩
  | own _ => exact x
  | xd fs => obtain ⟨_, ⟨_, _, _, e, _⟩, _⟩ := x; exact ⟨_, e⟩
  | rng lo hi => obtain ⟨_, _, _, e⟩ := x; exact ⟨_, e⟩
  | frz ob u => obtain ⟨e, _⟩ := x; exact ⟨_, e⟩
  | tbl ps => exact ⟨_, x⟩
  | met f y => exact ⟨_, x⟩
  | ext φ => obtain ⟨_, e, _⟩ := x; exact e
end
def Cx.mkd (X : Cx) (e : Addr) : Cx := { X with A := X.A.mark (some (.ref e)), calm := false, xe := fun _ _ => False }
def Cx.inX (X : Cx) (e : Addr) (oe : Obj) : Cx := { X with A := X.A.mark (some (.ref e)), calm := false, pn := (e, oe) :: X.pn, xe := fun _ _ => False }
section
variable {X : Cx} {pins : List (Addr × Obj)} {σ : St} {H : Hp} {s : Shared} {e : Addr} {oe : Obj}
theorem Cx.Ok.mkd (ok : X.Ok) : (X.mkd e).Ok := ⟨ok.mod, ok.kind, ok.glob, ok.blt, ok.above, ok.inj, ok.has, ok.cab, fun h => absurd (show false = true from h) Bool.false_ne_true, ok.frames, ok.stk, ok.exf, ok.bs, ok.bsz, ok.noex, ok.exfs, ok.funs, ok.frf⟩
theorem Inv.mkd (I : Inv X pins σ H s) : Inv (X.mkd e) pins σ H s := ⟨I.ok.mkd, I.os, I.bare, I.base, I.loc, I.cell, I.free, I.freeC, I.pin, I.hok, I.len⟩
theorem Cx.Ok.inX (ok : X.Ok) : (X.inX e oe).Ok := ⟨ok.mod, ok.kind, ok.glob, ok.blt, ok.above, ok.inj, ok.has, ok.cab, fun h => absurd (show false = true from h) Bool.false_ne_true, ok.frames, ok.stk, ok.exf, ok.bs, ok.bsz, ok.noex, ok.exfs, ok.funs, ok.frf⟩
theorem Inv.inX (I : Inv X pins σ H s) (h1 : s.heap.get? e = some oe) (h2 : H e = none) (h3 : e ≠ X.env.locals) (h4 : e ∉ X.fs) (h5 : ∀ v, oe.data ≠ .cell v) : Inv (X.inX e oe) pins σ H s :=
  ⟨I.ok.inX, I.os, I.bare, I.base, I.loc, I.cell, I.free, I.freeC, fun p hp => by
    rcases List.mem_cons.mp (show p ∈ (e, oe) :: (X.pn ++ pins) from hp) with rfl | hp
    · exact ⟨h1, h2, h3, h4, h5⟩
    · exact I.pin p hp, I.hok, I.len⟩
def Ends.drop (D : Ends) (i : Nat) : Ends := { nx := fun σ H => D.nx (σ.set i none) H, rt := D.rt, bk := fun σ H => D.bk (σ.set i none) H, ct := fun σ H => D.ct (σ.set i none) H }
end
end L2
set_option Elab.async false
set_option linter.all false
set_option maxRecDepth 100000
namespace L2
open PySem PySem.Spec PyProof.Rows PySem.W Builtin Builtin.ObjectAttr Builtin.Getset_descriptor
section
variable {prog : Program} {w : World} {A : Around} {E : Value → Shared → Prop} {K : PySem.W.Frag} {a D : Addr} {o : Obj} {h : Heap} {g : Array GenState} {d : Drawn} {t : Nat} {os : OsState}
structure ExcK (K : PySem.W.Frag) (D : Addr) : Prop where
  ga : findIn K (.ref D) "__getattribute__" = some (some (.builtin "BaseException.__getattribute__"))
  gn : findIn K (.ref D) "__getattr__" = some none
  ca : findIn K (.ref D) "__class__" = some (some (.builtin "object.__class__"))
  sub : subIn K (.ref D) (.type "BaseException") = some true
  mro : mroIn K D (.type "object") = some true
  gs : specialIn K (.builtin "object.__class__") "__get__" = some (some (.builtin "getset_descriptor.__get__"))
  tk : takesIn K (.builtin "object.__class__") = some true
  cls : (clsIn K D).isSome = true
end
section
variable {X : Cx} {e : Addr} {oe : Obj} {D : Addr}
end
end L2
set_option Elab.async false
set_option linter.all false
set_option maxRecDepth 100000
namespace Mir
open PySem L2
class Zc where
  e : Addr
instance (priority := 10) zc0 : Zc := ⟨0⟩
variable [Zc]
noncomputable def cIf {α : Type} (c : Prop) (a b : α) : α := @ite α c (Classical.propDecidable c) a b
theorem cIf_pos {α : Type} {c : Prop} {a b : α} (h : c) : cIf c a b = a := by unfold cIf; rw [if_pos h]
theorem cIf_neg {α : Type} {c : Prop} {a b : α} (h : ¬ c) : cIf c a b = b := by unfold cIf; rw [if_neg h]
theorem cIf_true {α : Type} {a b : α} : cIf True a b = a := cIf_pos trivial
theorem cIf_eq {α : Type} {c : Prop} {a : Option α} {x : α} (h : cIf c a none = some x) : c ∧ a = some x := by
  by_cases hc : c
  · rw [cIf_pos hc] at h; exact ⟨hc, h⟩
  · rw [cIf_neg hc] at h; cases h
abbrev D := PyData
def KeyD : Key → D → Prop
  | .inl i, c => c = .int i
  | .inr x, c => c = .str x
mutual
inductive Rep (H : Hp) : V → D → Prop
  | non : Rep H .non .none
  | bl (b : Bool) : Rep H (.bl b) (.bool b)
  | int (i : Int) : Rep H (.int i) (.int i)
  | str (x : Str) : Rep H (.str x) (.str x)
  | lst {a : Addr} {xs : List V} {ds : List D} : Rd H a (.lst xs) → Reps H xs ds → Rep H (.ref a) (.list ds)
  | tup {a : Addr} {xs : List V} {ds : List D} : H a = some (.tup xs) → Reps H xs ds → Rep H (.ref a) (.tuple ds)
  | dct {a : Addr} {kvs : List (Key × V)} {es : List (D × D)} : Rd H a (.dK kvs) → RepKs H kvs es → Rep H (.ref a) (.dict es)
inductive Reps (H : Hp) : List V → List D → Prop
  | nil : Reps H [] []
  | cons {x : V} {xs : List V} {d : D} {ds : List D} : Rep H x d → Reps H xs ds → Reps H (x :: xs) (d :: ds)
inductive RepKs (H : Hp) : List (Key × V) → List (D × D) → Prop
  | nil : RepKs H [] []
  | cons {k : Key} {x : V} {kvs : List (Key × V)} {c d : D} {es : List (D × D)} : KeyD k c → Rep H x d → RepKs H kvs es → RepKs H ((k, x) :: kvs) ((c, d) :: es)
end
theorem rd_same {H H' : Hp} (e : Same H H') {a : Addr} {u : HO} (h : Rd H a u) : Rd H' a u := by
  rcases h with h | ⟨o, h⟩
  · exact .inl (e _ _ h)
  · exact .inr ⟨o, e _ _ h⟩
mutual
theorem Rep.mono {H H' : Hp} (e : Same H H') : ∀ {v : V} {d : D}, Rep H v d → Rep H' v d
  | _, _, .non => .non
  | _, _, .bl b => .bl b
  | _, _, .int i => .int i
  | _, _, .str x => .str x
  | _, _, .lst h r => .lst (rd_same e h) (Reps.mono e r)
  | _, _, .tup h r => .tup (e _ _ h) (Reps.mono e r)
  | _, _, .dct h r => .dct (rd_same e h) (RepKs.mono e r)
theorem Reps.mono {H H' : Hp} (e : Same H H') : ∀ {v : List V} {d : List D}, Reps H v d → Reps H' v d
  | _, _, .nil => .nil
  | _, _, .cons a b => .cons (Rep.mono e a) (Reps.mono e b)
theorem RepKs.mono {H H' : Hp} (e : Same H H') : ∀ {v : List (Key × V)} {d : List (D × D)}, RepKs H v d → RepKs H' v d
  | _, _, .nil => .nil
  | _, _, .cons k a b => .cons k (Rep.mono e a) (RepKs.mono e b)
end
theorem Reps.length {H : Hp} : ∀ {v : List V} {d : List D}, Reps H v d → v.length = d.length
  | _, _, .nil => rfl
  | _, _, .cons _ b => by simp [Reps.length b]
theorem Reps.get {H : Hp} : ∀ {v : List V} {d : List D} (i : Nat), Reps H v d → ∀ c, d[i]? = some c → ∃ x, v[i]? = some x ∧ Rep H x c
  | _, _, _, .nil, c, e => by simp at e
  | _, _, 0, .cons a _, c, e => by simp at e; subst e; exact ⟨_, rfl, a⟩
  | _, _, i + 1, .cons _ b, c, e => by
    obtain ⟨x, h1, h2⟩ := Reps.get i b c (by simpa using e)
    exact ⟨x, by simpa using h1, h2⟩
theorem Reps.append {H : Hp} : ∀ {v w : List V} {d c : List D}, Reps H v d → Reps H w c → Reps H (v ++ w) (d ++ c)
  | _, _, _, _, .nil, r => r
  | _, _, _, _, .cons a b, r => .cons a (Reps.append b r)
theorem Reps.take {H : Hp} : ∀ {v : List V} {d : List D} (n : Nat), Reps H v d → Reps H (v.take n) (d.take n)
  | _, _, 0, _ => .nil
  | _, _, _ + 1, .nil => .nil
  | _, _, n + 1, .cons a b => .cons a (Reps.take n b)
theorem Reps.drop {H : Hp} : ∀ {v : List V} {d : List D} (n : Nat), Reps H v d → Reps H (v.drop n) (d.drop n)
  | _, _, 0, r => r
  | _, _, _ + 1, .nil => .nil
  | _, _, n + 1, .cons _ b => Reps.drop n b
theorem Reps.set {H : Hp} {x : V} {c : D} (r : Rep H x c) : ∀ {v : List V} {d : List D} (i : Nat), Reps H v d → Reps H (v.set i x) (d.set i c)
  | _, _, _, .nil => .nil
  | _, _, 0, .cons _ b => .cons r b
  | _, _, i + 1, .cons a b => .cons a (Reps.set r i b)
theorem Reps.eraseIdx {H : Hp} : ∀ {v : List V} {d : List D} (i : Nat), Reps H v d → Reps H (v.eraseIdx i) (d.eraseIdx i)
  | _, _, _, .nil => .nil
  | _, _, 0, .cons _ b => b
  | _, _, i + 1, .cons a b => .cons a (Reps.eraseIdx i b)
theorem Reps.dropLast {H : Hp} {v : List V} {d : List D} (r : Reps H v d) : Reps H v.dropLast d.dropLast := by
  rw [List.dropLast_eq_take, List.dropLast_eq_take, r.length]; exact r.take _
theorem Reps.reverse {H : Hp} : ∀ {v : List V} {d : List D}, Reps H v d → Reps H v.reverse d.reverse
  | _, _, .nil => .nil
  | _, _, .cons a b => by rw [List.reverse_cons, List.reverse_cons]; exact (Reps.reverse b).append (.cons a .nil)
theorem Reps.flat {H : Hp} {v : List V} {d : List D} (r : Reps H v d) : ∀ k, Reps H (List.replicate k v).flatten (List.replicate k d).flatten
  | 0 => .nil
  | k + 1 => by
    rw [List.replicate_succ, List.replicate_succ, List.flatten_cons, List.flatten_cons]; exact r.append (Reps.flat r k)
inductive Sl where
  | no | fz (d : D) | own (d : D) | io (d : D) | ro (d : D) | ex
def Sl.isOwn : Sl → Bool
  | .own _ => true
  | .io _ => true
  | _ => false
def Sl.isRef : Sl → Bool
  | .own _ => true
  | .io _ => true
  | .ro _ => true
  | _ => false
theorem Sl.ref_of {s : Sl} (h : s.isOwn = true) : s.isRef = true := by cases s <;> first | rfl | cases h
abbrev Rho := List Sl
inductive Kd where
  | fz | new | at (i : Nat) | ro
abbrev RV := D × Kd
inductive Own (B H : Hp) (p : Addr) : D → Prop
  | lst {xs : List V} {ds : List D} : H p = some (.lst xs) → Reps B xs ds → Own B H p (.list ds)
  | dct {kvs : List (Key × V)} {es : List (D × D)} : H p = some (.dK kvs) → RepKs B kvs es → Own B H p (.dict es)
theorem Own.there {B H : Hp} {p : Addr} {d : D} (h : Own B H p d) : ∃ o, H p = some o := by cases h with
  | lst h _ => exact ⟨_, h⟩
  | dct h _ => exact ⟨_, h⟩
theorem Own.ne_none {B H : Hp} {p : Addr} {d : D} (h : Own B H p d) : H p ≠ none := by
  obtain ⟨o, e⟩ := h.there; rw [e]; simp
theorem Own.mono {B H B' H' : Hp} {p : Addr} {d : D} (h : Own B H p d) (e : Same B B') (k : ∀ o, H p = some o → H' p = some o) : Own B' H' p d := by cases h with
  | lst h r => exact .lst (k _ h) (r.mono e)
  | dct h r => exact .dct (k _ h) (r.mono e)
theorem Own.notup {B H : Hp} {p : Addr} {d : D} (h : Own B H p d) (xs : List V) : H p ≠ some (.tup xs) := by cases h with
  | lst h _ => rw [h]; simp
  | dct h _ => rw [h]; simp
theorem Own.rep {B H : Hp} {p : Addr} {d : D} (h : Own B H p d) (e : Same B H) : Rep H (.ref p) d := by cases h with
  | lst h r => exact .lst (.inl h) (r.mono e)
  | dct h r => exact .dct (.inl h) (r.mono e)
theorem Own.frozen {B H B' : Hp} {p : Addr} {d : D} (h : Own B H p d) (e : Same B B') (k : ∀ o, H p = some o → B' p = some o) : Rep B' (.ref p) d := by cases h with
  | lst h r => exact .lst (.inl (k _ h)) (r.mono e)
  | dct h r => exact .dct (.inl (k _ h)) (r.mono e)
structure Fr where
  B : Hp
  H : Hp
  io : List (Nat × Addr)
  Z : Addr → Prop
def SlotOk (B H : Hp) (σ : St) (i : Nat) : Sl → Prop
  | .no => True
  | .ex => True
  | .fz d => ∃ v, σ[i]? = some (some v) ∧ Rep B v d
  | .own d => ∃ p, σ[i]? = some (some (.ref p)) ∧ B p = none ∧ Own B H p d
  | .io d => ∃ p, σ[i]? = some (some (.ref p)) ∧ B p = none ∧ Own B H p d
  | .ro d => ∃ p, σ[i]? = some (some (.ref p)) ∧ Own B H p d
structure Rel (F : Fr) (B H : Hp) (σ : St) (ρ : Rho) : Prop where
  sub : Same B H
  sB : Same F.B B
  sH : ∀ q o, F.H q = some o → (∀ x ∈ F.io, x.2 ≠ q) → H q = some o
  nB : ∀ q, F.H q ≠ none → F.B q = none → B q = none
  len : ρ.length = σ.length
  slot : ∀ (i : Nat) (s : Sl), ρ[i]? = some s → SlotOk B H σ i s
  dist : ∀ (i j : Nat) (s t : Sl) (p : Addr), ρ[i]? = some s → s.isOwn = true → ρ[j]? = some t → t.isRef = true → σ[i]? = some (some (.ref p)) → σ[j]? = some (some (.ref p)) → i = j
  ownN : ∀ (i : Nat) (d : D) (p : Addr), ρ[i]? = some (.own d) → σ[i]? = some (some (.ref p)) → F.H p = none
  fx : ∀ x ∈ F.io, σ[x.1]? = some (some (.ref x.2)) ∧ ∃ d, ρ[x.1]? = some (.io d)
  ioN : ∀ (i : Nat) (d : D), ρ[i]? = some (.io d) → ∃ p, (i, p) ∈ F.io
  tupB : ∀ q xs, H q = some (.tup xs) → B q = some (.tup xs)
  exv : ∀ i : Nat, ρ[i]? = some .ex → σ[i]? = some (some (.ref Zc.e))
  nz : ∀ q o u, H q = some (.frz o u) → F.Z q
structure Ext (σ : St) (ρ : Rho) (B H : Hp) (ρ' : Rho) (B' H' : Hp) : Prop where
  sB : Same B B'
  keep : ∀ q o, H q = some o → (∀ (i : Nat) (s : Sl), ρ[i]? = some s → s.isOwn = true → σ[i]? ≠ some (some (.ref q))) → H' q = some o ∧ (B q = none → B' q = none)
  own : ∀ (i : Nat) (s' : Sl), ρ'[i]? = some s' → s'.isOwn = true → ∃ s, ρ[i]? = some s ∧ s.isOwn = true
  ref : ∀ (i : Nat) (s' : Sl), ρ'[i]? = some s' → s'.isRef = true → ∃ s, ρ[i]? = some s ∧ s.isRef = true
  live : ∀ q, H' q = none → H q = none
theorem Ext.refl (σ : St) (ρ : Rho) (B H : Hp) : Ext σ ρ B H ρ B H := ⟨Same.refl _, fun _ _ h _ => ⟨h, id⟩, fun _ s h e => ⟨s, h, e⟩, fun _ s h e => ⟨s, h, e⟩, fun _ h => h⟩
theorem Ext.trans {σ : St} {ρ ρ1 ρ2 : Rho} {B H B1 H1 B2 H2 : Hp} (a : Ext σ ρ B H ρ1 B1 H1) (b : Ext σ ρ1 B1 H1 ρ2 B2 H2) : Ext σ ρ B H ρ2 B2 H2 := by
  refine ⟨a.sB.trans b.sB, fun q o h n => ?_, fun i s h e => ?_, fun i s h e => ?_, fun q h => a.live q (b.live q h)⟩
  · obtain ⟨h1, h2⟩ := a.keep q o h n
    obtain ⟨h3, h4⟩ := b.keep q o h1 fun i s e1 e2 => by
      obtain ⟨s', e3, e4⟩ := a.own i s e1 e2
      exact n i s' e3 e4
    exact ⟨h3, fun z => h4 (h2 z)⟩
  · obtain ⟨s1, h1, e1⟩ := b.own i s h e
    exact a.own i s1 h1 e1
  · obtain ⟨s1, h1, e1⟩ := b.ref i s h e
    exact a.ref i s1 h1 e1
def slD : Sl → D
  | .own d => d
  | .io d => d
  | .ro d => d
  | .fz d => d
  | .no => .none
  | .ex => .none
def Val (F : Fr) (B H : Hp) (σ : St) (ρ : Rho) (v : V) (r : RV) : Prop := match r.2 with
  | .fz => Rep B v r.1
  | .new => ∃ p, v = .ref p ∧ B p = none ∧ F.H p = none ∧ Own B H p r.1 ∧ ∀ (i : Nat) (s : Sl), ρ[i]? = some s → s.isRef = true → σ[i]? ≠ some (some (.ref p))
  | .at i => ∃ s, ρ[i]? = some s ∧ s.isOwn = true ∧ slD s = r.1 ∧ σ[i]? = some (some v)
  | .ro => ∃ p, v = .ref p ∧ Own B H p r.1 ∧ ∀ (i : Nat) (s : Sl), ρ[i]? = some s → s.isOwn = true → σ[i]? ≠ some (some (.ref p))
def View (B H : Hp) (v : V) (d : D) : Prop := Rep B v d ∨ ∃ p, v = .ref p ∧ Own B H p d
theorem View.rep {B H : Hp} {v : V} {d : D} (h : View B H v d) (e : Same B H) : Rep H v d := by
  rcases h with h | ⟨p, rfl, h⟩
  · exact h.mono e
  · exact h.rep e
theorem View.list {B H : Hp} {v : V} {ds : List D} (h : View B H v (.list ds)) (e : Same B H) : ∃ p xs, v = .ref p ∧ Rd H p (.lst xs) ∧ Reps B xs ds := by
  rcases h with h | ⟨p, rfl, h⟩
  · cases h with
    | lst h r => exact ⟨_, _, rfl, rd_same e h, r⟩
  · cases h with
    | lst h r => exact ⟨_, _, rfl, .inl h, r⟩
theorem View.tuple {B H : Hp} {v : V} {ds : List D} (h : View B H v (.tuple ds)) (e : Same B H) : ∃ p xs, v = .ref p ∧ H p = some (.tup xs) ∧ Reps B xs ds := by
  rcases h with h | ⟨p, rfl, h⟩
  · cases h with
    | tup h r => exact ⟨_, _, rfl, e _ _ h, r⟩
  · cases h
theorem View.dict {B H : Hp} {v : V} {es : List (D × D)} (h : View B H v (.dict es)) (e : Same B H) : ∃ p kvs, v = .ref p ∧ Rd H p (.dK kvs) ∧ RepKs B kvs es := by
  rcases h with h | ⟨p, rfl, h⟩
  · cases h with
    | dct h r => exact ⟨_, _, rfl, rd_same e h, r⟩
  · cases h with
    | dct h r => exact ⟨_, _, rfl, .inl h, r⟩
theorem View.int {B H : Hp} {v : V} {i : Int} (h : View B H v (.int i)) : v = .int i := by
  rcases h with h | ⟨p, rfl, h⟩
  · cases h; rfl
  · cases h
theorem View.bool {B H : Hp} {v : V} {b : Bool} (h : View B H v (.bool b)) : v = .bl b := by
  rcases h with h | ⟨p, rfl, h⟩
  · cases h; rfl
  · cases h
theorem View.str {B H : Hp} {v : V} {x : Str} (h : View B H v (.str x)) : v = .str x := by
  rcases h with h | ⟨p, rfl, h⟩
  · cases h; rfl
  · cases h
theorem View.none {B H : Hp} {v : V} (h : View B H v .none) : v = .non := by
  rcases h with h | ⟨p, rfl, h⟩
  · cases h; rfl
  · cases h
section
variable {F : Fr} {B H B' H' : Hp} {σ : St} {ρ ρ' : Rho} {v : V} {r : RV}
theorem Rel.ownAt (R : Rel F B H σ ρ) {i : Nat} {s : Sl} (h : ρ[i]? = some s) (e : s.isOwn = true) : ∃ p, σ[i]? = some (some (.ref p)) ∧ B p = Option.none ∧ Own B H p (slD s) := by
  have := R.slot i s h
  cases s with
  | own d => exact this
  | io d => exact this
  | _ => cases e
theorem Val.view (R : Rel F B H σ ρ) (h : Val F B H σ ρ v r) : View B H v r.1 := by
  obtain ⟨d, k⟩ := r
  cases k with
  | fz => exact .inl h
  | new => obtain ⟨p, rfl, _, _, o, _⟩ := h; exact .inr ⟨p, rfl, o⟩
  | «at» i =>
    obtain ⟨s, h1, h2, h3, h4⟩ := h
    obtain ⟨p, e1, e2, e3⟩ := R.ownAt h1 h2
    rw [h4] at e1
    cases e1
    exact .inr ⟨p, rfl, h3 ▸ e3⟩
  | ro => obtain ⟨p, rfl, o, _⟩ := h; exact .inr ⟨p, rfl, o⟩
theorem Rel.freezeNew (R : Rel F B H σ ρ) {d : D} (h : Val F B H σ ρ v (d, .new)) : ∃ B', Rel F B' H σ ρ ∧ Rep B' v d ∧ Same B B' ∧ ∀ q, v ≠ .ref q → B' q = B q := by
  obtain ⟨p, rfl, hB, hF, o, nn⟩ := h
  obtain ⟨ob, hp⟩ := o.there
  have e : Same B (upd B p ob) := same_upd hB
  have ne : ∀ (i : Nat) (s : Sl) (q : Addr), ρ[i]? = some s → s.isRef = true → σ[i]? = some (some (.ref q)) → q ≠ p := fun i s q h1 h2 h3 z => nn i s h1 h2 (z ▸ h3)
  refine ⟨upd B p ob, ⟨?_, R.sB.trans e, R.sH, ?_, R.len, ?_, R.dist, R.ownN, R.fx, R.ioN, (fun q xs h => e _ _ (R.tupB q xs h)), R.exv, R.nz⟩, ?_, e, fun q hq => upd_ne fun z => hq (z ▸ rfl)⟩
  · intro q u hq
    by_cases z : q = p
    · subst z; rw [upd_same] at hq; cases hq; exact hp
    · rw [upd_ne z] at hq; exact R.sub q u hq
  · intro q h1 h2
    have z : q ≠ p := fun z => h1 (z ▸ hF)
    rw [upd_ne z]; exact R.nB q h1 h2
  · intro i s hs
    have q := R.slot i s hs
    cases s with
    | no => trivial
    | ex => trivial
    | fz d => obtain ⟨x, h1, h2⟩ := q; exact ⟨x, h1, h2.mono e⟩
    | own d => obtain ⟨q, h1, h2, h3⟩ := q; exact ⟨q, h1, by rw [upd_ne (ne i _ q hs rfl h1)]; exact h2, h3.mono e fun _ z => z⟩
    | io d => obtain ⟨q, h1, h2, h3⟩ := q; exact ⟨q, h1, by rw [upd_ne (ne i _ q hs rfl h1)]; exact h2, h3.mono e fun _ z => z⟩
    | ro d => obtain ⟨q, h1, h3⟩ := q; exact ⟨q, h1, h3.mono e fun _ z => z⟩
  · exact o.frozen e fun u h => by rw [upd_same, ← h, hp]
theorem get_set {i j : Nat} {s t : Sl} (h : (ρ.set i s)[j]? = some t) : (j = i ∧ t = s ∧ i < ρ.length) ∨ (j ≠ i ∧ ρ[j]? = some t) := by
  by_cases z : j = i
  · subst z
    have hl : j < ρ.length := by
      have := List.getElem?_eq_some_iff.mp h
      obtain ⟨hh, _⟩ := this
      simpa using hh
    rw [List.getElem?_set_self hl] at h
    exact .inl ⟨rfl, (Option.some.inj h).symm, hl⟩
  · rw [List.getElem?_set_ne (fun e => z e.symm)] at h
    exact .inr ⟨z, h⟩
theorem ex_set {ρ : Rho} {i j : Nat} {s : Sl} (hs : s ≠ .ex) (h : (ρ.set i s)[j]? = some .ex) : ρ[j]? = some .ex ∧ j ≠ i := by
  rcases get_set h with ⟨_, z, _⟩ | ⟨hj, h⟩
  · exact absurd z.symm hs
  · exact ⟨h, hj⟩
theorem Rel.freezeAt (R : Rel F B H σ ρ) {i : Nat} {d : D} (hi : ρ[i]? = some (.own d)) (hv : σ[i]? = some (some v)) : ∃ B', Rel F B' H σ (ρ.set i (.fz d)) ∧ Rep B' v d ∧ Ext σ ρ B H (ρ.set i (.fz d)) B' H := by
  obtain ⟨p, h1, hB, o⟩ := R.slot i _ hi
  rw [hv] at h1
  cases h1
  have hF := R.ownN i d p hi hv
  obtain ⟨ob, hp⟩ := o.there
  have e : Same B (upd B p ob) := same_upd hB
  have rp : Rep (upd B p ob) (.ref p) d := o.frozen e fun u h => by rw [upd_same, ← h, hp]
  have ne : ∀ (j : Nat) (s : Sl) (q : Addr), j ≠ i → ρ[j]? = some s → s.isRef = true → σ[j]? = some (some (.ref q)) → q ≠ p := fun j s q hj h1 h2 h3 z => hj (R.dist i j _ s p hi rfl h1 h2 hv (z ▸ h3)).symm
  refine ⟨upd B p ob, ⟨?_, R.sB.trans e, R.sH, ?_, by rw [List.length_set]; exact R.len, ?_, ?_, ?_, ?_, ?_, (fun q xs h => e _ _ (R.tupB q xs h)), (fun j h => R.exv j (ex_set (by simp) h).1), R.nz⟩, rp, ⟨e, ?_, ?_, ?_, fun _ h => h⟩⟩
  · intro q u hq
    by_cases z : q = p
    · subst z; rw [upd_same] at hq; cases hq; exact hp
    · rw [upd_ne z] at hq; exact R.sub q u hq
  · intro q h1 h2
    have z : q ≠ p := fun z => h1 (z ▸ hF)
    rw [upd_ne z]; exact R.nB q h1 h2
  · intro j s hs
    rcases get_set hs with ⟨rfl, rfl, _⟩ | ⟨hj, hs⟩
    · exact ⟨_, hv, rp⟩
    · have q := R.slot j s hs
      cases s with
      | no => trivial
      | ex => trivial
      | fz d => obtain ⟨x, h1, h2⟩ := q; exact ⟨x, h1, h2.mono e⟩
      | own d => obtain ⟨q, h1, h2, h3⟩ := q; exact ⟨q, h1, by rw [upd_ne (ne j _ q hj hs rfl h1)]; exact h2, h3.mono e fun _ z => z⟩
      | io d => obtain ⟨q, h1, h2, h3⟩ := q; exact ⟨q, h1, by rw [upd_ne (ne j _ q hj hs rfl h1)]; exact h2, h3.mono e fun _ z => z⟩
      | ro d => obtain ⟨q, h1, h3⟩ := q; exact ⟨q, h1, h3.mono e fun _ z => z⟩
  · intro a b s t q h1 h2 h3 h4 h5 h6
    rcases get_set h1 with ⟨rfl, rfl, _⟩ | ⟨ha, h1⟩
    · cases h2
    · rcases get_set h3 with ⟨rfl, rfl, _⟩ | ⟨hb, h3⟩
      · cases h4
      · exact R.dist a b s t q h1 h2 h3 h4 h5 h6
  · intro j c q h1 h2
    rcases get_set h1 with ⟨rfl, h, _⟩ | ⟨_, h1⟩
    · cases h
    · exact R.ownN j c q h1 h2
  · intro x hx
    obtain ⟨h1, c, h2⟩ := R.fx x hx
    refine ⟨h1, c, ?_⟩
    by_cases z : i = x.1
    · subst z; rw [hi] at h2; cases h2
    · rw [List.getElem?_set_ne z]; exact h2
  · intro j c h1
    rcases get_set h1 with ⟨rfl, h, _⟩ | ⟨_, h1⟩
    · cases h
    · exact R.ioN j c h1
  · intro q u hq hn
    refine ⟨hq, fun z => ?_⟩
    rw [upd_ne (show q ≠ p from fun y => hn i _ hi rfl (by rw [y]; exact hv))]; exact z
  · intro j s h1 h2
    rcases get_set h1 with ⟨rfl, rfl, _⟩ | ⟨_, h1⟩
    · cases h2
    · exact ⟨s, h1, h2⟩
  · intro j s h1 h2
    rcases get_set h1 with ⟨rfl, rfl, _⟩ | ⟨_, h1⟩
    · cases h2
    · exact ⟨s, h1, h2⟩
theorem Rel.free (R : Rel F B H σ ρ) {p : Addr} (hp : H p = none) : B p = none ∧ F.H p = none ∧ ∀ (i : Nat) (s : Sl), ρ[i]? = some s → s.isRef = true → σ[i]? ≠ some (some (.ref p)) := by
  have hB : B p = none := R.sub.free hp
  have nn : ∀ (i : Nat) (s : Sl), ρ[i]? = some s → s.isRef = true → σ[i]? ≠ some (some (.ref p)) := fun i s h1 h2 h3 => by
    have q := R.slot i s h1
    cases s with
    | own d => obtain ⟨q, e1, _, e3⟩ := q; rw [h3] at e1; cases e1; exact e3.ne_none hp
    | io d => obtain ⟨q, e1, _, e3⟩ := q; rw [h3] at e1; cases e1; exact e3.ne_none hp
    | ro d => obtain ⟨q, e1, e3⟩ := q; rw [h3] at e1; cases e1; exact e3.ne_none hp
    | no => cases h2
    | ex => cases h2
    | fz d => cases h2
  refine ⟨hB, ?_, nn⟩
  cases q : F.H p with
  | none => rfl
  | some u =>
    by_cases z : ∃ x ∈ F.io, x.2 = p
    · obtain ⟨x, hx, rfl⟩ := z
      obtain ⟨h1, d, h2⟩ := R.fx x hx
      exact absurd h1 (nn _ _ h2 rfl)
    · have := R.sH p u q fun x hx y => z ⟨x, hx, y⟩
      rw [hp] at this; cases this
theorem Rel.grow (R : Rel F B H σ ρ) (eB : Same B B') (eH : Same H H') (sub : Same B' H') (nb : ∀ q, H q ≠ none → B q = none → B' q = none) (tB : ∀ q xs, H' q = some (.tup xs) → B' q = some (.tup xs)) (nf : ∀ q o u, H' q = some (.frz o u) → H q ≠ none) : Rel F B' H' σ ρ := by
  have lv : ∀ q, F.H q ≠ none → H q ≠ none := fun q h z => h (R.free z).2.1
  refine ⟨sub, R.sB.trans eB, fun q u h1 h2 => eH _ _ (R.sH q u h1 h2), fun q h1 h2 => nb q (lv q h1) (R.nB q h1 h2), R.len, fun i s hs => ?_, R.dist, R.ownN, R.fx, R.ioN, tB, R.exv, fun q o u h => by
    cases y : H q with
    | none => exact absurd y (nf q o u h)
    | some x =>
      have := eH q x y
      rw [h] at this
      cases this
      exact R.nz q o u y⟩
  have q := R.slot i s hs
  cases s with
  | no => trivial
  | ex => trivial
  | fz d => obtain ⟨x, h1, h2⟩ := q; exact ⟨x, h1, h2.mono eB⟩
  | own d => obtain ⟨q, h1, h2, h3⟩ := q; exact ⟨q, h1, nb q h3.ne_none h2, h3.mono eB fun _ z => eH _ _ z⟩
  | io d => obtain ⟨q, h1, h2, h3⟩ := q; exact ⟨q, h1, nb q h3.ne_none h2, h3.mono eB fun _ z => eH _ _ z⟩
  | ro d => obtain ⟨q, h1, h3⟩ := q; exact ⟨q, h1, h3.mono eB fun _ z => eH _ _ z⟩
theorem Ext.grow (eB : Same B B') (eH : Same H H') (nb : ∀ q, H q ≠ none → B q = none → B' q = none) : Ext σ ρ B H ρ B' H' :=
  ⟨eB, fun q u h _ => ⟨eH _ _ h, fun z => nb q (by rw [h]; simp) z⟩, fun _ s h z => ⟨s, h, z⟩, fun _ s h z => ⟨s, h, z⟩, fun q h => eH.free h⟩
theorem Rel.lay (R : Rel F B H σ ρ) {p : Addr} {o : HO} (hp : H p = none) (no : (∀ xs, o ≠ .tup xs) ∧ ∀ a u, o ≠ .frz a u) : Rel F B (upd H p o) σ ρ ∧ Ext σ ρ B H ρ B (upd H p o) := by
  have e : Same H (upd H p o) := same_upd hp
  refine ⟨R.grow (Same.refl _) e (R.sub.trans e) (fun _ _ z => z) (fun q xs h => ?_) (fun q a u h y => ?_), Ext.grow (Same.refl _) e fun _ _ z => z⟩
  · by_cases z : q = p
    · subst z; rw [upd_same] at h; cases h; exact absurd rfl (no.1 xs)
    · rw [upd_ne z] at h; exact R.tupB q xs h
  · by_cases z : q = p
    · subst z; rw [upd_same] at h; cases h; exact no.2 _ _ rfl
    · rw [upd_ne z, y] at h; cases h
theorem Rel.layT (R : Rel F B H σ ρ) {p : Addr} {xs : List V} (hp : H p = none) : Rel F (upd B p (.tup xs)) (upd H p (.tup xs)) σ ρ ∧ Ext σ ρ B H ρ (upd B p (.tup xs)) (upd H p (.tup xs)) ∧ Same B (upd B p (.tup xs)) := by
  have hB := (R.free hp).1
  have eH : Same H (upd H p (.tup xs)) := same_upd hp
  have eB : Same B (upd B p (.tup xs)) := same_upd hB
  have nb : ∀ q, H q ≠ none → B q = none → upd B p (.tup xs) q = none := fun q h z => by rw [upd_ne (show q ≠ p from fun y => h (by rw [y]; exact hp))]; exact z
  refine ⟨R.grow eB eH (fun q u h => ?_) nb (fun q ys h => ?_) (fun q a u h y => ?_), Ext.grow eB eH nb, eB⟩
  · by_cases z : q = p
    · subst z; rw [upd_same] at h ⊢; exact h
    · rw [upd_ne z] at h ⊢; exact R.sub q u h
  · by_cases z : q = p
    · subst z; rw [upd_same] at h ⊢; exact h
    · rw [upd_ne z] at h ⊢; exact R.tupB q ys h
  · by_cases z : q = p
    · subst z; rw [upd_same] at h; cases h
    · rw [upd_ne z, y] at h; cases h
end
end Mir
set_option Elab.async false
set_option linter.all false
set_option maxRecDepth 100000
namespace Mir
open PySem L2
variable [Zc]
abbrev PM := Rho → Option (RV × Rho)
def ME (t : TE) (m : PM) : Prop :=
  ∀ (F : Fr) (B H : Hp) (σ : St) (ρ : Rho) (r : RV) (ρ' : Rho) (Q : VK), Rel F B H σ ρ → m ρ = some (r, ρ') →
    (∀ v B' H', Ext σ ρ B H ρ' B' H' → Rel F B' H' σ ρ' → Val F B' H' σ ρ' v r → (∀ p, r.2 = .new → v = .ref p → H p = none) → Q v H') → t σ H Q
def MT (t : TT) (m : Rho → Option (Bool × Rho)) : Prop :=
  ∀ (F : Fr) (B H : Hp) (σ : St) (ρ : Rho) (b : Bool) (ρ' : Rho) (Q : Bool → Hp → Prop), Rel F B H σ ρ → m ρ = some (b, ρ') →
    (∀ B' H', Ext σ ρ B H ρ' B' H' → Rel F B' H' σ ρ' → Q b H') → t σ H Q
def Vl (F : Fr) (B H : Hp) (σ : St) (ρ : Rho) : List V → List RV → Prop
  | [], [] => True
  | v :: vs, r :: rs => (Val F B H σ ρ v r ∧ r.2 ≠ .new) ∧ Vl F B H σ ρ vs rs
  | _, _ => False
def MA (t : TA) (m : Rho → Option (List RV × Rho)) : Prop :=
  ∀ (F : Fr) (B H : Hp) (σ : St) (ρ : Rho) (rs : List RV) (ρ' : Rho) (Q : List V → Hp → Prop), Rel F B H σ ρ → m ρ = some (rs, ρ') →
    (∀ vs B' H', Ext σ ρ B H ρ' B' H' → Rel F B' H' σ ρ' → Vl F B' H' σ ρ' vs rs → Q vs H') → t σ H Q
def sv (m : PM) : PM := fun ρ => match m ρ with
  | some ((d, .new), ρ') => some ((d, .fz), ρ')
  | x => x
theorem sv_kind {m : PM} {ρ ρ' : Rho} {r : RV} (h : sv m ρ = some (r, ρ')) : r.2 ≠ .new := by
  unfold sv at h
  split at h
  · cases h; simp
  · rename_i hx
    intro e
    obtain ⟨d, k⟩ := r
    cases (show k = .new from e)
    exact hx d ρ' h
theorem ME.sv {t : TE} {m : PM} (h : ME t m) : ME t (sv m) := by
  intro F B H σ ρ r ρ' Q R e q
  unfold Mir.sv at e
  split at e
  · rename_i d ρ1 e1
    cases e
    refine h F B H σ ρ _ _ Q R e1 fun v B' H' E R' V' N => ?_
    obtain ⟨B2, R2, rp, s2, k2⟩ := R'.freezeNew V'
    refine q v B2 H' ⟨E.sB.trans s2, fun q o h1 h2 => ?_, E.own, E.ref, E.live⟩ R2 rp (fun _ z => by cases z)
    obtain ⟨h3, h4⟩ := E.keep q o h1 h2
    refine ⟨h3, fun z => ?_⟩
    rw [k2 q fun y => by
      have := N q rfl y
      rw [h1] at this; cases this]
    exact h4 z
  · exact h F B H σ ρ r ρ' Q R e q
def refr (ρ : Rho) (r : RV) : Option RV := match r.2 with
  | .at i => match ρ[i]? with
    | some (.own d) => some (d, .at i)
    | some (.io d) => some (d, .at i)
    | some (.fz d) => some (d, .fz)
    | _ => none
  | _ => some r
section
variable {F : Fr} {B H B' H' : Hp} {σ : St} {ρ ρ' : Rho} {v : V} {r r' : RV}
theorem Val.next (E : Ext σ ρ B H ρ' B' H') (R' : Rel F B' H' σ ρ') (h : Val F B H σ ρ v r) (nn : r.2 ≠ .new) (e : refr ρ' r = some r') : Val F B' H' σ ρ' v r' ∧ r'.2 ≠ .new := by
  obtain ⟨d, k⟩ := r
  cases k with
  | fz => cases e; exact ⟨Rep.mono E.sB h, nn⟩
  | new => exact absurd rfl nn
  | «at» i =>
    obtain ⟨s, h1, h2, h3, h4⟩ := h
    have e' : (match ρ'[i]? with
      | some (.own d) => some (d, Kd.at i)
      | some (.io d) => some (d, Kd.at i)
      | some (.fz d) => some (d, Kd.fz)
      | _ => none) = some r' := e
    cases q : ρ'[i]? with
    | none => rw [q] at e'; cases e'
    | some s' =>
      rw [q] at e'
      cases s' with
      | own c => cases e'; exact ⟨⟨_, q, rfl, rfl, h4⟩, by simp⟩
      | io c => cases e'; exact ⟨⟨_, q, rfl, rfl, h4⟩, by simp⟩
      | fz c =>
        cases e'
        obtain ⟨x, y1, y2⟩ := R'.slot i _ q
        rw [h4] at y1; cases y1
        exact ⟨y2, by simp⟩
      | no => cases e'
      | ex => cases e'
      | ro c => cases e'
  | ro =>
    cases e
    obtain ⟨p, rfl, o, n⟩ := h
    obtain ⟨ob, hp⟩ := o.there
    refine ⟨⟨p, rfl, o.mono E.sB fun u hu => (E.keep p u hu n).1, fun i s h1 h2 => ?_⟩, nn⟩
    obtain ⟨s0, h3, h4⟩ := E.own i s h1 h2
    exact n i s0 h3 h4
end
def ResOk (B H : Hp) (res : D × Bool) (k : VK → Prop) : Prop := match res with
  | (d, false) => ∃ v, Rep B v d ∧ ∀ Q : VK, Q v H → k Q
  | (.list ds, true) => ∃ vs, Reps B vs ds ∧ ∀ Q : VK, (∀ p, H p = none → Q (.ref p) (upd H p (.lst vs))) → k Q
  | (.tuple ds, true) => ∃ vs, Reps B vs ds ∧ ∀ Q : VK, (∀ p, H p = none → Q (.ref p) (upd H p (.tup vs))) → k Q
  | (.dict es, true) => ∃ kvs, RepKs B kvs es ∧ ∀ Q : VK, (∀ p, H p = none → Q (.ref p) (upd H p (.dK kvs))) → k Q
  | _ => False
def resK : D × Bool → RV
  | (d, false) => (d, .fz)
  | (.tuple ds, true) => (.tuple ds, .fz)
  | (d, true) => (d, .new)
theorem res_end {F : Fr} {B H : Hp} {σ : St} {ρ : Rho} {res : D × Bool} {k : VK → Prop} {Q : VK} (R : Rel F B H σ ρ) (h : ResOk B H res k)
    (q : ∀ v B' H', Ext σ ρ B H ρ B' H' → Rel F B' H' σ ρ → Val F B' H' σ ρ v (resK res) → (∀ p, (resK res).2 = .new → v = .ref p → H p = none) → Q v H') : k Q := by
  obtain ⟨d, b⟩ := res
  cases b with
  | false =>
    obtain ⟨v, rp, hk⟩ := h
    exact hk Q (q v B H (Ext.refl _ _ _ _) R rp fun p z => by cases z)
  | true =>
    cases d with
    | list ds =>
      obtain ⟨vs, rp, hk⟩ := h
      refine hk Q fun p hp => ?_
      obtain ⟨R', E⟩ := R.lay (o := .lst vs) hp ⟨(fun _ z => by cases z), fun _ _ z => by cases z⟩
      obtain ⟨hB, hF, nn⟩ := R.free hp
      exact q _ B _ E R' ⟨p, rfl, hB, hF, .lst upd_same rp, nn⟩ fun q _ z => by cases z; exact hp
    | dict es =>
      obtain ⟨kvs, rp, hk⟩ := h
      refine hk Q fun p hp => ?_
      obtain ⟨R', E⟩ := R.lay (o := .dK kvs) hp ⟨(fun _ z => by cases z), fun _ _ z => by cases z⟩
      obtain ⟨hB, hF, nn⟩ := R.free hp
      exact q _ B _ E R' ⟨p, rfl, hB, hF, .dct upd_same rp, nn⟩ fun q _ z => by cases z; exact hp
    | tuple ds =>
      obtain ⟨vs, rp, hk⟩ := h
      refine hk Q fun p hp => ?_
      obtain ⟨R', E, e⟩ := R.layT (xs := vs) hp
      exact q _ _ _ E R' (show Rep _ _ _ from .tup upd_same (rp.mono e)) fun q z => by cases z
    | none => exact h.elim
    | bool _ => exact h.elim
    | int _ => exact h.elim
    | str _ => exact h.elim
def mC (d : D) : PM := fun ρ => some ((d, .fz), ρ)
theorem me_c {v : V} {d : D} (h : ∀ B, Rep B v d) : ME (tC v) (mC d) := by
  intro F B H σ ρ r ρ' Q R e q
  cases e
  exact q v B H (Ext.refl _ _ _ _) R (h B) fun p z => by cases z
theorem me_int {i : Int} : ME (tC (.int i)) (mC (.int i)) := me_c fun _ => .int i
theorem me_bl {b : Bool} : ME (tC (.bl b)) (mC (.bool b)) := me_c fun _ => .bl b
theorem me_non : ME (tC .non) (mC .none) := me_c fun _ => .non
def mVar (i : Nat) : PM := fun ρ => match ρ[i]? with
  | some (.fz d) => some ((d, .fz), ρ)
  | some (.own d) => some ((d, .at i), ρ)
  | some (.io d) => some ((d, .at i), ρ)
  | some (.ro d) => some ((d, .ro), ρ)
  | _ => none
theorem me_var {i : Nat} : ME (tVar i) (mVar i) := by
  intro F B H σ ρ r ρ' Q R e q
  unfold mVar at e
  cases hs : ρ[i]? with
  | none => rw [hs] at e; cases e
  | some s =>
    rw [hs] at e
    have sl := R.slot i s hs
    cases s with
    | no => cases e
    | ex => cases e
    | fz d =>
      cases e
      obtain ⟨v, h1, h2⟩ := sl
      exact ⟨v, h1, q v B H (Ext.refl _ _ _ _) R h2 fun p z => by cases z⟩
    | own d =>
      cases e
      obtain ⟨p, h1, h2, h3⟩ := sl
      exact ⟨_, h1, q _ B H (Ext.refl _ _ _ _) R ⟨_, hs, rfl, rfl, h1⟩ fun p z => by cases z⟩
    | io d =>
      cases e
      obtain ⟨p, h1, h2, h3⟩ := sl
      exact ⟨_, h1, q _ B H (Ext.refl _ _ _ _) R ⟨_, hs, rfl, rfl, h1⟩ fun p z => by cases z⟩
    | ro d =>
      cases e
      obtain ⟨p, h1, h3⟩ := sl
      refine ⟨_, h1, q _ B H (Ext.refl _ _ _ _) R ⟨p, rfl, h3, fun j s h4 h5 h6 => ?_⟩ fun p z => by cases z⟩
      have := R.dist j i s _ p h4 h5 hs rfl h6 h1
      subst this
      rw [hs] at h4; cases h4; cases h5
def OpJ (r : R2) (g : D → D → Option (D × Bool)) : Prop :=
  ∀ (B H : Hp) (x y : V) (c d : D) (res : D × Bool), Same B H → View B H x c → View B H y d → g c d = some res → ResOk B H res fun Q => r x y H Q
def mOp (g : D → D → Option (D × Bool)) (a b : PM) : PM := fun ρ => (sv a ρ).bind fun x => (sv b x.2).bind fun y => (refr y.2 x.1).bind fun r => (g r.1 y.1.1).map fun res => (resK res, y.2)
theorem me_op {r : R2} {g : D → D → Option (D × Bool)} {ta tb : TE} {a b : PM} (J : OpJ r g) (ha : ME ta a) (hb : ME tb b) : ME (tOp r ta tb) (mOp g a b) := by
  intro F B H σ ρ r0 ρ' Q R e q
  obtain ⟨x, e1, e⟩ := Option.bind_eq_some_iff.mp e
  obtain ⟨y, e2, e⟩ := Option.bind_eq_some_iff.mp e
  obtain ⟨r', e3, e⟩ := Option.bind_eq_some_iff.mp e
  obtain ⟨res, e4, e⟩ := Option.map_eq_some_iff.mp e
  cases e
  refine ha.sv F B H σ ρ x.1 x.2 _ R e1 fun v B1 H1 E1 R1 V1 N1 => ?_
  refine hb.sv F B1 H1 σ x.2 y.1 y.2 _ R1 e2 fun u B2 H2 E2 R2 V2 N2 => ?_
  obtain ⟨V3, n3⟩ := V1.next E2 R2 (sv_kind e1) e3
  refine res_end R2 (J B2 H2 v u r'.1 y.1.1 res R2.sub (V3.view R2) (V2.view R2) e4) fun w B3 H3 E3 R3 V4 N4 => ?_
  refine q w B3 H3 (E1.trans (E2.trans E3)) R3 V4 fun p z1 z2 => ?_
  exact E1.live p (E2.live p (N4 p z1 z2))
end Mir
set_option Elab.async false
set_option linter.all false
set_option maxRecDepth 100000
namespace Mir
open PySem L2
variable [Zc]
theorem Ext.fresh {σ : St} {ρ ρ' : Rho} {B H B' H' : Hp} (E : Ext σ ρ B H ρ' B' H') {p : Addr} (h : H' p = none) : H p = none := E.live p h
def UnJ (r : V → Hp → VK → Prop) (g : D → Option (D × Bool)) : Prop := ∀ (B H : Hp) (x : V) (c : D) (res : D × Bool), Same B H → View B H x c → g c = some res → ResOk B H res fun Q => r x H Q
def mUn (g : D → Option (D × Bool)) (a : PM) : PM := fun ρ => (sv a ρ).bind fun x => (g x.1.1).map fun res => (resK res, x.2)
theorem me_un {r : V → Hp → VK → Prop} {g : D → Option (D × Bool)} {ta : TE} {a : PM} (J : UnJ r g) (ha : ME ta a) : ME (tUn r ta) (mUn g a) := by
  intro F B H σ ρ r0 ρ' Q R e q
  obtain ⟨x, e1, e⟩ := Option.bind_eq_some_iff.mp e
  obtain ⟨res, e4, e⟩ := Option.map_eq_some_iff.mp e
  cases e
  refine ha.sv F B H σ ρ x.1 x.2 _ R e1 fun v B1 H1 E1 R1 V1 N1 => ?_
  exact res_end R1 (J B1 H1 v x.1.1 res R1.sub (V1.view R1) e4) fun w B3 H3 E3 R3 V4 N4 => q w B3 H3 (E1.trans E3) R3 V4 fun p z1 z2 => E1.live p (N4 p z1 z2)
def asB : RV × Rho → Option (Bool × Rho)
  | ((.bool b, _), ρ) => some (b, ρ)
  | _ => none
theorem asB_eq {x : RV × Rho} {b : Bool} {ρ : Rho} (h : asB x = some (b, ρ)) : x.1.1 = .bool b ∧ x.2 = ρ := by
  obtain ⟨⟨d, k⟩, ρ0⟩ := x
  cases d with
  | bool c => cases h; exact ⟨rfl, rfl⟩
  | _ => cases h
def mTest (a : PM) : Rho → Option (Bool × Rho) := fun ρ => (sv a ρ).bind asB
theorem mt_test {ta : TE} {a : PM} (ha : ME ta a) : MT (tTest ta) (mTest a) := by
  intro F B H σ ρ b ρ' Q R e q
  obtain ⟨x, e1, e⟩ := Option.bind_eq_some_iff.mp e
  obtain ⟨h1, h2⟩ := asB_eq e
  refine ha.sv F B H σ ρ x.1 x.2 _ R e1 fun v B1 H1 E1 R1 V1 N1 => ?_
  have := V1.view R1
  rw [h1] at this
  rw [h2] at E1 R1
  exact ⟨b, this.bool, q B1 H1 E1 R1⟩
theorem mt_tB {ta : TE} {a : PM} (ha : ME ta a) : MT (tB ta) (mTest a) := mt_test ha
def mAnd (a b : Rho → Option (Bool × Rho)) : Rho → Option (Bool × Rho) := fun ρ => (a ρ).bind fun x => if x.1 = true then b x.2 else some (false, x.2)
def mOr (a b : Rho → Option (Bool × Rho)) : Rho → Option (Bool × Rho) := fun ρ => (a ρ).bind fun x => if x.1 = true then some (true, x.2) else b x.2
def mNot (a : Rho → Option (Bool × Rho)) : Rho → Option (Bool × Rho) := fun ρ => (a ρ).map fun x => (!x.1, x.2)
section
variable {ta tb : TT} {a b : Rho → Option (Bool × Rho)}
theorem mt_and (ha : MT ta a) (hb : MT tb b) : MT (tAnd ta tb) (mAnd a b) := by
  intro F B H σ ρ c ρ' Q R e q
  obtain ⟨x, e1, e⟩ := Option.bind_eq_some_iff.mp e
  refine ha F B H σ ρ x.1 x.2 _ R e1 fun B1 H1 E1 R1 => ?_
  by_cases h : x.1 = true
  · rw [if_pos h] at e ⊢
    exact hb F B1 H1 σ x.2 c ρ' Q R1 e fun B2 H2 E2 R2 => q B2 H2 (E1.trans E2) R2
  · rw [if_neg h] at e ⊢
    cases e
    exact q B1 H1 E1 R1
theorem mt_or (ha : MT ta a) (hb : MT tb b) : MT (tOr ta tb) (mOr a b) := by
  intro F B H σ ρ c ρ' Q R e q
  obtain ⟨x, e1, e⟩ := Option.bind_eq_some_iff.mp e
  refine ha F B H σ ρ x.1 x.2 _ R e1 fun B1 H1 E1 R1 => ?_
  by_cases h : x.1 = true
  · rw [if_pos h] at e ⊢
    cases e
    exact q B1 H1 E1 R1
  · rw [if_neg h] at e ⊢
    exact hb F B1 H1 σ x.2 c ρ' Q R1 e fun B2 H2 E2 R2 => q B2 H2 (E1.trans E2) R2
theorem mt_not (ha : MT ta a) : MT (tNot ta) (mNot a) := by
  intro F B H σ ρ c ρ' Q R e q
  obtain ⟨x, e1, e⟩ := Option.map_eq_some_iff.mp e
  cases e
  exact ha F B H σ ρ x.1 x.2 _ R e1 fun B1 H1 E1 R1 => q B1 H1 E1 R1
end
section
variable {ta tb : TE} {a b : PM}
def mAndV (a b : PM) : PM := fun ρ => (mTest a ρ).bind fun x => if x.1 = true then b x.2 else some ((.bool false, .fz), x.2)
def mOrV (a b : PM) : PM := fun ρ => (mTest a ρ).bind fun x => if x.1 = true then some ((.bool true, .fz), x.2) else b x.2
def mNotV (a : PM) : PM := fun ρ => (mTest a ρ).map fun x => ((.bool !x.1, .fz), x.2)
theorem me_andV (ha : ME ta a) (hb : ME tb b) : ME (tAndV ta tb) (mAndV a b) := by
  intro F B H σ ρ c ρ' Q R e q
  obtain ⟨x, e1, e⟩ := Option.bind_eq_some_iff.mp e
  refine mt_test ha F B H σ ρ x.1 x.2 (fun c H1 => if c = true then tb σ H1 Q else Q (.bl false) H1) R e1 fun B1 H1 E1 R1 => ?_
  by_cases h : x.1 = true
  · rw [if_pos h] at e ⊢
    exact hb F B1 H1 σ x.2 c ρ' Q R1 e fun v B2 H2 E2 R2 V2 N2 => q v B2 H2 (E1.trans E2) R2 V2 fun p z1 z2 => E1.live p (N2 p z1 z2)
  · rw [if_neg h] at e ⊢
    cases e
    exact q _ B1 H1 E1 R1 (.bl false) fun p z => by cases z
theorem me_notV (ha : ME ta a) : ME (tNotV ta) (mNotV a) := by
  intro F B H σ ρ c ρ' Q R e q
  obtain ⟨x, e1, e⟩ := Option.map_eq_some_iff.mp e
  cases e
  exact mt_test ha F B H σ ρ x.1 x.2 (fun c H1 => Q (.bl !c) H1) R e1 fun B1 H1 E1 R1 => q _ B1 H1 E1 R1 (.bl _) fun p z => by cases z
def mIfE (c : Rho → Option (Bool × Rho)) (a b : PM) : PM := fun ρ => (c ρ).bind fun x => if x.1 = true then a x.2 else b x.2
end
def mNil : Rho → Option (List RV × Rho) := fun ρ => some ([], ρ)
def mCons (a : PM) (m : Rho → Option (List RV × Rho)) : Rho → Option (List RV × Rho) := fun ρ => (sv a ρ).bind fun x => (m x.2).bind fun y => (refr y.2 x.1).map fun r => (r :: y.1, y.2)
theorem ma_nil : MA tNil mNil := by
  intro F B H σ ρ rs ρ' Q R e q
  cases e
  exact q [] B H (Ext.refl _ _ _ _) R trivial
theorem ma_cons {ta : TE} {tr : TA} {a : PM} {m : Rho → Option (List RV × Rho)} (ha : ME ta a) (hr : MA tr m) : MA (tCons ta tr) (mCons a m) := by
  intro F B H σ ρ rs ρ' Q R e q
  obtain ⟨x, e1, e⟩ := Option.bind_eq_some_iff.mp e
  obtain ⟨y, e2, e⟩ := Option.bind_eq_some_iff.mp e
  obtain ⟨r, e3, e⟩ := Option.map_eq_some_iff.mp e
  cases e
  refine ha.sv F B H σ ρ x.1 x.2 _ R e1 fun v B1 H1 E1 R1 V1 N1 => ?_
  refine hr F B1 H1 σ x.2 y.1 y.2 _ R1 e2 fun vs B2 H2 E2 R2 V2 => ?_
  exact q (v :: vs) B2 H2 (E1.trans E2) R2 ⟨V1.next E2 R2 (sv_kind e1) e3, V2⟩
def WVal (B : Hp) (σ : St) (v : V) (r : RV) : Prop := match r.2 with
  | .fz => Rep B v r.1
  | .at i => σ[i]? = some (some v)
  | _ => True
def WVl (B : Hp) (σ : St) : List V → List RV → Prop
  | [], [] => True
  | v :: vs, r :: rs => WVal B σ v r ∧ WVl B σ vs rs
  | _, _ => False
theorem Vl.weak {F : Fr} {B H : Hp} {σ : St} {ρ : Rho} : ∀ {vs : List V} {rs : List RV}, Vl F B H σ ρ vs rs → WVl B σ vs rs
  | [], [], _ => trivial
  | v :: vs, r :: rs, ⟨⟨h, n⟩, t⟩ => by
    refine ⟨?_, Vl.weak t⟩
    obtain ⟨d, k⟩ := r
    cases k with
    | fz => exact h
    | «at» i => obtain ⟨_, _, _, _, e⟩ := h; exact e
    | new => trivial
    | ro => trivial
theorem WVl.mono {B B' : Hp} {σ : St} (e : Same B B') : ∀ {vs : List V} {rs : List RV}, WVl B σ vs rs → WVl B' σ vs rs
  | [], [], _ => trivial
  | v :: vs, r :: rs, ⟨h, t⟩ => by
    refine ⟨?_, WVl.mono e t⟩
    obtain ⟨d, k⟩ := r
    cases k with
    | fz => exact Rep.mono e h
    | «at» i => exact h
    | new => trivial
    | ro => trivial
def fzOne (r : RV) (ρ : Rho) : Option (D × Rho) := match r.2 with
  | .fz => some (r.1, ρ)
  | .at i => match ρ[i]? with
    | some (.own d) => some (d, ρ.set i (.fz d))
    | some (.fz d) => some (d, ρ)
    | _ => none
  | _ => none
def fzAll : List RV → Rho → Option (List D × Rho)
  | [], ρ => some ([], ρ)
  | r :: rs, ρ => (fzOne r ρ).bind fun x => (fzAll rs x.2).map fun y => (x.1 :: y.1, y.2)
section
variable {F : Fr} {B H : Hp} {σ : St} {ρ ρ' : Rho}
theorem Rel.frz (R : Rel F B H σ ρ) {v : V} {r : RV} {d : D} (w : WVal B σ v r) (e : fzOne r ρ = some (d, ρ')) : ∃ B', Rel F B' H σ ρ' ∧ Rep B' v d ∧ Ext σ ρ B H ρ' B' H := by
  obtain ⟨c, k⟩ := r
  cases k with
  | fz => cases e; exact ⟨B, R, w, Ext.refl _ _ _ _⟩
  | new => cases e
  | ro => cases e
  | «at» i =>
    have e' : (match ρ[i]? with
      | some (.own d) => some (d, ρ.set i (.fz d))
      | some (.fz d) => some (d, ρ)
      | _ => none) = some (d, ρ') := e
    cases q : ρ[i]? with
    | none => rw [q] at e'; cases e'
    | some s =>
      rw [q] at e'
      cases s with
      | own c => cases e'; exact R.freezeAt q w
      | fz c =>
        cases e'
        obtain ⟨x, h1, h2⟩ := R.slot i _ q
        have w' : σ[i]? = some (some v) := w
        rw [w'] at h1; cases h1
        exact ⟨B, R, h2, Ext.refl _ _ _ _⟩
      | no => cases e'
      | ex => cases e'
      | io c => cases e'
      | ro c => cases e'
theorem Rel.frzL : ∀ {rs : List RV} {vs : List V} {ds : List D} {B : Hp} {ρ ρ' : Rho}, Rel F B H σ ρ → WVl B σ vs rs → fzAll rs ρ = some (ds, ρ') → ∃ B', Rel F B' H σ ρ' ∧ Reps B' vs ds ∧ Ext σ ρ B H ρ' B' H
  | [], [], ds, B, ρ, ρ', R, _, e => by cases e; exact ⟨B, R, .nil, Ext.refl _ _ _ _⟩
  | r :: rs, v :: vs, ds, B, ρ, ρ', R, ⟨w, ws⟩, e => by
    obtain ⟨x, e1, e⟩ := Option.bind_eq_some_iff.mp e
    obtain ⟨y, e2, e⟩ := Option.map_eq_some_iff.mp e
    cases e
    obtain ⟨B1, R1, rp, E1⟩ := R.frz w e1
    obtain ⟨B2, R2, rps, E2⟩ := Rel.frzL R1 (ws.mono E1.sB) e2
    exact ⟨B2, R2, .cons (rp.mono E2.sB) rps, E1.trans E2⟩
  | [], _ :: _, _, _, _, _, _, h, _ => h.elim
  | _ :: _, [], _, _, _, _, _, h, _ => h.elim
end
noncomputable def mTup (m : Rho → Option (List RV × Rho)) : PM := fun ρ => (m ρ).bind fun x => (fzAll x.1 x.2).bind fun y => cIf (y.1.length ≤ sizeLine) (some ((.tuple y.1, .fz), y.2)) none
noncomputable def mLst (m : Rho → Option (List RV × Rho)) : PM := fun ρ => (m ρ).bind fun x => (fzAll x.1 x.2).bind fun y => cIf (y.1.length ≤ sizeLine) (some ((.list y.1, .new), y.2)) none
theorem me_tup {t : TA} {m : Rho → Option (List RV × Rho)} (h : MA t m) : ME (tTup t) (mTup m) := by
  intro F B H σ ρ r ρ' Q R e q
  obtain ⟨x, e1, e⟩ := Option.bind_eq_some_iff.mp e
  obtain ⟨y, e2, e⟩ := Option.bind_eq_some_iff.mp e
  obtain ⟨hz, e⟩ := cIf_eq e
  · cases e
    refine h F B H σ ρ x.1 x.2 _ R e1 fun vs B1 H1 E1 R1 V1 => ?_
    obtain ⟨B2, R2, rp, E2⟩ := Rel.frzL R1 V1.weak e2
    refine ⟨by rw [rp.length]; exact hz, fun p hp => ?_⟩
    have := res_end (res := (.tuple y.1, true)) (k := fun Q => ∀ p, H1 p = none → Q (.ref p) (upd H1 p (.tup vs))) (Q := Q) R2 ⟨vs, rp, fun Q h => h⟩ fun v B' H' E R' V' N => q v B' H' (E1.trans (E2.trans E)) R' V' fun p z => by cases z
    exact this p hp
theorem me_lst {t : TA} {m : Rho → Option (List RV × Rho)} (h : MA t m) : ME (tLst t) (mLst m) := by
  intro F B H σ ρ r ρ' Q R e q
  obtain ⟨x, e1, e⟩ := Option.bind_eq_some_iff.mp e
  obtain ⟨y, e2, e⟩ := Option.bind_eq_some_iff.mp e
  obtain ⟨hz, e⟩ := cIf_eq e
  · cases e
    refine h F B H σ ρ x.1 x.2 _ R e1 fun vs B1 H1 E1 R1 V1 => ?_
    obtain ⟨B2, R2, rp, E2⟩ := Rel.frzL R1 V1.weak e2
    refine ⟨by rw [rp.length]; exact hz, fun p hp => ?_⟩
    have := res_end (res := (.list y.1, true)) (k := fun Q => ∀ p, H1 p = none → Q (.ref p) (upd H1 p (.lst vs))) (Q := Q) R2 ⟨vs, rp, fun Q h => h⟩ fun v B' H' E R' V' N => q v B' H' (E1.trans (E2.trans E)) R' V' fun p z1 z2 => E1.live p (N p z1 z2)
    exact this p hp
def Views (B H : Hp) : List V → List D → Prop
  | [], [] => True
  | v :: vs, d :: ds => View B H v d ∧ Views B H vs ds
  | _, _ => False
theorem Vl.views {F : Fr} {B H : Hp} {σ : St} {ρ : Rho} (R : Rel F B H σ ρ) : ∀ {vs : List V} {rs : List RV}, Vl F B H σ ρ vs rs → Views B H vs (rs.map (·.1))
  | [], [], _ => trivial
  | v :: vs, r :: rs, ⟨⟨h, n⟩, t⟩ => ⟨h.view R, Vl.views R t⟩
def CallJ (r : List V → Hp → VK → Prop) (g : List D → Option (D × Bool)) : Prop := ∀ (B H : Hp) (vs : List V) (ds : List D) (res : D × Bool), Same B H → Views B H vs ds → g ds = some res → ResOk B H res fun Q => r vs H Q
def mCB (g : List D → Option (D × Bool)) (m : Rho → Option (List RV × Rho)) : PM := fun ρ => (m ρ).bind fun x => (g (x.1.map (·.1))).map fun res => (resK res, x.2)
theorem me_cb {r : List V → Hp → VK → Prop} {g : List D → Option (D × Bool)} {t : TA} {m : Rho → Option (List RV × Rho)} (J : CallJ r g) (h : MA t m) : ME (tCB r t) (mCB g m) := by
  intro F B H σ ρ r0 ρ' Q R e q
  obtain ⟨x, e1, e⟩ := Option.bind_eq_some_iff.mp e
  obtain ⟨res, e4, e⟩ := Option.map_eq_some_iff.mp e
  cases e
  refine h F B H σ ρ x.1 x.2 _ R e1 fun vs B1 H1 E1 R1 V1 => ?_
  exact res_end R1 (J B1 H1 vs _ res R1.sub (V1.views R1) e4) fun w B3 H3 E3 R3 V4 N4 => q w B3 H3 (E1.trans E3) R3 V4 fun p z1 z2 => E1.live p (N4 p z1 z2)
def asI : RV × Rho → Option (Int × Rho)
  | ((.int i, _), ρ) => some (i, ρ)
  | _ => none
theorem asI_eq {x : RV × Rho} {b : Int} {ρ : Rho} (h : asI x = some (b, ρ)) : x.1.1 = .int b ∧ x.2 = ρ := by
  obtain ⟨⟨d, k⟩, ρ0⟩ := x
  cases d with
  | int c => cases h; exact ⟨rfl, rfl⟩
  | _ => cases h
def mPart (a : PM) : Rho → Option (Option Int × Rho) := fun ρ => ((sv a ρ).bind asI).map fun x => (some x.1, x.2)
def MO (t : TO) (m : Rho → Option (Option Int × Rho)) : Prop :=
  ∀ (F : Fr) (B H : Hp) (σ : St) (ρ : Rho) (b : Option Int) (ρ' : Rho) (Q : Option Int → Hp → Prop), Rel F B H σ ρ → m ρ = some (b, ρ') →
    (∀ B' H', Ext σ ρ B H ρ' B' H' → Rel F B' H' σ ρ' → Q b H') → t σ H Q
theorem mo_some {ta : TE} {a : PM} (ha : ME ta a) : MO (tPart ta) (mPart a) := by
  intro F B H σ ρ b ρ' Q R e q
  obtain ⟨y, e1, e⟩ := Option.map_eq_some_iff.mp e
  obtain ⟨x, e2, e3⟩ := Option.bind_eq_some_iff.mp e1
  cases e
  obtain ⟨h1, h2⟩ := asI_eq (b := y.1) (ρ := y.2) e3
  refine ha.sv F B H σ ρ x.1 x.2 _ R e2 fun v B1 H1 E1 R1 V1 N1 => ?_
  have := V1.view R1
  rw [h1] at this
  rw [h2] at E1 R1
  exact ⟨y.1, this.int, q B1 H1 E1 R1⟩
def SlJ (r : V → Option Int → Option Int → Hp → VK → Prop) (g : D → Option Int → Option Int → Option (D × Bool)) : Prop :=
  ∀ (B H : Hp) (x : V) (c : D) (l u : Option Int) (res : D × Bool), Same B H → View B H x c → g c l u = some res → ResOk B H res fun Q => r x l u H Q
def mSl (g : D → Option Int → Option Int → Option (D × Bool)) (a : PM) (l u : Rho → Option (Option Int × Rho)) : PM := fun ρ => (sv a ρ).bind fun x => (l x.2).bind fun y => (u y.2).bind fun z => (refr z.2 x.1).bind fun r => (g r.1 y.1 z.1).map fun res => (resK res, z.2)
theorem me_sl {r : V → Option Int → Option Int → Hp → VK → Prop} {g : D → Option Int → Option Int → Option (D × Bool)} {ta : TE} {tl tu : TO} {a : PM} {l u : Rho → Option (Option Int × Rho)} (J : SlJ r g) (ha : ME ta a) (hl : MO tl l) (hu : MO tu u) : ME (tSl r ta tl tu) (mSl g a l u) := by
  intro F B H σ ρ r0 ρ' Q R e q
  obtain ⟨x, e1, e⟩ := Option.bind_eq_some_iff.mp e
  obtain ⟨y, e2, e⟩ := Option.bind_eq_some_iff.mp e
  obtain ⟨z, e3, e⟩ := Option.bind_eq_some_iff.mp e
  obtain ⟨r', e4, e⟩ := Option.bind_eq_some_iff.mp e
  obtain ⟨res, e5, e⟩ := Option.map_eq_some_iff.mp e
  cases e
  refine ha.sv F B H σ ρ x.1 x.2 _ R e1 fun v B1 H1 E1 R1 V1 N1 => ?_
  refine hl F B1 H1 σ x.2 y.1 y.2 _ R1 e2 fun B2 H2 E2 R2 => ?_
  refine hu F B2 H2 σ y.2 z.1 z.2 _ R2 e3 fun B3 H3 E3 R3 => ?_
  obtain ⟨V3, n3⟩ := V1.next (E2.trans E3) R3 (sv_kind e1) e4
  exact res_end R3 (J B3 H3 v r'.1 y.1 z.1 res R3.sub (V3.view R3) e5) fun w B4 H4 E4 R4 V4 N4 => q w B4 H4 ((E1.trans (E2.trans E3)).trans E4) R4 V4 fun p z1 z2 => (E1.trans (E2.trans E3)).live p (N4 p z1 z2)
end Mir
set_option Elab.async false
set_option linter.all false
set_option maxRecDepth 100000
namespace Mir
open PySem L2
variable [Zc]
mutual
def pureD : D → Bool
  | .none => true
  | .bool _ => true
  | .int _ => true
  | .str _ => true
  | .list _ => false
  | .tuple ds => pureDs ds
  | .dict _ => false
def pureDs : List D → Bool
  | [] => true
  | d :: ds => pureD d && pureDs ds
end
mutual
theorem Rep.ofPure {B B' : Hp} (k : ∀ q xs, B q = some (.tup xs) → B' q = some (.tup xs)) : ∀ {v : V} {d : D}, Rep B v d → pureD d = true → Rep B' v d
  | _, _, .non, _ => .non
  | _, _, .bl b, _ => .bl b
  | _, _, .int i, _ => .int i
  | _, _, .str x, _ => .str x
  | _, _, .lst _ _, h => by simp [pureD] at h
  | _, _, .dct _ _, h => by simp [pureD] at h
  | _, _, .tup h r, e => .tup (k _ _ h) (Reps.ofPure k r (by simpa [pureD] using e))
theorem Reps.ofPure {B B' : Hp} (k : ∀ q xs, B q = some (.tup xs) → B' q = some (.tup xs)) : ∀ {v : List V} {d : List D}, Reps B v d → pureDs d = true → Reps B' v d
  | _, _, .nil, _ => .nil
  | _, _, .cons a b, e => by
    simp only [pureDs, Bool.and_eq_true] at e
    exact .cons (Rep.ofPure k a e.1) (Reps.ofPure k b e.2)
end
theorem RepKs.ofPure {B B' : Hp} (k : ∀ q xs, B q = some (.tup xs) → B' q = some (.tup xs)) : ∀ {v : List (Key × V)} {d : List (D × D)}, RepKs B v d → pureDs (d.map (·.2)) = true → RepKs B' v d
  | _, _, .nil, _ => .nil
  | _, _, .cons c a b, e => by
    simp only [List.map_cons, pureDs, Bool.and_eq_true] at e
    exact .cons c (Rep.ofPure k a e.1) (RepKs.ofPure k b e.2)
def pureR (d : D) (o : Bool) : Bool := match o, d with
  | true, .list ds => pureDs ds
  | true, .dict es => pureDs (es.map (·.2))
  | true, _ => false
  | false, d => pureD d
structure Post (B H : Hp) (v : V) (B' H' : Hp) (d : D) (o : Bool) : Prop where
  eH : Same H H'
  eB : Same B B'
  sub : Same B' H'
  nb : ∀ q, H q ≠ none → B q = none → B' q = none
  tB : ∀ q xs, H' q = some (.tup xs) → B' q = some (.tup xs)
  nz : ∀ q o u, H' q = some (.frz o u) → H q ≠ none
  val : if o = true then ∃ p, v = .ref p ∧ H p = none ∧ B' p = none ∧ Own B' H' p d else Rep B' v d
def spM (f : List D → Option (D × Bool)) : Sp := fun vs H Q _ => ∃ B ds d o, Same B H ∧ (∀ q xs, H q = some (.tup xs) → B q = some (.tup xs)) ∧ Reps B vs ds ∧ f ds = some (d, o) ∧ ∀ v B' H', Post B H v B' H' d o → Q v H'
def kO (d : D) (o : Bool) : RV := (d, if o = true then .new else .fz)
def mCall (f : List D → Option (D × Bool)) (m : Rho → Option (List RV × Rho)) : PM := fun ρ => (m ρ).bind fun x => (f (x.1.map (·.1))).bind fun w =>
  if pureR w.1 w.2 = true then some (kO w.1 w.2, x.2) else (fzAll x.1 x.2).map fun y => (kO w.1 w.2, y.2)
theorem Views.reps {B H : Hp} (e : Same B H) : ∀ {vs : List V} {ds : List D}, Views B H vs ds → Reps H vs ds
  | [], [], _ => .nil
  | v :: vs, d :: ds, ⟨h, t⟩ => .cons (h.rep e) (Views.reps e t)
theorem fzAll_eq : ∀ {rs : List RV} {ρ ρ' : Rho} {ds : List D}, (∀ r ∈ rs, ∀ i, r.2 = .at i → ∃ s, ρ[i]? = some s ∧ slD s = r.1) → fzAll rs ρ = some (ds, ρ') → ds = rs.map (·.1)
  | [], _, _, _, _, e => by cases e; rfl
  | r :: rs, ρ, ρ', ds, h, e => by
    obtain ⟨x, e1, e⟩ := Option.bind_eq_some_iff.mp e
    obtain ⟨y, e2, e⟩ := Option.map_eq_some_iff.mp e
    cases e
    have hx : x.1 = r.1 ∧ ∀ (i : Nat) (s : Sl), ρ[i]? = some s → ∃ s', x.2[i]? = some s' ∧ slD s' = slD s := by
      obtain ⟨d, k⟩ := r
      cases k with
      | fz => cases e1; exact ⟨rfl, fun i s h => ⟨s, h, rfl⟩⟩
      | new => cases e1
      | ro => cases e1
      | «at» i =>
        obtain ⟨s, h1, h2⟩ := h (d, .at i) (by simp) i rfl
        have e' : (match ρ[i]? with
          | some (.own d) => some (d, ρ.set i (.fz d))
          | some (.fz d) => some (d, ρ)
          | _ => none) = some x := e1
        rw [h1] at e'
        cases s with
        | own c =>
          cases e'
          refine ⟨h2, fun j t hj => ?_⟩
          by_cases z : j = i
          · subst z
            rw [h1] at hj; cases hj
            obtain ⟨hl, _⟩ := List.getElem?_eq_some_iff.mp h1
            exact ⟨.fz c, by rw [List.getElem?_set_self hl], rfl⟩
          · exact ⟨t, by rw [List.getElem?_set_ne (fun e => z e.symm)]; exact hj, rfl⟩
        | fz c => cases e'; exact ⟨h2, fun i s h => ⟨s, h, rfl⟩⟩
        | no => cases e'
        | ex => cases e'
        | io c => cases e'
        | ro c => cases e'
    rw [List.map_cons, hx.1, fzAll_eq (ρ := x.2) (fun r hr i hi => ?_) e2]
    obtain ⟨s, h1, h2⟩ := h r (List.mem_cons_of_mem _ hr) i hi
    obtain ⟨s', h3, h4⟩ := hx.2 i s h1
    exact ⟨s', h3, h4.trans h2⟩
theorem Vl.at {F : Fr} {B H : Hp} {σ : St} {ρ : Rho} : ∀ {vs : List V} {rs : List RV}, Vl F B H σ ρ vs rs → ∀ r ∈ rs, ∀ i, r.2 = .at i → ∃ s, ρ[i]? = some s ∧ slD s = r.1
  | [], [], _, r', hr, i, hi => by cases hr
  | v :: vs, r :: rs, ⟨⟨h, _⟩, t⟩, r', hr, i, hi => by
    rcases List.mem_cons.mp hr with rfl | hr
    · obtain ⟨d, k⟩ := r'
      cases (show k = .at i from hi)
      obtain ⟨s, h1, _, h2, _⟩ := h
      exact ⟨s, h1, h2⟩
    · exact Vl.at t r' hr i hi
theorem me_call {f : List D → Option (D × Bool)} {E : XK} {t : TA} {m : Rho → Option (List RV × Rho)} (h : MA t m) : ME (tCall (spM f) [] E t) (mCall f m) := by
  intro F B H σ ρ r0 ρ' Q R e q
  obtain ⟨x, e1, e⟩ := Option.bind_eq_some_iff.mp e
  obtain ⟨w, e2, e⟩ := Option.bind_eq_some_iff.mp e
  refine h F B H σ ρ x.1 x.2 _ R e1 fun vs B1 H1 E1 R1 V1 => ?_
  rw [List.append_nil]
  by_cases hp : pureR w.1 w.2 = true
  · rw [if_pos hp] at e
    cases e
    refine ⟨H1, _, w.1, w.2, Same.refl _, fun _ _ z => z, (V1.views R1).reps R1.sub, e2, fun v B' H' P => ?_⟩
    let B2 : Hp := fun q => if H1 q = none then B' q else B1 q
    have old : ∀ q, H1 q ≠ none → B2 q = B1 q := fun q z => if_neg z
    have new : ∀ q, H1 q = none → B2 q = B' q := fun q z => if_pos z
    have eB : Same B1 B2 := fun q o z => by rw [old q (by rw [R1.sub q o z]; simp)]; exact z
    have sub : Same B2 H' := fun q o z => by
      by_cases y : H1 q = none
      · rw [new q y] at z; exact P.sub q o z
      · rw [old q y] at z; exact P.eH q o (R1.sub q o z)
    have nb : ∀ q, H1 q ≠ none → B1 q = none → B2 q = none := fun q y z => by rw [old q y]; exact z
    have tB : ∀ q xs, H' q = some (.tup xs) → B2 q = some (.tup xs) := fun q xs z => by
      cases y : H1 q with
      | none => rw [new q y]; exact P.tB q xs z
      | some o =>
        have := P.eH q o y
        rw [z] at this
        cases this
        rw [old q (by rw [y]; simp)]; exact R1.tupB q xs y
    have kt : ∀ q xs, B' q = some (.tup xs) → B2 q = some (.tup xs) := fun q xs z => tB q xs (P.sub q _ z)
    have R2 := R1.grow eB P.eH sub nb tB P.nz
    have E2 : Ext σ x.2 B1 H1 x.2 B2 H' := Ext.grow eB P.eH nb
    obtain ⟨d, o⟩ := w
    cases o with
    | false =>
      have pv : Rep B' v d := P.val
      exact q v B2 H' (E1.trans E2) R2 (show Rep B2 v d from pv.ofPure kt hp) fun p z => by cases z
    | true =>
      obtain ⟨p, rfl, h1, h2, h3⟩ : ∃ p, v = .ref p ∧ H1 p = none ∧ B' p = none ∧ Own B' H' p d := P.val
      have fr := R1.free h1
      refine q _ B2 H' (E1.trans E2) R2 ⟨p, rfl, by rw [new p h1]; exact h2, fr.2.1, ?_, fr.2.2⟩ fun p' _ z => by cases z; exact E1.live p h1
      cases h3 with
      | lst h r => exact .lst h (r.ofPure kt hp)
      | dct h r => exact .dct h (r.ofPure kt hp)
  · rw [if_neg hp] at e
    obtain ⟨y, e3, e⟩ := Option.map_eq_some_iff.mp e
    cases e
    obtain ⟨B2, R2, rp, E2⟩ := Rel.frzL R1 V1.weak e3
    have hd := fzAll_eq V1.at e3
    rw [hd] at rp
    refine ⟨B2, _, w.1, w.2, R2.sub, R2.tupB, rp, e2, fun v B' H' P => ?_⟩
    have R3 := R2.grow P.eB P.eH P.sub P.nb P.tB P.nz
    have E3 : Ext σ y.2 B2 H1 y.2 B' H' := Ext.grow P.eB P.eH P.nb
    obtain ⟨d, o⟩ := w
    cases o with
    | false =>
      have pv : Rep B' v d := P.val
      exact q v B' H' (E1.trans (E2.trans E3)) R3 pv fun p z => by cases z
    | true =>
      obtain ⟨p, rfl, h1, h2, h3⟩ : ∃ p, v = .ref p ∧ H1 p = none ∧ B' p = none ∧ Own B' H' p d := P.val
      have fr := R2.free h1
      exact q _ B' H' (E1.trans (E2.trans E3)) R3 ⟨p, rfl, h2, fr.2.1, h3, fr.2.2⟩ fun p' _ z => by cases z; exact E1.live p h1
def YldOk (B H : Hp) (x : V) (H' : Hp) (d : D) : Prop := (H' = H ∧ Rep B x d) ∨ ∃ p xs cs, d = .tuple cs ∧ x = .ref p ∧ H p = none ∧ H' = upd H p (.tup xs) ∧ Reps B xs cs
def ItOk (G B : Hp) (J : It) (ds : List D) : Prop := ∀ H, Same G H → J.stop ds.length H ∧ ∀ (i : Nat) (d : D), ds[i]? = some d → J.go i H ∧ ∀ x H', J.yld i H x H' → YldOk B H x H' d
theorem ItOk.mono {G B B' : Hp} {J : It} {ds : List D} (h : ItOk G B J ds) (e : Same B B') : ItOk G B' J ds := fun H s => ⟨(h H s).1, fun i d hd => ⟨((h H s).2 i d hd).1, fun x H' y => by
  rcases ((h H s).2 i d hd).2 x H' y with ⟨h1, h2⟩ | ⟨p, xs, cs, h1, h2, h3, h4, h5⟩
  · exact .inl ⟨h1, h2.mono e⟩
  · exact .inr ⟨p, xs, cs, h1, h2, h3, h4, h5.mono e⟩⟩⟩
def MI (t : TI) (m : Rho → Option (List D × Rho)) : Prop :=
  ∀ (F : Fr) (B H : Hp) (σ : St) (ρ : Rho) (ds : List D) (ρ' : Rho) (Q : It → Hp → Prop), Rel F B H σ ρ → m ρ = some (ds, ρ') →
    (∀ J B' H', Ext σ ρ B H ρ' B' H' → Rel F B' H' σ ρ' → ItOk H' B' J ds → Q J H') → t σ H Q
def MF (t : TI) (m : Rho → Option (List D × Rho)) : Prop :=
  ∀ (F : Fr) (B H : Hp) (σ : St) (ρ : Rho) (ds : List D) (ρ' : Rho) (Q : It → Hp → Prop), Rel F B H σ ρ → m ρ = some (ds, ρ') →
    (∀ J B' H', Ext σ ρ B H ρ' B' H' → Rel F B' H' σ ρ' → ItOk B' B' J ds → Q J H') → t σ H Q
theorem rd_sq {K : PySem.W.Frag} {H : Hp} {p : Addr} {xs : List V} (h : Rd H p (.lst xs)) : SqL K H p xs := .inl h
theorem itl_ok {K : PySem.W.Frag} {G B : Hp} {p : Addr} {xs : List V} {ds : List D} (h : Rd G p (.lst xs)) (r : Reps B xs ds) : ItOk G B (Itl K p) ds := fun H s => by
  have h' : SqL K H p xs := rd_sq (rd_same s h)
  refine ⟨⟨xs, h', by rw [r.length]; exact Nat.le_refl _⟩, fun i d hd => ?_⟩
  obtain ⟨x, h1, h2⟩ := r.get i d hd
  refine ⟨⟨xs, x, h', h1⟩, fun y H' hy => .inl ⟨hy.1, ?_⟩⟩
  have := hy.2 xs h'
  rw [h1] at this
  cases this
  exact h2
def asL : D → Option (List D)
  | .list ds => some ds
  | _ => none
def asT : D → Option (List D)
  | .tuple ds => some ds
  | _ => none
theorem asL_eq {d : D} {ds : List D} (h : asL d = some ds) : d = .list ds := by cases d <;> first | cases h; rfl | cases h
def mItL (a : PM) : Rho → Option (List D × Rho) := fun ρ => (sv a ρ).bind fun x => (asL x.1.1).map fun ds => (ds, x.2)
def mFoL (a : PM) : Rho → Option (List D × Rho) := fun ρ => (sv a ρ).bind fun x => (fzOne x.1 x.2).bind fun y => (asL y.1).map fun ds => (ds, y.2)
section
variable {K : PySem.W.Frag} {ta : TE} {a : PM}
theorem mf_list (ha : ME ta a) : MF (iList K ta) (mFoL a) := by
  intro F B H σ ρ ds ρ' Q R e q
  obtain ⟨x, e1, e⟩ := Option.bind_eq_some_iff.mp e
  obtain ⟨y, e3, e⟩ := Option.bind_eq_some_iff.mp e
  obtain ⟨ds', e2, e⟩ := Option.map_eq_some_iff.mp e
  cases e
  refine ha.sv F B H σ ρ x.1 x.2 _ R e1 fun v B1 H1 E1 R1 V1 N1 => ?_
  have w : WVal B1 σ v x.1 := (Vl.weak (F := F) (H := H1) (ρ := x.2) (vs := [v]) (rs := [x.1]) ⟨⟨V1, sv_kind e1⟩, trivial⟩).1
  obtain ⟨B2, R2, rp, E2⟩ := R1.frz w e3
  rw [asL_eq e2] at rp
  cases rp with
  | lst h r => exact ⟨_, rfl, ⟨_, rd_sq (rd_same R2.sub h)⟩, q _ B2 H1 (E1.trans E2) R2 (itl_ok h r)⟩
end
def rngD (lo : Int) (n : Nat) : List D := (List.range n).map fun (k : Nat) => PyData.int (lo + (k : Int))
theorem itr_ok {G B : Hp} {lo : Int} {n : Nat} : ItOk G B (Itr lo n) (rngD lo n) := fun H _ => by
  refine ⟨by simp [rngD, Itr], fun i d hd => ?_⟩
  rw [rngD, List.getElem?_map] at hd
  obtain ⟨k, h1, h2⟩ := Option.map_eq_some_iff.mp hd
  have hk := List.getElem?_eq_some_iff.mp h1
  obtain ⟨hl, hk⟩ := hk
  rw [List.getElem_range] at hk
  rw [List.length_range] at hl
  subst hk
  refine ⟨hl, fun x H' hy => .inl ⟨hy.1, ?_⟩⟩
  rw [hy.2, ← h2]
  exact .int _
noncomputable def rg1 : List RV × Rho → Option (List D × Rho)
  | ([(.int j, _)], ρ) => cIf (-(2 ^ 62) ≤ j ∧ j < 2 ^ 62) (some (rngD 0 j.toNat, ρ)) none
  | _ => none
noncomputable def rg2 : List RV × Rho → Option (List D × Rho)
  | ([(.int i, _), (.int j, _)], ρ) => cIf (-(2 ^ 62) ≤ i ∧ i < 2 ^ 62 ∧ -(2 ^ 62) ≤ j ∧ j < 2 ^ 62) (some (rngD i (j - i).toNat, ρ)) none
  | _ => none
noncomputable def mRg1 (m : Rho → Option (List RV × Rho)) : Rho → Option (List D × Rho) := fun ρ => (m ρ).bind rg1
noncomputable def mRg2 (m : Rho → Option (List RV × Rho)) : Rho → Option (List D × Rho) := fun ρ => (m ρ).bind rg2
section
variable {ta : TA} {m : Rho → Option (List RV × Rho)}
theorem rng1_gen (h : MA ta m) (F : Fr) (B H : Hp) (σ : St) (ρ : Rho) (ds : List D) (ρ' : Rho) (Q : It → Hp → Prop) (R : Rel F B H σ ρ) (e : mRg1 m ρ = some (ds, ρ'))
    (q : ∀ J B' H', Ext σ ρ B H ρ' B' H' → Rel F B' H' σ ρ' → (∀ G, ItOk G B' J ds) → Q J H') : iRng1 ta σ H Q := by
  obtain ⟨x, e1, e⟩ := Option.bind_eq_some_iff.mp e
  refine h F B H σ ρ x.1 x.2 _ R e1 fun vs B1 H1 E1 R1 V1 => ?_
  obtain ⟨rs, ρ2⟩ := x
  unfold rg1 at e
  split at e
  · rename_i j k ρ3 heq
    cases heq
    obtain ⟨hj, e⟩ := cIf_eq e
    · cases e
      match vs, V1 with
      | [v], ⟨⟨h1, _⟩, _⟩ =>
        have : v = .int j := (h1.view R1).int
        subst this
        exact ⟨j, rfl, hj.1, hj.2, q _ B1 H1 E1 R1 fun G => itr_ok⟩
  · cases e
theorem mi_rng1 (h : MA ta m) : MI (iRng1 ta) (mRg1 m) := fun F B H σ ρ ds ρ' Q R e q => rng1_gen h F B H σ ρ ds ρ' Q R e fun J B' H' E R' I => q J B' H' E R' (I _)
theorem mf_rng1 (h : MA ta m) : MF (iRng1 ta) (mRg1 m) := fun F B H σ ρ ds ρ' Q R e q => rng1_gen h F B H σ ρ ds ρ' Q R e fun J B' H' E R' I => q J B' H' E R' (I _)
end
end Mir
set_option Elab.async false
set_option linter.all false
set_option maxRecDepth 100000
namespace Mir
open PySem L2
variable [Zc]
section
variable {K : PySem.W.Frag} {ta : TA} {m : Rho → Option (List RV × Rho)}
end
def demote (ρ : Rho) (i : Nat) : Sl := match ρ[i]? with
  | some (.own d) => .ro d
  | some (.io d) => .ro d
  | some .ex => .no
  | some s => s
  | none => .no
def asF : RV → Option D
  | (d, .fz) => some d
  | _ => none
theorem asF_eq {r : RV} {d : D} (h : asF r = some d) : r = (d, .fz) := by
  obtain ⟨c, k⟩ := r
  cases k with
  | fz => cases h; rfl
  | _ => cases h
def compL (c : Rho → Option (Bool × Rho)) (e : PM) (ρn : Rho) : List D → Option (List D)
  | [] => some []
  | d :: ds => (c (.fz d :: ρn)).bind fun b => if b.1 = true then (sv e (.fz d :: ρn)).bind fun y => (asF y.1).bind fun z => (compL c e ρn ds).map (z :: ·) else compL c e ρn ds
noncomputable def mLC (fr : List (Str × Nat)) (it : Rho → Option (List D × Rho)) (c : Rho → Option (Bool × Rho)) (e : PM) : PM := fun ρ => (it ρ).bind fun x => (compL c e (fr.map fun p => demote x.2 p.2) x.1).bind fun ys => cIf (ys.length < sizeLine) (some ((.list ys, .new), x.2)) none
def mYes : Rho → Option (Bool × Rho) := fun ρ => some (true, ρ)
theorem mt_yes : MT tYes mYes := by
  intro F B H σ ρ b ρ' Q R e q
  cases e
  exact q B H (Ext.refl _ _ _ _) R
def F0 (H : Hp) : Fr := ⟨fun _ => none, fun _ => none, [], fun q => H q ≠ none⟩
theorem demote_ex {ρ : Rho} {i : Nat} : demote ρ i ≠ .ex := by
  unfold demote
  cases h : ρ[i]? with
  | none => simp
  | some s => cases s <;> simp
theorem demote_own {ρ : Rho} {i : Nat} : (demote ρ i).isOwn = false := by
  unfold demote
  cases h : ρ[i]? with
  | none => rfl
  | some s => cases s <;> rfl
theorem Rel.inner {F : Fr} {B H : Hp} {σ : St} {ρ : Rho} (R : Rel F B H σ ρ) (fr : List (Str × Nat)) {v : V} {d : D} (h : Rep B v d) : Rel (F0 H) B H (some v :: compRest σ fr) (.fz d :: fr.map fun p => demote ρ p.2) := by
  have nown : ∀ (i : Nat) (s : Sl), (Sl.fz d :: fr.map fun p => demote ρ p.2)[i]? = some s → s.isOwn = true → False := fun i s h1 h2 => by
    cases i with
    | zero => cases h1; cases h2
    | succ i =>
      have h1' : (fr.map fun p => demote ρ p.2)[i]? = some s := by simpa using h1
      rw [List.getElem?_map] at h1'
      obtain ⟨p, _, e⟩ := Option.map_eq_some_iff.mp h1'
      rw [← e, demote_own] at h2
      cases h2
  have nex : ∀ i : Nat, (Sl.fz d :: fr.map fun p => demote ρ p.2)[i]? = some Sl.ex → False := fun i h1 => by
    cases i with
    | zero => cases h1
    | succ i =>
      have h1' : (fr.map fun p => demote ρ p.2)[i]? = some Sl.ex := by simpa using h1
      rw [List.getElem?_map] at h1'
      obtain ⟨p, _, e⟩ := Option.map_eq_some_iff.mp h1'
      exact absurd e demote_ex
  refine ⟨R.sub, (fun _ _ z => by cases z), (fun _ _ z => by cases z), fun _ z _ => absurd rfl z, by simp [compRest], fun i s hs => ?_, fun i j s t p h1 h2 => (nown i s h1 h2).elim, fun i d p h1 => (nown i _ h1 rfl).elim, (fun x hx => by cases hx), fun i d h1 => (nown i _ h1 rfl).elim, R.tupB, (fun i h1 => (nex i h1).elim), fun q o u h z => by rw [z] at h; cases h⟩
  cases i with
  | zero => cases hs; exact ⟨v, rfl, h⟩
  | succ i =>
    have hs' : (fr.map fun p => demote ρ p.2)[i]? = some s := by simpa using hs
    rw [List.getElem?_map] at hs'
    obtain ⟨p, hp, e⟩ := Option.map_eq_some_iff.mp hs'
    have hσ : ∀ x, σ[p.2]? = some (some x) → (some v :: compRest σ fr)[i + 1]? = some (some x) := fun x hx => by
      rw [List.getElem?_cons_succ]
      unfold compRest
      rw [List.getElem?_map, hp, Option.map_some, List.getD_eq_getElem?_getD, hx]
      rfl
    unfold demote at e
    cases q : ρ[p.2]? with
    | none => rw [q] at e; subst e; trivial
    | some s0 =>
      rw [q] at e
      have sl := R.slot p.2 s0 q
      cases s0 with
      | no => subst e; trivial
      | ex => subst e; trivial
      | fz c => subst e; obtain ⟨x, h1, h2⟩ := sl; exact ⟨x, hσ _ h1, h2⟩
      | own c => subst e; obtain ⟨x, h1, _, h2⟩ := sl; exact ⟨x, hσ _ h1, h2⟩
      | io c => subst e; obtain ⟨x, h1, _, h2⟩ := sl; exact ⟨x, hσ _ h1, h2⟩
      | ro c => subst e; obtain ⟨x, h1, h2⟩ := sl; exact ⟨x, hσ _ h1, h2⟩
theorem inner_ext {ρ ρ' : Rho} {σ : St} {B H B' H' : Hp} (nown : ∀ (i : Nat) (s : Sl), ρ[i]? = some s → s.isOwn = true → False) (E : Ext σ ρ B H ρ' B' H') : Same H H' ∧ ∀ q, H q ≠ none → B q = none → B' q = none := by
  have k : ∀ q o, H q = some o → H' q = some o ∧ (B q = none → B' q = none) := fun q o h => E.keep q o h fun i s h1 h2 => (nown i s h1 h2).elim
  refine ⟨fun q o h => (k q o h).1, fun q h z => ?_⟩
  cases e : H q with
  | none => exact absurd e h
  | some o => exact (k q o e).2 z
theorem inner_nown {fr : List (Str × Nat)} {ρ : Rho} {d : D} (i : Nat) (s : Sl) (h1 : (Sl.fz d :: fr.map fun p => demote ρ p.2)[i]? = some s) (h2 : s.isOwn = true) : False := by
  cases i with
  | zero => cases h1; cases h2
  | succ i =>
    have h1' : (fr.map fun p => demote ρ p.2)[i]? = some s := by simpa using h1
    rw [List.getElem?_map] at h1'
    obtain ⟨p, _, e⟩ := Option.map_eq_some_iff.mp h1'
    rw [← e, demote_own] at h2
    cases h2
theorem me_lc {fr : List (Str × Nat)} {wi : TI} {tc : TT} {te : TE} {it : Rho → Option (List D × Rho)} {c : Rho → Option (Bool × Rho)} {e : PM} (hi : MI wi it) (hc : MT tc c) (he : ME te e) : ME (tLC fr wi tc te) (mLC fr it c e) := by
  intro F B H σ ρ r0 ρ' Q R e0 q
  obtain ⟨x, e1, e0⟩ := Option.bind_eq_some_iff.mp e0
  obtain ⟨out, e2, e0⟩ := Option.bind_eq_some_iff.mp e0
  obtain ⟨hz, e0⟩ := cIf_eq e0
  cases e0
  refine hi F B H σ ρ x.1 x.2 _ R e1 fun J B1 H1 E1 R1 I1 => ?_
  obtain ⟨ds, ρ1⟩ := x
  refine ⟨fun i m ys H2 => m = ds.length - i ∧ i ≤ ds.length ∧ ∃ B2 done rest, Same B1 B2 ∧ Same H1 H2 ∧ (∀ q, H1 q ≠ none → B1 q = none → B2 q = none) ∧ Rel F B2 H2 σ ρ1 ∧ Reps B2 ys done ∧ compL c e (fr.map fun p => demote ρ1 p.2) (ds.drop i) = some rest ∧ done ++ rest = out,
    ⟨ds.length, rfl, Nat.zero_le _, B1, [], out, Same.refl _, Same.refl _, fun _ _ z => z, R1, .nil, e2, rfl⟩, ?_⟩
  rintro i m ys H2 ⟨rfl, hil, B2, done, rest, eB, eH, nb, R2, rp, hcl, hdr⟩
  have hlen : ys.length ≤ out.length := by rw [← hdr, List.length_append, rp.length]; omega
  refine ⟨by omega, ?_⟩
  by_cases hlt : i < ds.length
  · refine .inr ?_
    obtain ⟨go, yl⟩ := (I1 H2 eH).2 i ds[i] (List.getElem?_eq_getElem hlt)
    refine ⟨go, fun v H3 hy => ?_⟩
    rw [List.drop_eq_getElem_cons hlt] at hcl
    obtain ⟨b, c1, c2⟩ := Option.bind_eq_some_iff.mp (show (c (.fz ds[i] :: fr.map fun p => demote ρ1 p.2)).bind _ = some rest from hcl)
    have had : ∃ B3, Same B2 B3 ∧ Same H2 H3 ∧ (∀ q, H2 q ≠ none → B2 q = none → B3 q = none) ∧ Rel F B3 H3 σ ρ1 ∧ Rep B3 v ds[i] := by
      rcases yl v H3 hy with ⟨rfl, h2⟩ | ⟨p, xs, cs, h1, rfl, h3, rfl, h5⟩
      · exact ⟨B2, Same.refl _, Same.refl _, fun _ _ z => z, R2, h2.mono eB⟩
      · obtain ⟨R3, E3, e3⟩ := R2.layT (xs := xs) h3
        refine ⟨_, e3, same_upd h3, fun q h z => ?_, R3, ?_⟩
        · rw [upd_ne (show q ≠ p from fun y => h (by rw [y]; exact h3))]; exact z
        · rw [h1]; exact .tup upd_same (h5.mono (eB.trans e3))
    obtain ⟨B3, eB3, eH3, nb3, R3, rv⟩ := had
    have Ri := R3.inner fr rv
    refine hc (F0 H3) B3 H3 _ _ b.1 b.2 _ Ri c1 fun B4 H4 E4 R4 => ?_
    obtain ⟨eH4, nb4⟩ := inner_ext inner_nown E4
    have R4o : Rel F B4 H4 σ ρ1 := R3.grow E4.sB eH4 R4.sub nb4 R4.tupB R4.nz
    have nbA : ∀ q, H1 q ≠ none → B1 q = none → B4 q = none := fun q h z => by
      have h2 : H2 q ≠ none := fun y => h (eH.free y)
      have h3 : H3 q ≠ none := fun y => h2 (eH3.free y)
      exact nb4 q h3 (nb3 q h2 (nb q h z))
    cases hb : b.1 with
    | false =>
      rw [hb, if_neg Bool.false_ne_true] at c2
      rw [if_neg Bool.false_ne_true]
      exact ⟨ds.length - (i + 1), by omega, rfl, hlt, B4, done, rest, eB.trans (eB3.trans E4.sB), eH.trans (eH3.trans eH4), nbA, R4o, rp.mono (eB3.trans E4.sB), c2, hdr⟩
    | true =>
      rw [hb, if_pos rfl] at c2
      rw [if_pos rfl]
      obtain ⟨y, c3, c2⟩ := Option.bind_eq_some_iff.mp c2
      obtain ⟨z, c4, c2⟩ := Option.bind_eq_some_iff.mp c2
      obtain ⟨rest', c5, c6⟩ := Option.map_eq_some_iff.mp c2
      subst c6
      have Ri4 := R4o.inner fr (rv.mono E4.sB)
      refine he.sv (F0 H4) B4 H4 _ _ y.1 y.2 _ Ri4 c3 fun u B5 H5 E5 R5 V5 N5 => ?_
      obtain ⟨eH5, nb5⟩ := inner_ext inner_nown E5
      have R5o : Rel F B5 H5 σ ρ1 := R4o.grow E5.sB eH5 R5.sub nb5 R5.tupB R5.nz
      rw [asF_eq c4] at V5
      refine ⟨ds.length - (i + 1), by omega, rfl, hlt, B5, done ++ [z], rest', eB.trans (eB3.trans (E4.sB.trans E5.sB)), eH.trans (eH3.trans (eH4.trans eH5)), fun q h w => ?_, R5o, (rp.mono (eB3.trans (E4.sB.trans E5.sB))).append (.cons V5 .nil), c5, by rw [List.append_assoc]; exact hdr⟩
      have h2 : H2 q ≠ none := fun y => h (eH.free y)
      have h3 : H3 q ≠ none := fun y => h2 (eH3.free y)
      have h4 : H4 q ≠ none := fun y => h3 (eH4.free y)
      exact nb5 q h4 (nbA q h w)
  · have hi' : i = ds.length := by omega
    subst hi'
    refine .inl ⟨(I1 H2 eH).1, fun p hp => ?_⟩
    rw [List.drop_length] at hcl
    cases hcl
    rw [List.append_nil] at hdr
    subst hdr
    have E2 : Ext σ ρ1 B1 H1 ρ1 B2 H2 := Ext.grow eB eH nb
    have := res_end (res := (.list done, true)) (k := fun Q => ∀ p, H2 p = none → Q (.ref p) (upd H2 p (.lst ys))) (Q := Q) R2 ⟨ys, rp, fun Q h => h⟩ fun v B' H' E R' V' N => q v B' H' ((E1.trans E2).trans E) R' V' fun p z1 z2 => (E1.trans E2).live p (N p z1 z2)
    exact this p hp
end Mir
set_option Elab.async false
set_option linter.all false
set_option maxRecDepth 100000
namespace Mir
open PySem L2
variable [Zc]
def Sl.put : Sl → D → Sl
  | .own _, d => .own d
  | .io _, d => .io d
  | s, _ => s
section
variable {F : Fr} {B H : Hp} {σ : St} {ρ ρ' : Rho} {v : V}
theorem SlotOk.at {B H : Hp} {σ σ' : St} {i : Nat} {s : Sl} (e : σ'[i]? = σ[i]?) (h : SlotOk B H σ i s) : SlotOk B H σ' i s := by
  unfold SlotOk at h ⊢
  rw [e]; exact h
theorem Rel.write (R : Rel F B H σ ρ) {i : Nat} {s : Sl} {p : Addr} {o : HO} {d : D} (hi : ρ[i]? = some s) (hs : s.isOwn = true) (hv : σ[i]? = some (some (.ref p))) (no : (∀ xs, o ≠ .tup xs) ∧ ∀ a u, o ≠ .frz a u) (ow : Own B (upd H p o) p d) :
    Rel F B (upd H p o) σ (ρ.set i (s.put d)) ∧ Ext σ ρ B H (ρ.set i (s.put d)) B (upd H p o) := by
  obtain ⟨p', e1, hB, o0⟩ := R.ownAt hi hs
  rw [hv] at e1
  cases e1
  have hl : i < ρ.length := (List.getElem?_eq_some_iff.mp hi).1
  have pO : (s.put d).isOwn = true ∧ slD (s.put d) = d := by cases s <;> first | exact ⟨rfl, rfl⟩ | cases hs
  have ne : ∀ (j : Nat) (t : Sl) (q : Addr), j ≠ i → ρ[j]? = some t → t.isRef = true → σ[j]? = some (some (.ref q)) → q ≠ p := fun j t q hj h1 h2 h3 z => hj (R.dist i j s t p hi hs h1 h2 hv (z ▸ h3)).symm
  have nio : ∀ (j : Nat) (t : Sl), (ρ.set i (s.put d))[j]? = some t → ∃ t0, ρ[j]? = some t0 ∧ t.isOwn = t0.isOwn ∧ t.isRef = t0.isRef ∧ (∀ c, t = .own c → ∃ c0, t0 = .own c0) ∧ ∀ c, t = .io c → ∃ c0, t0 = .io c0 := fun j t h => by
    rcases get_set h with ⟨rfl, rfl, _⟩ | ⟨_, h⟩
    · refine ⟨s, hi, ?_⟩
      cases s with
      | own c => exact ⟨rfl, rfl, fun _ _ => ⟨_, rfl⟩, fun _ z => by cases z⟩
      | io c => exact ⟨rfl, rfl, (fun _ z => by cases z), fun _ _ => ⟨_, rfl⟩⟩
      | _ => cases hs
    · exact ⟨t, h, rfl, rfl, fun c z => ⟨c, z⟩, fun c z => ⟨c, z⟩⟩
  have hF : F.H p = none ∨ ∃ x ∈ F.io, x.2 = p := by
    cases s with
    | own c => exact .inl (R.ownN i c p hi hv)
    | io c =>
      obtain ⟨p', hp⟩ := R.ioN i c hi
      obtain ⟨h1, _⟩ := R.fx _ hp
      have h1' : σ[i]? = some (some (.ref p')) := h1
      rw [hv] at h1'
      cases h1'
      exact .inr ⟨_, hp, rfl⟩
    | _ => cases hs
  have nput : s.put d ≠ .ex := by
    cases s with
    | own c => simp [Sl.put]
    | io c => simp [Sl.put]
    | _ => cases hs
  refine ⟨⟨?_, R.sB, ?_, R.nB, by rw [List.length_set]; exact R.len, ?_, ?_, ?_, ?_, ?_, ?_, (fun j h => R.exv j (ex_set nput h).1), fun q a u h => by
    by_cases z : q = p
    · subst z; rw [upd_same] at h; cases h; exact absurd rfl (no.2 _ _)
    · rw [upd_ne z] at h; exact R.nz q a u h⟩, ⟨Same.refl _, ?_, ?_, ?_, ?_⟩⟩
  · intro q u hq
    rw [upd_ne (show q ≠ p from fun z => by rw [z, hB] at hq; cases hq)]; exact R.sub q u hq
  · intro q u h1 h2
    have z : q ≠ p := fun z => by
      rcases hF with h | ⟨x, hx, h⟩
      · rw [z, h] at h1; cases h1
      · exact h2 x hx (h.trans z.symm)
    rw [upd_ne z]; exact R.sH q u h1 h2
  · intro j t ht
    rcases get_set ht with ⟨rfl, rfl, _⟩ | ⟨hj, ht⟩
    · cases s with
      | own c => exact ⟨p, hv, hB, ow⟩
      | io c => exact ⟨p, hv, hB, ow⟩
      | _ => cases hs
    · have q := R.slot j t ht
      have k : ∀ q, q ≠ p → ∀ u, H q = some u → upd H p o q = some u := fun q z u h => by rw [upd_ne z]; exact h
      cases t with
      | no => trivial
      | ex => trivial
      | fz c => exact q
      | own c => obtain ⟨q, h1, h2, h3⟩ := q; exact ⟨q, h1, h2, h3.mono (Same.refl _) (k q (ne j _ q hj ht rfl h1))⟩
      | io c => obtain ⟨q, h1, h2, h3⟩ := q; exact ⟨q, h1, h2, h3.mono (Same.refl _) (k q (ne j _ q hj ht rfl h1))⟩
      | ro c => obtain ⟨q, h1, h3⟩ := q; exact ⟨q, h1, h3.mono (Same.refl _) (k q (ne j _ q hj ht rfl h1))⟩
  · intro a b t u q h1 h2 h3 h4 h5 h6
    obtain ⟨t0, h1', e1, _, _, _⟩ := nio a t h1
    obtain ⟨u0, h3', _, e3, _, _⟩ := nio b u h3
    exact R.dist a b t0 u0 q h1' (e1 ▸ h2) h3' (e3 ▸ h4) h5 h6
  · intro j c q h1 h2
    obtain ⟨t0, h1', _, _, e1, _⟩ := nio j _ h1
    obtain ⟨c0, rfl⟩ := e1 c rfl
    exact R.ownN j c0 q h1' h2
  · intro x hx
    obtain ⟨h1, c, h2⟩ := R.fx x hx
    refine ⟨h1, ?_⟩
    by_cases z : i = x.1
    · subst z
      rw [hi] at h2
      cases h2
      exact ⟨d, by rw [List.getElem?_set_self hl]; rfl⟩
    · exact ⟨c, by rw [List.getElem?_set_ne z]; exact h2⟩
  · intro j c h1
    obtain ⟨t0, h1', _, _, _, e1⟩ := nio j _ h1
    obtain ⟨c0, rfl⟩ := e1 c rfl
    exact R.ioN j c0 h1'
  · intro q xs h
    by_cases z : q = p
    · subst z; rw [upd_same] at h; cases h; exact absurd rfl (no.1 xs)
    · rw [upd_ne z] at h; exact R.tupB q xs h
  · intro q u h n
    refine ⟨?_, id⟩
    rw [upd_ne (show q ≠ p from fun z => n i s hi hs (by rw [z]; exact hv))]; exact h
  · intro j t h1 h2
    obtain ⟨t0, h1', e1, _, _, _⟩ := nio j t h1
    exact ⟨t0, h1', e1 ▸ h2⟩
  · intro j t h1 h2
    obtain ⟨t0, h1', _, e1, _, _⟩ := nio j t h1
    exact ⟨t0, h1', e1 ▸ h2⟩
  · intro q h
    by_cases z : q = p
    · subst z; rw [upd_same] at h; cases h
    · rw [upd_ne z] at h; exact h
end
def ownL : Option Sl → Option (List D)
  | some (.own (.list ds)) => some ds
  | some (.io (.list ds)) => some ds
  | _ => none
theorem ownL_eq {s : Option Sl} {ds : List D} (h : ownL s = some ds) : ∃ t, s = some t ∧ t.isOwn = true ∧ slD t = .list ds := by
  unfold ownL at h
  split at h
  · cases h; exact ⟨_, rfl, rfl, rfl⟩
  · cases h; exact ⟨_, rfl, rfl, rfl⟩
  · cases h
def putAt (ρ : Rho) (i : Nat) (d : D) : Rho := match ρ[i]? with
  | some s => ρ.set i (s.put d)
  | none => ρ
def MutJ (r : V → List V → Hp → VK → Prop) (f : List D → List D → Option (List D × D)) : Prop :=
  ∀ (B H : Hp) (p : Addr) (xs : List V) (ds : List D) (vs : List V) (as : List D) (w : List D × D), H p = some (.lst xs) → Reps B xs ds → Same B H → Reps B vs as → f ds as = some w →
    ∃ xs' v, Reps B xs' w.1 ∧ Rep B v w.2 ∧ ∀ Q : VK, Q v (upd H p (.lst xs')) → r (.ref p) vs H Q
def mMut (i : Nat) (f : List D → List D → Option (List D × D)) (m : Rho → Option (List RV × Rho)) : PM := fun ρ => (ownL ρ[i]?).bind fun _ => (m ρ).bind fun x => (fzAll x.1 x.2).bind fun y => (ownL y.2[i]?).bind fun ds => (f ds y.1).map fun w => ((w.2, .fz), putAt y.2 i (.list w.1))
theorem Own.list {B H : Hp} {p : Addr} {ds : List D} (h : Own B H p (.list ds)) : ∃ xs, H p = some (.lst xs) ∧ Reps B xs ds := by
  cases h with
  | lst h r => exact ⟨_, h, r⟩
theorem me_mut {K : PySem.W.Frag} {i : Nat} {r : V → List V → Hp → VK → Prop} {f : List D → List D → Option (List D × D)} {t : TA} {m : Rho → Option (List RV × Rho)} (J : MutJ r f) (h : MA t m) : ME (tBM K "list" r (tVar i) t) (mMut i f m) := by
  intro F B H σ ρ r0 ρ' Q R e q
  obtain ⟨ds0, e0, e⟩ := Option.bind_eq_some_iff.mp e
  obtain ⟨x, e1, e⟩ := Option.bind_eq_some_iff.mp e
  obtain ⟨y, e2, e⟩ := Option.bind_eq_some_iff.mp e
  obtain ⟨ds, e3, e⟩ := Option.bind_eq_some_iff.mp e
  obtain ⟨w, e4, e⟩ := Option.map_eq_some_iff.mp e
  cases e
  obtain ⟨s0, hs0, ho0, hd0⟩ := ownL_eq e0
  obtain ⟨p, hv, hB, ow⟩ := R.ownAt hs0 ho0
  rw [hd0] at ow
  obtain ⟨xs0, hp0, _⟩ := ow.list
  refine ⟨_, hv, .inl ⟨rfl, xs0, SqL.of hp0⟩, ?_⟩
  refine h F B H σ ρ x.1 x.2 _ R e1 fun vs B1 H1 E1 R1 V1 => ?_
  obtain ⟨B2, R2, rp, E2⟩ := Rel.frzL R1 V1.weak e2
  obtain ⟨s, hs, ho, hd⟩ := ownL_eq e3
  obtain ⟨p', hv', hB', ow'⟩ := R2.ownAt hs ho
  rw [hv] at hv'
  cases hv'
  rw [hd] at ow'
  obtain ⟨xs, hp, rx⟩ := ow'.list
  obtain ⟨xs', u, rx', ru, hr⟩ := J B2 H1 p xs ds vs y.1 w hp rx R2.sub rp e4
  obtain ⟨R3, E3⟩ := R2.write (o := .lst xs') (d := .list w.1) hs ho hv ⟨(fun _ z => by cases z), fun _ _ z => by cases z⟩ (.lst upd_same rx')
  have ep : putAt y.2 i (.list w.1) = y.2.set i (s.put (.list w.1)) := by unfold putAt; rw [hs]
  rw [ep] at q
  exact hr Q (q u B2 _ (E1.trans (E2.trans E3)) R3 ru fun p z => by cases z)
def mMut0 (i : Nat) (f : List D → List D → Option (List D × D)) : PM := fun ρ => (ownL ρ[i]?).bind fun ds => (f ds []).map fun w => ((w.2, .fz), putAt ρ i (.list w.1))
def MtJ (K : PySem.W.Frag) (T : String) (r : V → List V → Hp → VK → Prop) (g : D → List D → Option (D × Bool)) : Prop :=
  (∀ (B H : Hp) (x : V) (c : D) (ds : List D) (res : D × Bool), Same B H → View B H x c → g c ds = some res → tyV K T x H) ∧
  ∀ (B H : Hp) (x : V) (c : D) (vs : List V) (ds : List D) (res : D × Bool), Same B H → View B H x c → Views B H vs ds → g c ds = some res → ResOk B H res fun Q => r x vs H Q
def mBM (g : D → List D → Option (D × Bool)) (a : PM) (m : Rho → Option (List RV × Rho)) : PM := fun ρ => (sv a ρ).bind fun x => (m x.2).bind fun y => (refr y.2 x.1).bind fun r => (g x.1.1 (y.1.map (·.1))).bind fun _ => (g r.1 (y.1.map (·.1))).map fun res => (resK res, y.2)
theorem me_bm {K : PySem.W.Frag} {T : String} {r : V → List V → Hp → VK → Prop} {g : D → List D → Option (D × Bool)} {ta : TE} {a : PM} {t : TA} {m : Rho → Option (List RV × Rho)} (J : MtJ K T r g) (ha : ME ta a) (h : MA t m) : ME (tBM K T r ta t) (mBM g a m) := by
  intro F B H σ ρ r0 ρ' Q R e q
  obtain ⟨x, e1, e⟩ := Option.bind_eq_some_iff.mp e
  obtain ⟨y, e2, e⟩ := Option.bind_eq_some_iff.mp e
  obtain ⟨r', e3, e⟩ := Option.bind_eq_some_iff.mp e
  obtain ⟨res0, e5, e⟩ := Option.bind_eq_some_iff.mp e
  obtain ⟨res, e4, e⟩ := Option.map_eq_some_iff.mp e
  cases e
  refine ha.sv F B H σ ρ x.1 x.2 _ R e1 fun v B1 H1 E1 R1 V1 N1 => ?_
  refine ⟨J.1 B1 H1 v x.1.1 _ res0 R1.sub (V1.view R1) e5, ?_⟩
  refine h F B1 H1 σ x.2 y.1 y.2 _ R1 e2 fun vs B2 H2 E2 R2 V2 => ?_
  obtain ⟨V3, n3⟩ := V1.next E2 R2 (sv_kind e1) e3
  exact res_end R2 (J.2 B2 H2 v r'.1 vs _ res R2.sub (V3.view R2) (V2.views R2) e4) fun w B3 H3 E3 R3 V4 N4 => q w B3 H3 ((E1.trans E2).trans E3) R3 V4 fun p z1 z2 => (E1.trans E2).live p (N4 p z1 z2)
end Mir
set_option Elab.async false
set_option linter.all false
set_option maxRecDepth 100000
namespace Mir
open PySem L2
variable [Zc]
inductive Out where
  | nx (ρ : Rho) | rt (r : RV) (ρ : Rho) | bk (ρ : Rho) | ct (ρ : Rho)
abbrev SM := Rho → Option Out
def OutOk (F : Fr) (D : Ends) : Out → Prop
  | .nx ρ => ∀ B H σ, Rel F B H σ ρ → D.nx σ H
  | .rt r ρ => ∀ v B H σ, Rel F B H σ ρ → Val F B H σ ρ v r → D.rt v H
  | .bk ρ => ∀ B H σ, Rel F B H σ ρ → D.bk σ H
  | .ct ρ => ∀ B H σ, Rel F B H σ ρ → D.ct σ H
def MS (t : TS) (m : SM) : Prop := ∀ (F : Fr) (B H : Hp) (σ : St) (ρ : Rho) (o : Out) (D : Ends), Rel F B H σ ρ → m ρ = some o → OutOk F D o → t D σ H
def mSeq (a b : SM) : SM := fun ρ => (a ρ).bind fun o => match o with
  | .nx ρ' => b ρ'
  | o => some o
theorem ms_seq {t u : TS} {a b : SM} (ha : MS t a) (hb : MS u b) : MS (tSeq t u) (mSeq a b) := by
  intro F B H σ ρ o D R e q
  obtain ⟨x, e1, e⟩ := Option.bind_eq_some_iff.mp e
  refine ha F B H σ ρ x _ R e1 ?_
  cases x with
  | nx ρ' => exact fun B' H' σ' R' => hb F B' H' σ' ρ' o D R' e q
  | rt r ρ' => cases e; exact q
  | bk ρ' => cases e; exact q
  | ct ρ' => cases e; exact q
def mPass : SM := fun ρ => some (.nx ρ)
theorem ms_next : MS tNext mPass := by
  intro F B H σ ρ o D R e q
  cases e; exact q B H σ R
def mNever : SM := fun _ => none
theorem ms_never : MS tNever mNever := by
  intro F B H σ ρ o D R e q
  cases e
def mRet (a : PM) : SM := fun ρ => (a ρ).map fun x => .rt x.1 x.2
theorem ms_ret {t : TE} {a : PM} (ha : ME t a) : MS (tRet t) (mRet a) := by
  intro F B H σ ρ o D R e q
  obtain ⟨x, e1, e⟩ := Option.map_eq_some_iff.mp e
  cases e
  exact ha F B H σ ρ x.1 x.2 _ R e1 fun v B' H' E R' V' N => q v B' H' σ R' V'
def mRetN : SM := fun ρ => some (.rt (.none, .fz) ρ)
def mDrop (a : PM) : SM := fun ρ => (a ρ).map fun x => .nx x.2
theorem ms_drop {t : TE} {a : PM} (ha : ME t a) : MS (tDrop t) (mDrop a) := by
  intro F B H σ ρ o D R e q
  obtain ⟨x, e1, e⟩ := Option.map_eq_some_iff.mp e
  cases e
  exact ha F B H σ ρ x.1 x.2 _ R e1 fun v B' H' E R' V' N => q B' H' σ R'
def mIfS (c : Rho → Option (Bool × Rho)) (a b : SM) : SM := fun ρ => (c ρ).bind fun x => if x.1 = true then a x.2 else b x.2
theorem ms_if {tc : TT} {t u : TS} {c : Rho → Option (Bool × Rho)} {a b : SM} (hc : MT tc c) (ha : MS t a) (hb : MS u b) : MS (tIfS tc t u) (mIfS c a b) := by
  intro F B H σ ρ o D R e q
  obtain ⟨x, e1, e⟩ := Option.bind_eq_some_iff.mp e
  refine hc F B H σ ρ x.1 x.2 _ R e1 fun B' H' E R' => ?_
  by_cases h : x.1 = true
  · rw [if_pos h] at e ⊢; exact ha F B' H' σ x.2 o D R' e q
  · rw [if_neg h] at e ⊢; exact hb F B' H' σ x.2 o D R' e q
def setSl (ρ : Rho) (i : Nat) (s : Sl) : Option Rho := match ρ[i]? with
  | none => none
  | some (.io _) => none
  | some _ => some (ρ.set i s)
theorem setSl_eq {ρ ρ' : Rho} {i : Nat} {s : Sl} (h : setSl ρ i s = some ρ') : ρ' = ρ.set i s ∧ ∃ s0, ρ[i]? = some s0 ∧ ∀ d, s0 ≠ .io d := by
  unfold setSl at h
  cases q : ρ[i]? with
  | none => rw [q] at h; cases h
  | some s0 =>
    rw [q] at h
    cases s0 with
    | io d => cases h
    | no => cases h; exact ⟨rfl, _, rfl, fun _ z => by cases z⟩
    | ex => cases h; exact ⟨rfl, _, rfl, fun _ z => by cases z⟩
    | fz _ => cases h; exact ⟨rfl, _, rfl, fun _ z => by cases z⟩
    | own _ => cases h; exact ⟨rfl, _, rfl, fun _ z => by cases z⟩
    | ro _ => cases h; exact ⟨rfl, _, rfl, fun _ z => by cases z⟩
section
variable {F : Fr} {B H : Hp} {σ : St} {ρ ρ' : Rho} {v : V}
theorem Rel.assignFz (R : Rel F B H σ ρ) {i : Nat} {d : D} (rp : Rep B v d) (h : setSl ρ i (.fz d) = some ρ') : Rel F B H (σ.set i (some v)) ρ' := by
  obtain ⟨rfl, s0, h0, nio⟩ := setSl_eq h
  have hl : i < ρ.length := (List.getElem?_eq_some_iff.mp h0).1
  have hls : i < σ.length := R.len ▸ hl
  have so : ∀ j, j ≠ i → (σ.set i (some v))[j]? = σ[j]? := fun j hj => List.getElem?_set_ne fun e => hj e.symm
  refine ⟨R.sub, R.sB, R.sH, R.nB, by rw [List.length_set, List.length_set]; exact R.len, ?_, ?_, ?_, ?_, ?_, R.tupB, (fun j h => by obtain ⟨h1, h2⟩ := ex_set (by simp) h; rw [so j h2]; exact R.exv j h1), R.nz⟩
  · intro j s hs
    rcases get_set hs with ⟨rfl, rfl, _⟩ | ⟨hj, hs⟩
    · exact ⟨v, List.getElem?_set_self hls, rp⟩
    · exact (R.slot j s hs).at (so j hj)
  · intro a b s t p h1 h2 h3 h4 h5 h6
    rcases get_set h1 with ⟨rfl, rfl, _⟩ | ⟨ha, h1⟩
    · cases h2
    · rcases get_set h3 with ⟨rfl, rfl, _⟩ | ⟨hb, h3⟩
      · cases h4
      · rw [so a ha] at h5; rw [so b hb] at h6; exact R.dist a b s t p h1 h2 h3 h4 h5 h6
  · intro j c p h1 h2
    rcases get_set h1 with ⟨rfl, e, _⟩ | ⟨hj, h1⟩
    · cases e
    · rw [so j hj] at h2; exact R.ownN j c p h1 h2
  · intro x hx
    obtain ⟨h1, c, h2⟩ := R.fx x hx
    have z : x.1 ≠ i := fun z => by rw [z, h0] at h2; cases h2; exact nio _ rfl
    exact ⟨by rw [so _ z]; exact h1, c, by rw [List.getElem?_set_ne fun e => z e.symm]; exact h2⟩
  · intro j c h1
    rcases get_set h1 with ⟨rfl, e, _⟩ | ⟨hj, h1⟩
    · cases e
    · exact R.ioN j c h1
theorem Rel.assignOwn (R : Rel F B H σ ρ) {i : Nat} {d : D} (vl : Val F B H σ ρ v (d, .new)) (h : setSl ρ i (.own d) = some ρ') : Rel F B H (σ.set i (some v)) ρ' := by
  obtain ⟨rfl, s0, h0, nio⟩ := setSl_eq h
  obtain ⟨p, rfl, hB, hF, ow, nn⟩ := vl
  have hl : i < ρ.length := (List.getElem?_eq_some_iff.mp h0).1
  have hls : i < σ.length := R.len ▸ hl
  have so : ∀ j, j ≠ i → (σ.set i (some (.ref p)))[j]? = σ[j]? := fun j hj => List.getElem?_set_ne fun e => hj e.symm
  have si : (σ.set i (some (.ref p)))[i]? = some (some (.ref p)) := List.getElem?_set_self hls
  refine ⟨R.sub, R.sB, R.sH, R.nB, by rw [List.length_set, List.length_set]; exact R.len, ?_, ?_, ?_, ?_, ?_, R.tupB, (fun j h => by obtain ⟨h1, h2⟩ := ex_set (by simp) h; rw [so j h2]; exact R.exv j h1), R.nz⟩
  · intro j s hs
    rcases get_set hs with ⟨rfl, rfl, _⟩ | ⟨hj, hs⟩
    · exact ⟨p, si, hB, ow⟩
    · exact (R.slot j s hs).at (so j hj)
  · intro a b s t q h1 h2 h3 h4 h5 h6
    rcases get_set h1 with ⟨rfl, rfl, _⟩ | ⟨ha, h1'⟩
    · rcases get_set h3 with ⟨rfl, rfl, _⟩ | ⟨hb, h3⟩
      · rfl
      · rw [si] at h5
        cases h5
        rw [so b hb] at h6
        exact absurd h6 (nn b t h3 h4)
    · rcases get_set h3 with ⟨rfl, rfl, _⟩ | ⟨hb, h3⟩
      · rw [si] at h6
        cases h6
        rw [so a ha] at h5
        exact absurd h5 (nn a s h1' (Sl.ref_of h2))
      · rw [so a ha] at h5; rw [so b hb] at h6; exact R.dist a b s t q h1' h2 h3 h4 h5 h6
  · intro j c q h1 h2
    rcases get_set h1 with ⟨rfl, e, _⟩ | ⟨hj, h1⟩
    · rw [si] at h2; cases h2; exact hF
    · rw [so j hj] at h2; exact R.ownN j c q h1 h2
  · intro x hx
    obtain ⟨h1, c, h2⟩ := R.fx x hx
    have z : x.1 ≠ i := fun z => by rw [z, h0] at h2; cases h2; exact nio _ rfl
    exact ⟨by rw [so _ z]; exact h1, c, by rw [List.getElem?_set_ne fun e => z e.symm]; exact h2⟩
  · intro j c h1
    rcases get_set h1 with ⟨rfl, e, _⟩ | ⟨hj, h1⟩
    · cases e
    · exact R.ioN j c h1
end
def sto (i : Nat) (x : RV × Rho) : Option Rho := match x.1.2 with
  | .fz => setSl x.2 i (.fz x.1.1)
  | .new => setSl x.2 i (.own x.1.1)
  | .at j => if j = i then some x.2 else (fzOne x.1 x.2).bind fun y => setSl y.2 i (.fz y.1)
  | .ro => none
def mAsg (i : Nat) (a : PM) : SM := fun ρ => (a ρ).bind fun x => (sto i x).map .nx
theorem ms_asg {i : Nat} {t : TE} {a : PM} (ha : ME t a) : MS (tAsg t (gName i)) (mAsg i a) := by
  intro F B H σ ρ o D R e q
  obtain ⟨x, e1, e⟩ := Option.bind_eq_some_iff.mp e
  obtain ⟨ρ2, e2, e⟩ := Option.map_eq_some_iff.mp e
  cases e
  refine ha F B H σ ρ x.1 x.2 _ R e1 fun v B1 H1 E1 R1 V1 N1 => ?_
  show D.nx (σ.set i (some v)) H1
  obtain ⟨⟨d, k⟩, ρ1⟩ := x
  cases k with
  | fz => exact q B1 H1 _ (R1.assignFz V1 e2)
  | new => exact q B1 H1 _ (R1.assignOwn V1 e2)
  | ro => cases e2
  | «at» j =>
    have e2' : (if j = i then some ρ1 else (fzOne (d, .at j) ρ1).bind fun y => setSl y.2 i (.fz y.1)) = some ρ2 := e2
    obtain ⟨s, h1, h2, h3, h4⟩ := V1
    have h4' : σ[j]? = some (some v) := h4
    by_cases z : j = i
    · rw [if_pos z] at e2'
      cases e2'
      subst z
      have : σ.set j (some v) = σ := by
        apply List.ext_getElem?
        intro k
        by_cases hk : k = j
        · subst hk
          obtain ⟨hl, _⟩ := List.getElem?_eq_some_iff.mp h4'
          rw [List.getElem?_set_self hl, h4']
        · rw [List.getElem?_set_ne fun e => hk e.symm]
      rw [this]
      exact q B1 H1 _ R1
    · rw [if_neg z] at e2'
      obtain ⟨y, e3, e4⟩ := Option.bind_eq_some_iff.mp e2'
      obtain ⟨B2, R2, rp, E2⟩ := R1.frz (v := v) (r := (d, .at j)) (show WVal B1 σ v (d, .at j) from h4') e3
      exact q B2 H1 _ (R2.assignFz rp e4)
def mAug (i : Nat) (f : Int → Int → Int) (a : PM) : SM := fun ρ => match ρ[i]? with
  | some (.fz (.int x)) => ((sv a ρ).bind asI).bind fun y => (setSl y.2 i (.fz (.int (f x y.1)))).map .nx
  | _ => none
theorem ms_aug {i : Nat} {f : Int → Int → Int} {t : TE} {a : PM} (ha : ME t a) : MS (tAug i t (ipI f)) (mAug i f a) := by
  intro F B H σ ρ o D R e q
  unfold mAug at e
  split at e
  · rename_i x hx
    obtain ⟨y, e0, e⟩ := Option.bind_eq_some_iff.mp e
    obtain ⟨z, e1, e2⟩ := Option.bind_eq_some_iff.mp e0
    obtain ⟨ρ2, e3, e⟩ := Option.map_eq_some_iff.mp e
    cases e
    obtain ⟨w, h1, h2⟩ := R.slot i _ hx
    cases h2
    refine ⟨_, h1, ?_⟩
    refine ha.sv F B H σ ρ z.1 z.2 _ R e1 fun v B1 H1 E1 R1 V1 N1 => ?_
    obtain ⟨g1, g2⟩ := asI_eq (b := y.1) (ρ := y.2) e2
    have vv := V1.view R1
    rw [g1] at vv
    rw [g2] at R1
    exact ⟨x, y.1, rfl, vv.int, q B1 H1 _ (R1.assignFz (.int _) e3)⟩
  · cases e
def MG (g : TG) (mg : D → Rho → Option Rho) : Prop := ∀ (F : Fr) (B H : Hp) (σ : St) (ρ : Rho) (v : V) (d : D) (ρ' : Rho) (Q : St → Hp → Prop), Rel F B H σ ρ → Rep B v d → mg d ρ = some ρ' → (∀ B' H' σ', Rel F B' H' σ' ρ' → Same B B' → Q σ' H') → g v σ H Q
def MGs (g : TGs) (mg : List D → Rho → Option Rho) : Prop := ∀ (F : Fr) (B H : Hp) (σ : St) (ρ : Rho) (vs : List V) (ds : List D) (ρ' : Rho) (Q : St → Hp → Prop), Rel F B H σ ρ → Reps B vs ds → mg ds ρ = some ρ' → (∀ B' H' σ', Rel F B' H' σ' ρ' → Same B B' → Q σ' H') → g vs σ H Q
def mgN (i : Nat) : D → Rho → Option Rho := fun d ρ => setSl ρ i (.fz d)
theorem mg_name {i : Nat} : MG (gName i) (mgN i) := fun F B H σ ρ v d ρ' Q R rp e q => q B H _ (R.assignFz rp e) (Same.refl _)
def mgsNil : List D → Rho → Option Rho := fun ds ρ => match ds with
  | [] => some ρ
  | _ => none
def mgsCons (g : D → Rho → Option Rho) (gs : List D → Rho → Option Rho) : List D → Rho → Option Rho := fun ds ρ => match ds with
  | d :: ds => (g d ρ).bind fun ρ1 => gs ds ρ1
  | _ => none
theorem mgs_nil : MGs gNil mgsNil := fun F B H σ ρ vs ds ρ' Q R rp e q => by
  cases rp with
  | nil => cases e; exact ⟨rfl, q B H σ R (Same.refl _)⟩
  | cons _ _ => cases e
theorem mgs_cons {g : TG} {gs : TGs} {m : D → Rho → Option Rho} {ms : List D → Rho → Option Rho} (h : MG g m) (hs : MGs gs ms) : MGs (gCons g gs) (mgsCons m ms) := fun F B H σ ρ vs ds ρ' Q R rp e q => by
  cases rp with
  | nil => cases e
  | cons r rs =>
    obtain ⟨ρ1, e1, e2⟩ := Option.bind_eq_some_iff.mp e
    exact ⟨_, _, rfl, h F B H σ ρ _ _ ρ1 _ R r e1 fun B1 H1 σ1 R1 s1 => hs F B1 H1 σ1 ρ1 _ _ ρ' Q R1 (rs.mono s1) e2 fun B2 H2 σ2 R2 s2 => q B2 H2 σ2 R2 (s1.trans s2)⟩
def mgT (n : Nat) (ms : List D → Rho → Option Rho) : D → Rho → Option Rho := fun d ρ => (asT d).bind fun ds => if ds.length = n then ms ds ρ else none
def mAsgG (a : PM) (g : D → Rho → Option Rho) : SM := fun ρ => (sv a ρ).bind fun x => (fzOne x.1 x.2).bind fun y => (g y.1 y.2).map .nx
theorem ms_asgG {t : TE} {tg : TG} {a : PM} {g : D → Rho → Option Rho} (ha : ME t a) (hg : MG tg g) : MS (tAsg t tg) (mAsgG a g) := by
  intro F B H σ ρ o D R e q
  obtain ⟨x, e1, e⟩ := Option.bind_eq_some_iff.mp e
  obtain ⟨y, e2, e⟩ := Option.bind_eq_some_iff.mp e
  obtain ⟨ρ2, e3, e⟩ := Option.map_eq_some_iff.mp e
  cases e
  refine ha.sv F B H σ ρ x.1 x.2 _ R e1 fun v B1 H1 E1 R1 V1 N1 => ?_
  have w : WVal B1 σ v x.1 := (Vl.weak (F := F) (H := H1) (ρ := x.2) (vs := [v]) (rs := [x.1]) ⟨⟨V1, sv_kind e1⟩, trivial⟩).1
  obtain ⟨B2, R2, rp, E2⟩ := R1.frz w e2
  exact hg F B2 H1 σ y.2 v y.1 ρ2 _ R2 rp e3 fun B' H' σ' R' _ => q B' H' σ' R'
def mgSub (i : Nat) (a : PM) : D → Rho → Option Rho := fun d ρ => (ownL ρ[i]?).bind fun _ => ((sv a ρ).bind asI).bind fun y => (ownL y.2[i]?).bind fun ds => (ixN ds.length y.1).map fun j => putAt y.2 i (.list (ds.set j d))
theorem mg_sub {i : Nat} {t : TE} {a : PM} (ha : ME t a) : MG (gSub (tVar i) t rSetL) (mgSub i a) := by
  intro F B H σ ρ v d ρ' Q R rp e q
  obtain ⟨ds0, e0, e⟩ := Option.bind_eq_some_iff.mp e
  obtain ⟨y, e1, e⟩ := Option.bind_eq_some_iff.mp e
  obtain ⟨z, e2, e3⟩ := Option.bind_eq_some_iff.mp e1
  obtain ⟨ds, e4, e⟩ := Option.bind_eq_some_iff.mp e
  obtain ⟨j, e5, e⟩ := Option.map_eq_some_iff.mp e
  subst e
  obtain ⟨s0, hs0, ho0, hd0⟩ := ownL_eq e0
  obtain ⟨p, hv, hB, ow⟩ := R.ownAt hs0 ho0
  refine ⟨_, hv, ?_⟩
  refine ha.sv F B H σ ρ z.1 z.2 _ R e2 fun u B1 H1 E1 R1 V1 N1 => ?_
  obtain ⟨g1, g2⟩ := asI_eq (b := y.1) (ρ := y.2) e3
  have vv := V1.view R1
  rw [g1] at vv
  rw [g2] at R1 E1
  obtain ⟨s, hs, ho, hd⟩ := ownL_eq e4
  obtain ⟨p', hv', hB', ow'⟩ := R1.ownAt hs ho
  rw [hv] at hv'
  cases hv'
  rw [hd] at ow'
  obtain ⟨xs, hp, rx⟩ := ow'.list
  have rx' := Reps.set (rp.mono E1.sB) j rx
  obtain ⟨R3, E3⟩ := R1.write (o := .lst (xs.set j v)) (d := .list (ds.set j d)) hs ho hv ⟨(fun _ z => by cases z), fun _ _ z => by cases z⟩ (.lst upd_same rx')
  have ep : putAt y.2 i (.list (ds.set j d)) = y.2.set i (s.put (.list (ds.set j d))) := by unfold putAt; rw [hs]
  rw [ep] at q
  exact ⟨p, xs, y.1, j, rfl, vv.int, hp, by rw [rx.length]; exact e5, q B1 _ σ R3 E1.sB⟩
def mWhile (c : Rho → Option (Bool × Rho)) (b : SM) : Nat → SM
  | 0 => fun _ => none
  | n + 1 => fun ρ => (c ρ).bind fun x => if x.1 = true then (b x.2).bind fun o => match o with
      | .nx ρ' => mWhile c b n ρ'
      | .ct ρ' => mWhile c b n ρ'
      | .bk ρ' => some (.nx ρ')
      | .rt r ρ' => some (.rt r ρ')
    else some (.nx x.2)
theorem ms_while {tc : TT} {tb : TS} {c : Rho → Option (Bool × Rho)} {b : SM} {n : Nat} (hc : MT tc c) (hb : MS tb b) : MS (tWhile tc tb) (mWhile c b n) := by
  intro F B H σ ρ o D R e q
  refine ⟨fun m σ H => ∃ B ρ, Rel F B H σ ρ ∧ mWhile c b m ρ = some o, ⟨n, B, ρ, R, e⟩, ?_⟩
  rintro m σ1 H1 ⟨B1, ρ1, R1, e1⟩
  cases m with
  | zero => cases e1
  | succ m =>
    obtain ⟨x, e2, e3⟩ := Option.bind_eq_some_iff.mp (show (c ρ1).bind _ = some o from e1)
    refine hc F B1 H1 σ1 ρ1 x.1 x.2 _ R1 e2 fun B2 H2 E2 R2 => ?_
    by_cases h : x.1 = true
    · rw [if_pos h] at e3 ⊢
      obtain ⟨w, e4, e5⟩ := Option.bind_eq_some_iff.mp e3
      refine ⟨fun σ' H' => ∃ B' ρ', Rel F B' H' σ' ρ' ∧ mWhile c b m ρ' = some o, fun σ' H' h' => ⟨m, Nat.lt_succ_self _, h'⟩, ?_⟩
      refine hb F B2 H2 σ1 x.2 w _ R2 e4 ?_
      cases w with
      | nx ρ' => exact fun B' H' σ' R' => ⟨B', ρ', R', e5⟩
      | ct ρ' => exact fun B' H' σ' R' => ⟨B', ρ', R', e5⟩
      | bk ρ' => cases e5; exact q
      | rt r ρ' => cases e5; exact q
    · rw [if_neg h] at e3 ⊢
      cases e3
      exact q B2 H2 σ1 R2
def forL (g : D → Rho → Option Rho) (b : SM) : List D → SM
  | [] => fun ρ => some (.nx ρ)
  | d :: ds => fun ρ => (g d ρ).bind fun ρ1 => (b ρ1).bind fun o => match o with
      | .nx ρ' => forL g b ds ρ'
      | .ct ρ' => forL g b ds ρ'
      | .bk ρ' => some (.nx ρ')
      | .rt r ρ' => some (.rt r ρ')
def mFor (it : Rho → Option (List D × Rho)) (g : D → Rho → Option Rho) (b : SM) : SM := fun ρ => (it ρ).bind fun x => forL g b x.1 x.2
section
variable {F : Fr} {B B1 H H1 : Hp} {σ σ1 : St} {ρ ρ1 : Rho}
theorem Rel.up (R1 : Rel F B1 H1 σ1 ρ1) (R : Rel ⟨B1, F.H, F.io, F.Z⟩ B H σ ρ) : Rel F B H σ ρ :=
  ⟨R.sub, R1.sB.trans R.sB, R.sH, fun q h z => R.nB q h (R1.nB q h z), R.len, R.slot, R.dist, R.ownN, R.fx, R.ioN, R.tupB, R.exv, R.nz⟩
theorem Rel.down (R1 : Rel F B1 H1 σ1 ρ1) : Rel ⟨B1, F.H, F.io, F.Z⟩ B1 H1 σ1 ρ1 :=
  ⟨R1.sub, Same.refl _, R1.sH, fun q h z => z, R1.len, R1.slot, R1.dist, R1.ownN, R1.fx, R1.ioN, R1.tupB, R1.exv, R1.nz⟩
end
theorem OutOk.down {F : Fr} {B1 H1 : Hp} {σ1 : St} {ρ1 : Rho} (R1 : Rel F B1 H1 σ1 ρ1) {D : Ends} {o : Out} (h : OutOk F D o) : OutOk ⟨B1, F.H, F.io, F.Z⟩ D o := by
  cases o with
  | nx ρ => exact fun B H σ R => h B H σ (R1.up R)
  | bk ρ => exact fun B H σ R => h B H σ (R1.up R)
  | ct ρ => exact fun B H σ R => h B H σ (R1.up R)
  | rt r ρ => exact fun v B H σ R V => h v B H σ (R1.up R) V
theorem ms_for {ti : TI} {tg : TG} {tb : TS} {it : Rho → Option (List D × Rho)} {g : D → Rho → Option Rho} {b : SM} (hi : MF ti it) (hg : MG tg g) (hb : MS tb b) : MS (tFor ti tg tb) (mFor it g b) := by
  intro F B H σ ρ o D R e q
  obtain ⟨x, e1, e⟩ := Option.bind_eq_some_iff.mp e
  refine hi F B H σ ρ x.1 x.2 _ R e1 fun J B1 H1 E1 R1 I1 => ?_
  obtain ⟨ds, ρ1⟩ := x
  have q' := q.down R1
  refine ⟨fun i m σ H => m = ds.length - i ∧ i ≤ ds.length ∧ ∃ B ρ, Rel ⟨B1, F.H, F.io, F.Z⟩ B H σ ρ ∧ forL g b (ds.drop i) ρ = some o, ⟨ds.length, rfl, Nat.zero_le _, B1, ρ1, R1.down, e⟩, ?_⟩
  rintro i m σ2 H2 ⟨rfl, hil, B2, ρ2, R2, e2⟩
  have sH : Same B1 H2 := R2.sB.trans R2.sub
  by_cases hlt : i < ds.length
  · refine .inr ?_
    obtain ⟨go, yl⟩ := (I1 H2 sH).2 i ds[i] (List.getElem?_eq_getElem hlt)
    rw [List.drop_eq_getElem_cons hlt] at e2
    obtain ⟨ρ3, e3, e4⟩ := Option.bind_eq_some_iff.mp (show (g ds[i] ρ2).bind _ = some o from e2)
    obtain ⟨w, e5, e6⟩ := Option.bind_eq_some_iff.mp e4
    refine ⟨go, fun σ' H' => ∃ B' ρ', Rel ⟨B1, F.H, F.io, F.Z⟩ B' H' σ' ρ' ∧ forL g b (ds.drop (i + 1)) ρ' = some o, fun σ' H' h' => ⟨ds.length - (i + 1), by omega, rfl, hlt, h'⟩, fun y H3 hy => ?_⟩
    have had : ∃ B3, Rel ⟨B1, F.H, F.io, F.Z⟩ B3 H3 σ2 ρ2 ∧ Rep B3 y ds[i] := by
      rcases yl y H3 hy with ⟨rfl, h2⟩ | ⟨p, xs, cs, h1, rfl, h3, rfl, h5⟩
      · exact ⟨B2, R2, h2.mono R2.sB⟩
      · obtain ⟨R3, E3, e3⟩ := R2.layT (xs := xs) h3
        exact ⟨_, R3, by rw [h1]; exact .tup upd_same (h5.mono (R2.sB.trans e3))⟩
    obtain ⟨B3, R3, rp⟩ := had
    refine hg _ B3 H3 σ2 ρ2 y ds[i] ρ3 _ R3 rp e3 fun B4 H4 σ4 R4 _ => ?_
    refine hb _ B4 H4 σ4 ρ3 w _ R4 e5 ?_
    cases w with
    | nx ρ' => exact fun B' H' σ' R' => ⟨B', ρ', R', e6⟩
    | ct ρ' => exact fun B' H' σ' R' => ⟨B', ρ', R', e6⟩
    | bk ρ' => cases e6; exact q'
    | rt r ρ' => cases e6; exact q'
  · have hi' : i = ds.length := by omega
    subst hi'
    rw [List.drop_length] at e2
    cases e2
    exact .inl ⟨(I1 H2 sH).1, q' B2 H2 σ2 R2⟩
def retD : Out → Option (D × Bool)
  | .rt (d, .fz) _ => some (d, false)
  | .rt (d, .new) _ => some (d, true)
  | .rt (_, .at i) ρ => match ρ[i]? with
    | some (.own d) => some (d, true)
    | _ => none
  | .nx _ => some (.none, false)
  | _ => none
def fnM (n k : Nat) (b : SM) (ds : List D) : Option (D × Bool) := if ds.length = n then (b (ds.map .fz ++ List.replicate k .no)).bind retD else none
theorem fn_run {n k : Nat} {b : SM} {t : TS} {N : List Str} {vs : List V} {H : Hp} {Q : VK} {E : XK} (hb : MS t b) (hN : N.length = n + k) (h : spM (fnM n k b) vs H Q E) : t { nx := fun _ H' => Q .non H', rt := Q } (L2.start N vs) H := by
  obtain ⟨B, ds, d, o, sub, tB, rp, e, q⟩ := h
  unfold fnM at e
  split at e
  case isFalse => cases e
  rename_i hl
  obtain ⟨w, e1, e2⟩ := Option.bind_eq_some_iff.mp e
  have hvl : vs.length = n := rp.length.trans hl
  have own0 : ∀ (i : Nat) (s : Sl), (ds.map Sl.fz ++ List.replicate k .no)[i]? = some s → s.isRef = true → False := fun i s h1 h2 => by
    have := List.mem_of_getElem? h1
    rcases List.mem_append.mp this with h | h
    · obtain ⟨c, _, rfl⟩ := List.mem_map.mp h; cases h2
    · rw [List.eq_of_mem_replicate h] at h2; cases h2
  have ex0 : ∀ i : Nat, (ds.map Sl.fz ++ List.replicate k .no)[i]? = some Sl.ex → False := fun i h1 => by
    have := List.mem_of_getElem? h1
    rcases List.mem_append.mp this with h | h
    · obtain ⟨c, _, z⟩ := List.mem_map.mp h; cases z
    · have := List.eq_of_mem_replicate h; cases this
  have R : Rel ⟨B, H, [], fun q => H q ≠ none⟩ B H (L2.start N vs) (ds.map .fz ++ List.replicate k .no) := by
    refine ⟨sub, Same.refl _, fun _ _ z _ => z, fun _ _ z => z, ?_, fun i s hs => ?_, fun i j s t p h1 h2 => (own0 i s h1 (Sl.ref_of h2)).elim, fun i c p h1 => (own0 i _ h1 rfl).elim, (fun x hx => by cases hx), fun i c h1 => (own0 i _ h1 rfl).elim, tB, (fun i h1 => (ex0 i h1).elim), fun q o u h z => by rw [z] at h; cases h⟩
    · simp [L2.start, hl, hvl, hN]
    · by_cases hi : i < n
      · rw [List.getElem?_append_left (by simpa [hl] using hi), List.getElem?_map] at hs
        obtain ⟨c, h1, rfl⟩ := Option.map_eq_some_iff.mp hs
        obtain ⟨x, h2, h3⟩ := rp.get i c h1
        refine ⟨x, ?_, h3⟩
        unfold L2.start
        rw [List.getElem?_append_left (by simpa [hvl] using hi), List.getElem?_map, h2]
        rfl
      · rw [List.getElem?_append_right (by simpa [hl] using Nat.le_of_not_lt hi)] at hs
        have := List.eq_of_mem_replicate (List.mem_of_getElem? hs)
        subst this
        trivial
  refine hb _ B H _ _ w _ R e1 ?_
  have post : ∀ {B' H' : Hp} {σ' : St} {ρ' : Rho}, Rel ⟨B, H, [], fun q => H q ≠ none⟩ B' H' σ' ρ' → Same H H' ∧ Same B B' ∧ Same B' H' ∧ (∀ q, H q ≠ none → B q = none → B' q = none) ∧ (∀ q xs, H' q = some (.tup xs) → B' q = some (.tup xs)) ∧ ∀ q o u, H' q = some (.frz o u) → H q ≠ none := fun R' =>
    ⟨fun q u z => R'.sH q u z (fun x hx => by cases hx), R'.sB, R'.sub, R'.nB, R'.tupB, R'.nz⟩
  cases w with
  | nx ρ' =>
    cases e2
    intro B' H' σ' R'
    obtain ⟨p1, p2, p3, p4, p5, p6⟩ := post R'
    exact q _ B' H' ⟨p1, p2, p3, p4, p5, p6, .non⟩
  | bk ρ' => cases e2
  | ct ρ' => cases e2
  | rt r ρ' =>
    intro v B' H' σ' R' V'
    obtain ⟨p1, p2, p3, p4, p5, p6⟩ := post R'
    obtain ⟨c, kd⟩ := r
    cases kd with
    | fz => cases e2; exact q v B' H' ⟨p1, p2, p3, p4, p5, p6, V'⟩
    | new =>
      cases e2
      obtain ⟨p, rfl, h1, h2, h3, _⟩ := V'
      exact q _ B' H' ⟨p1, p2, p3, p4, p5, p6, ⟨p, rfl, h2, h1, h3⟩⟩
    | ro => cases e2
    | «at» i =>
      obtain ⟨s, h1, h2, h3, h4⟩ := V'
      have e2' : (match ρ'[i]? with
        | some (.own d) => some (d, true)
        | _ => none) = some (d, o) := e2
      rw [h1] at e2'
      cases s with
      | own c' =>
        cases e2'
        obtain ⟨p, g1, g2, g3⟩ := R'.slot i _ h1
        have h4' : σ'[i]? = some (some v) := h4
        rw [h4'] at g1
        cases g1
        exact q _ B' H' ⟨p1, p2, p3, p4, p5, p6, ⟨p, rfl, R'.ownN i _ p h1 h4', g2, g3⟩⟩
      | _ => cases e2'
theorem spM_len {n k : Nat} {b : SM} {vs : List V} {H : Hp} {Q : VK} {E : XK} (h : spM (fnM n k b) vs H Q E) : vs.length = n := by
  obtain ⟨B, ds, d, o, sub, tB, rp, e, q⟩ := h
  unfold fnM at e
  split at e
  · rename_i hl; exact rp.length.trans hl
  · cases e
end Mir
set_option Elab.async false
set_option linter.all false
set_option maxRecDepth 100000
namespace Mir
open PySem L2 PySem.Spec PyProof.Rows
variable [Zc]
section
variable {X : Cx}
def rCatR : R2 := fun x y H Q => ∃ l b xs zs, x = .ref l ∧ y = .ref b ∧ Rd H l (.lst xs) ∧ Rd H b (.lst zs) ∧ xs.length + zs.length ≤ sizeLine ∧ ∀ p, H p = none → Q (.ref p) (upd H p (.lst (xs ++ zs)))
theorem op_catR : OpR X (binaryOp .Add) rCatR := by
  intro pins s σ H x y v u Q I rx ry h
  obtain ⟨l, b, xs, zs, rfl, rfl, hH, hB, hz, q⟩ := h
  cases rx
  cases ry
  obtain ⟨z, its, n, r, e⟩ := hH.ok I.hok
  obtain ⟨z2, its2, n2, r2, e2⟩ := hB.ok I.hok
  have hl := r.length
  have hl2 := r2.length
  refine PySem.P.add_list e e2 ?_ (by rw [List.size_toArray, List.size_toArray]; omega)
  have ea : its.toArray ++ its2.toArray = (its ++ its2).toArray := by simp
  rw [ea]
  exact ⟨.ref _, _, I.lnew (t' := s.toks) (r.append r2) (by rw [List.length_append]; omega), rfl, q _ I.fresh⟩
def rPlusM (K : PySem.W.Frag) : R2 := fun x y H Q => rI0 (fun i j => .int (i + j)) x y H Q ∨ rCatR x y H Q ∨ (∃ i j, x = .str i ∧ y = .str j ∧ i.length + j.length ≤ sizeLine ∧ Q (.str (i ++ j)) H) ∨ rCatT K x y H Q
theorem op_addM : OpR X (binaryOp .Add) (rPlusM X.K) := op_add.or (op_catR.or (op_add_str.or op_catT))
end
theorem res_int {B H : Hp} {i : Int} {k : VK → Prop} (h : ∀ Q : VK, Q (.int i) H → k Q) : ResOk B H (.int i, false) k := ⟨_, .int i, h⟩
theorem res_bool {B H : Hp} {i : Bool} {k : VK → Prop} (h : ∀ Q : VK, Q (.bl i) H → k Q) : ResOk B H (.bool i, false) k := ⟨_, .bl i, h⟩
theorem res_str {B H : Hp} {i : Str} {k : VK → Prop} (h : ∀ Q : VK, Q (.str i) H → k Q) : ResOk B H (.str i, false) k := ⟨_, .str i, h⟩
noncomputable def gAdd : D → D → Option (D × Bool)
  | .int i, .int j => some (.int (i + j), false)
  | .list a, .list b => cIf (a.length + b.length ≤ sizeLine) (some (.list (a ++ b), true)) none
  | .str a, .str b => cIf (a.length + b.length ≤ sizeLine) (some (.str (a ++ b), false)) none
  | .tuple (c :: a), .tuple b => cIf ((c :: a).length + b.length ≤ sizeLine ∧ b ≠ []) (some (.tuple ((c :: a) ++ b), true)) none
  | _, _ => none
theorem J_add {K : PySem.W.Frag} : OpJ (rPlusM K) gAdd := by
  intro B H x y c d res s hx hy e
  unfold gAdd at e
  split at e
  · cases e
    have h1 := hx.int; have h2 := hy.int; subst h1 h2
    exact res_int fun Q q => .inl ⟨_, _, rfl, rfl, q⟩
  · obtain ⟨hz, e⟩ := cIf_eq e
    · cases e
      obtain ⟨p, xs, rfl, r1, rp1⟩ := hx.list s
      obtain ⟨p2, ys, rfl, r2, rp2⟩ := hy.list s
      exact ⟨xs ++ ys, rp1.append rp2, fun Q q => .inr (.inl ⟨_, _, _, _, rfl, rfl, r1, r2, by rw [rp1.length, rp2.length]; exact hz, q⟩)⟩
  · obtain ⟨hz, e⟩ := cIf_eq e
    · cases e
      have h1 := hx.str; have h2 := hy.str; subst h1 h2
      exact res_str fun Q q => .inr (.inr (.inl ⟨_, _, rfl, rfl, hz, q⟩))
  · obtain ⟨hz, e⟩ := cIf_eq e
    · cases e
      obtain ⟨p, xs, rfl, r1, rp1⟩ := hx.tuple s
      obtain ⟨p2, ys, rfl, r2, rp2⟩ := hy.tuple s
      have hne : xs ≠ [] := by intro z; subst z; cases rp1
      have hne2 : ys ≠ [] := by intro z; subst z; cases rp2; exact hz.2 rfl
      refine ⟨xs ++ ys, rp1.append rp2, fun Q q => .inr (.inr (.inr ⟨_, _, xs, ys, rfl, rfl, .inl (.inl r1), .inl (.inl r2), ?_⟩))⟩
      exact ⟨hne, by rw [rp1.length, rp2.length]; exact hz.1, fun z => absurd z hne2, fun _ => q⟩
  · cases e
noncomputable def gI (C : Int → Int → Prop) (f : Int → Int → Int) : D → D → Option (D × Bool)
  | .int i, .int j => cIf (C i j) (some (.int (f i j), false)) none
  | _, _ => none
theorem J_I {C : Int → Int → Prop} {f : Int → Int → Int} : OpJ (rI C fun i j => .int (f i j)) (gI C f) := by
  intro B H x y c d res s hx hy e
  unfold gI at e
  split at e
  · obtain ⟨hc, e⟩ := cIf_eq e
    · cases e
      have h1 := hx.int; have h2 := hy.int; subst h1 h2
      exact res_int fun Q q => ⟨_, _, rfl, rfl, hc, q⟩
  · cases e
def gI0 (f : Int → Int → Int) : D → D → Option (D × Bool)
  | .int i, .int j => some (.int (f i j), false)
  | _, _ => none
theorem J_I0 {f : Int → Int → Int} : OpJ (rI0 fun i j => .int (f i j)) (gI0 f) := by
  intro B H x y c d res s hx hy e
  unfold gI0 at e
  split at e
  · cases e
    have h1 := hx.int; have h2 := hy.int; subst h1 h2
    exact res_int fun Q q => ⟨_, _, rfl, rfl, q⟩
  · cases e
def gB0 (f : Int → Int → Bool) : D → D → Option (D × Bool)
  | .int i, .int j => some (.bool (f i j), false)
  | _, _ => none
theorem J_B0 {f : Int → Int → Bool} : OpJ (rI0 fun i j => .bl (f i j)) (gB0 f) := by
  intro B H x y c d res s hx hy e
  unfold gB0 at e
  split at e
  · cases e
    have h1 := hx.int; have h2 := hy.int; subst h1 h2
    exact res_bool fun Q q => ⟨_, _, rfl, rfl, q⟩
  · cases e
abbrev gSub := gI0 fun i j => i - j
abbrev gLt := gB0 fun i j => decide (i < j)
abbrev gLe := gB0 fun i j => decide (i ≤ j)
abbrev gGt := gB0 fun i j => decide (j < i)
abbrev gGe := gB0 fun i j => decide (j ≤ i)
noncomputable abbrev gDiv := gI CDiv fun i j => i / j
noncomputable abbrev gMod := gI (fun _ j => 0 < j) fun i j => i % j
section
variable {X : Cx}
def rTimesM : R2 := fun x y H Q => rI IntMulOk (fun i j => .int (i * j)) x y H Q ∨ rRep x y H Q
theorem op_mulM : OpR X (binaryOp .Mult) rTimesM := op_mulB.or op_rep
end
noncomputable def gMul : D → D → Option (D × Bool)
  | .int i, .int j => cIf (IntMulOk i j) (some (.int (i * j), false)) none
  | _, _ => none
theorem J_mul : OpJ rTimesM gMul := by
  intro B H x y c d res s hx hy e
  unfold gMul at e
  split at e
  · obtain ⟨hc, e⟩ := cIf_eq e
    · cases e
      have h1 := hx.int; have h2 := hy.int; subst h1 h2
      exact res_int fun Q q => .inl ⟨_, _, rfl, rfl, hc, q⟩
  · cases e
mutual
theorem Rep.data {K : PySem.W.Frag} {H : Hp} : ∀ {v : V} {d : D}, Rep H v d → d.canLay0 = true → DataV K H v d
  | _, _, .non, _ => .non
  | _, _, .bl b, _ => .bl b
  | _, _, .int i, _ => .int i
  | _, _, .str x, _ => .str x
  | _, _, .lst h r, e => .lst (rd_sq h) (Reps.data r (by simpa [PyData.canLay0] using e))
  | _, _, .tup h r, e => .tup (.inl (.inl h)) (Reps.data r (by simpa [PyData.canLay0] using e))
  | _, _, .dct _ _, e => by simp [PyData.canLay0] at e
theorem Reps.data {K : PySem.W.Frag} {H : Hp} : ∀ {v : List V} {d : List D}, Reps H v d → PyData.canLayAll0 d = true → DataVs K H v d
  | _, _, .nil, _ => .nil
  | _, _, .cons a b, e => by
    simp only [PyData.canLayAll0, Bool.and_eq_true] at e
    exact .cons (Rep.data a e.1) (Reps.data b e.2)
end
def gEq : D → D → Option (D × Bool) := fun c d => if SeqAt.shaped c = true ∧ SeqAt.shaped d = true then some (.bool (PyData.eqv c d), false) else none
def gNe : D → D → Option (D × Bool) := fun c d => if SeqAt.shaped c = true ∧ SeqAt.shaped d = true then some (.bool (!PyData.eqv c d), false) else none
theorem J_eq {K : PySem.W.Frag} : OpJ (rEqD K) gEq := by
  intro B H x y c d res s hx hy e
  unfold gEq at e
  split at e
  · rename_i h
    cases e
    exact res_bool fun Q q => ⟨_, _, (hx.rep s).data (SeqAt.canLay_of_shaped h.1), (hy.rep s).data (SeqAt.canLay_of_shaped h.2), h.1, h.2, q⟩
  · cases e
theorem J_ne {K : PySem.W.Frag} : OpJ (rNeD K) gNe := by
  intro B H x y c d res s hx hy e
  unfold gNe at e
  split at e
  · rename_i h
    cases e
    exact res_bool fun Q q => ⟨_, _, (hx.rep s).data (SeqAt.canLay_of_shaped h.1), (hy.rep s).data (SeqAt.canLay_of_shaped h.2), h.1, h.2, q⟩
  · cases e
def isNone : D → Bool
  | .none => true
  | _ => false
theorem Rep.isNone {H : Hp} {v : V} {d : D} (h : Rep H v d) : decide (v = .non) = Mir.isNone d := by cases h <;> rfl
def gIs : D → D → Option (D × Bool)
  | c, .none => some (.bool (isNone c), false)
  | _, _ => none
def gIsNot : D → D → Option (D × Bool)
  | c, .none => some (.bool (!isNone c), false)
  | _, _ => none
def gNeg : D → Option (D × Bool)
  | .int i => some (.int (-i), false)
  | _ => none
theorem J_neg : UnJ (rU fun i => .int (-i)) gNeg := by
  intro B H x c res s hx e
  unfold gNeg at e
  split at e
  · cases e
    have h1 := hx.int; subst h1
    exact res_int fun Q q => ⟨_, rfl, q⟩
  · cases e
def gIx : D → D → Option (D × Bool)
  | .list ds, .int i => (atI ds i).map fun d => (d, false)
  | .tuple ds, .int i => (atI ds i).map fun d => (d, false)
  | _, _ => none
theorem Reps.atI {H : Hp} {vs : List V} {ds : List D} (r : Reps H vs ds) {i : Int} {d : D} (h : L2.atI ds i = some d) : ∃ v, L2.atI vs i = some v ∧ Rep H v d := by
  unfold L2.atI at h ⊢
  rw [r.length]
  obtain ⟨j, h1, h2⟩ := Option.bind_eq_some_iff.mp h
  obtain ⟨v, h3, h4⟩ := r.get j d h2
  exact ⟨v, by rw [h1]; exact h3, h4⟩
theorem J_ix {K : PySem.W.Frag} : OpJ (rIx K) gIx := by
  intro B H x y c d res s hx hy e
  unfold gIx at e
  split at e
  · obtain ⟨w, h1, h2⟩ := Option.map_eq_some_iff.mp e
    cases h2
    obtain ⟨p, xs, rfl, r1, rp1⟩ := hx.list s
    have h2 := hy.int; subst h2
    obtain ⟨v, h3, h4⟩ := rp1.atI h1
    exact ⟨v, h4, fun Q q => .inl ⟨_, _, _, _, rfl, rfl, rd_sq r1, h3, q⟩⟩
  · obtain ⟨w, h1, h2⟩ := Option.map_eq_some_iff.mp e
    cases h2
    obtain ⟨p, xs, rfl, r1, rp1⟩ := hx.tuple s
    have h2 := hy.int; subst h2
    obtain ⟨v, h3, h4⟩ := rp1.atI h1
    exact ⟨v, h4, fun Q q => .inr (.inl ⟨_, _, _, _, rfl, rfl, .inl (.inl r1), h3, q⟩)⟩
  · cases e
def cutD (ds : List D) (lo hi : Option Int) : List D := (ds.drop (HT.sIx ds.length 0 lo)).take (HT.sIx ds.length ds.length hi - HT.sIx ds.length 0 lo)
theorem Reps.cut {H : Hp} {vs : List V} {ds : List D} (r : Reps H vs ds) (lo hi : Option Int) : Reps H (cutV vs lo hi) (cutD ds lo hi) := by
  unfold cutV cutD
  rw [r.length]
  exact (r.drop _).take _
def gSl : D → Option Int → Option Int → Option (D × Bool)
  | .list ds, lo, hi => some (.list (cutD ds lo hi), true)
  | _, _, _ => none
theorem J_sl {K : PySem.W.Frag} : SlJ (rSlL K) gSl := by
  intro B H x c l u res s hx e
  unfold gSl at e
  split at e
  · cases e
    obtain ⟨p, xs, rfl, r1, rp1⟩ := hx.list s
    exact ⟨_, rp1.cut _ _, fun Q q => ⟨_, _, rfl, rd_sq r1, q⟩⟩
  · cases e
noncomputable def gLen : List D → Option (D × Bool)
  | [.list ds] => some (.int ds.length, false)
  | [.tuple ds] => some (.int ds.length, false)
  | [.str x] => cIf (x.length ≤ sizeLine) (some (.int x.length, false)) none
  | _ => none
theorem views1 {B H : Hp} {vs : List V} {d : D} (h : Views B H vs [d]) : ∃ v, vs = [v] ∧ View B H v d := by
  match vs, h with
  | [v], ⟨h, _⟩ => exact ⟨v, rfl, h⟩
theorem J_len {K : PySem.W.Frag} : CallJ (rLen K) gLen := by
  intro B H vs ds res s h e
  unfold gLen at e
  split at e
  · cases e
    obtain ⟨v, rfl, hh⟩ := views1 h
    obtain ⟨p, xs, rfl, r1, rp1⟩ := hh.list s
    exact res_int fun Q q => .inl ⟨_, _, rfl, .inl (rd_sq r1), by rw [rp1.length]; exact q⟩
  · cases e
    obtain ⟨v, rfl, hh⟩ := views1 h
    obtain ⟨p, xs, rfl, r1, rp1⟩ := hh.tuple s
    exact res_int fun Q q => .inl ⟨_, _, rfl, .inr (.inl (.inl r1)), by rw [rp1.length]; exact q⟩
  · obtain ⟨hz, e⟩ := cIf_eq e
    · cases e
      obtain ⟨v, rfl, hh⟩ := views1 h
      have := hh.str; subst this
      exact res_int fun Q q => .inr ⟨_, rfl, hz, q⟩
  · cases e
def gMax : List D → Option (D × Bool)
  | [.int i, .int j] => some (.int (if j > i then j else i), false)
  | _ => none
def gMin : List D → Option (D × Bool)
  | [.int i, .int j] => some (.int (if j < i then j else i), false)
  | _ => none
def gAbs : List D → Option (D × Bool)
  | [.int i] => some (.int (if i < 0 then -i else i), false)
  | _ => none
def gInt : List D → Option (D × Bool)
  | [.int i] => some (.int i, false)
  | [.bool b] => some (.int (if b then 1 else 0), false)
  | _ => none
theorem J_int : CallJ (fun xs H Q => (∃ i, xs = [.int i] ∧ Q (.int i) H) ∨ ∃ k, xs = [.bl k] ∧ Q (.int (if k then 1 else 0)) H) gInt := by
  intro B H vs ds res s h e
  unfold gInt at e
  split at e
  · cases e
    obtain ⟨v, rfl, h1⟩ := views1 h
    have := h1.int; subst this
    exact res_int fun Q q => .inl ⟨_, rfl, q⟩
  · cases e
    obtain ⟨v, rfl, h1⟩ := views1 h
    have := h1.bool; subst this
    exact res_int fun Q q => .inr ⟨_, rfl, q⟩
  · cases e
def intsOf : List D → Option (List Int)
  | [] => some []
  | .int i :: ds => (intsOf ds).map (i :: ·)
  | _ => none
theorem Reps.ints {H : Hp} : ∀ {vs : List V} {ds : List D} {ns : List Int}, Reps H vs ds → intsOf ds = some ns → vs = ns.map V.int
  | _, _, _, .nil, e => by cases e; rfl
  | _, _, _, .cons (d := d) a b, e => by
    cases d with
    | int i =>
      obtain ⟨ms, h1, h2⟩ := Option.map_eq_some_iff.mp (show (intsOf _).map _ = some _ from e)
      cases h2
      cases a
      rw [List.map_cons, Reps.ints b h1]
    | _ => cases e
def gSum : List D → Option (D × Bool)
  | [.list ds] => (intsOf ds).map fun ns => (.int ns.sum, false)
  | _ => none
theorem J_sum {K : PySem.W.Frag} : CallJ (rSum K) gSum := by
  intro B H vs ds res s h e
  unfold gSum at e
  split at e
  · obtain ⟨ns, h1, h2⟩ := Option.map_eq_some_iff.mp e
    cases h2
    obtain ⟨v, rfl, hh⟩ := views1 h
    obtain ⟨p, xs, rfl, r1, rp1⟩ := hh.list s
    have := rp1.ints h1; subst this
    exact res_int fun Q q => ⟨_, _, rfl, rd_sq r1, q⟩
  · cases e
def gList : List D → Option (D × Bool)
  | [.list ds] => some (.list ds, true)
  | [.tuple ds] => some (.list ds, true)
  | _ => none
theorem J_list {K : PySem.W.Frag} : CallJ (fun xs H Q => ∃ p ys, xs = [.ref p] ∧ (SqL K H p ys ∨ SqT K H p ys) ∧ ∀ l, H l = none → Q (.ref l) (upd H l (.lst ys))) gList := by
  intro B H vs ds res s h e
  unfold gList at e
  split at e
  · cases e
    obtain ⟨v, rfl, hh⟩ := views1 h
    obtain ⟨p, xs, rfl, r1, rp1⟩ := hh.list s
    exact ⟨xs, rp1, fun Q q => ⟨_, _, rfl, .inl (rd_sq r1), q⟩⟩
  · cases e
    obtain ⟨v, rfl, hh⟩ := views1 h
    obtain ⟨p, xs, rfl, r1, rp1⟩ := hh.tuple s
    exact ⟨xs, rp1, fun Q q => ⟨_, _, rfl, .inr (.inl (.inl r1)), q⟩⟩
  · cases e
def tyD : D → String
  | .none => "NoneType"
  | .bool _ => "bool"
  | .int _ => "int"
  | .str _ => "str"
  | .list _ => "list"
  | .tuple _ => "tuple"
  | .dict _ => "?"
theorem Rep.ty {H : Hp} {v : V} {d : D} (h : Rep H v d) (hd : tyD d ≠ "?") : tyN H v = tyD d := by
  cases h with
  | non => rfl
  | bl _ => rfl
  | int _ => rfl
  | str _ => rfl
  | lst h _ =>
    rcases h with h | ⟨o, h⟩
    · unfold tyN; simp only [h]; rfl
    · unfold tyN; simp only [h]; rfl
  | tup h _ => unfold tyN; simp only [h]; rfl
  | dct _ _ => exact absurd rfl hd
def gIsi (n : String) : D → Option (D × Bool) := fun d => if tyD d ≠ "?" ∧ n ∈ tyAsked then some (.bool (tyIs (tyD d) n), false) else none
def mIsi (n : String) (a : PM) : PM := mUn (gIsi n) a
theorem me_isi {n : String} {ta : TE} {a : PM} (ha : ME ta a) : ME (tCB rIsi (tCons ta (tCons (tC (.ty n)) tNil))) (mIsi n a) := by
  intro F B H σ ρ r0 ρ' Q R e q
  obtain ⟨x, e1, e⟩ := Option.bind_eq_some_iff.mp e
  obtain ⟨res, e4, e⟩ := Option.map_eq_some_iff.mp e
  cases e
  refine ha.sv F B H σ ρ x.1 x.2 _ R e1 fun v B1 H1 E1 R1 V1 N1 => ?_
  unfold gIsi at e4
  split at e4
  · rename_i hd
    cases e4
    have rp := (V1.view R1).rep R1.sub
    have ht := rp.ty hd.1
    have hk : tyD x.1.1 ∈ tyKnown := by
      have h2 := hd.1
      revert h2
      cases x.1.1 with
      | none => intro _; show "NoneType" ∈ tyKnown; decide
      | bool _ => intro _; show "bool" ∈ tyKnown; decide
      | int _ => intro _; show "int" ∈ tyKnown; decide
      | str _ => intro _; show "str" ∈ tyKnown; decide
      | list _ => intro _; show "list" ∈ tyKnown; decide
      | tuple _ => intro _; show "tuple" ∈ tyKnown; decide
      | dict _ => intro h2; exact absurd rfl h2
    exact ⟨v, n, rfl, by rw [ht]; exact hk, hd.2, by rw [ht]; exact q _ B1 H1 E1 R1 (.bl _) fun p z => by cases z⟩
  · cases e4
def flatD : D → Bool
  | .none => true
  | .bool _ => true
  | .int _ => true
  | .str _ => true
  | _ => false
theorem Rep.flat {H : Hp} {v : V} {d : D} (h : Rep H v d) (e : flatD d = true) : flatV v = true := by cases h <;> first | rfl | cases e
theorem Reps.flatAll {H : Hp} : ∀ {v : List V} {d : List D}, Reps H v d → d.all flatD = true → v.all flatV = true
  | _, _, .nil, _ => rfl
  | _, _, .cons a b, e => by
    simp only [List.all_cons, Bool.and_eq_true] at e ⊢
    exact ⟨a.flat e.1, Reps.flatAll b e.2⟩
theorem Rep.eqv {H : Hp} {v w : V} {c d : D} (h : Rep H v c) (g : Rep H w d) (e : flatD c = true) (e' : flatD d = true) : eqV v w = PyData.eqv c d := by
  cases h <;> first | (cases e; done) | (cases g <;> first | (cases e'; done) | (simp [eqV, PyData.eqv]))
def gCount : D → List D → Option (D × Bool)
  | .list ds, [d] => if flatD d = true ∧ ds.all flatD = true then some (.int ((ds.countP fun c => PyData.eqv c d : Nat) : Int), false) else none
  | _, _ => none
theorem Reps.countP {H : Hp} {w : V} {d : D} (g : Rep H w d) (e' : flatD d = true) : ∀ {vs : List V} {ds : List D}, Reps H vs ds → ds.all flatD = true → vs.countP (fun z => eqV z w) = ds.countP fun c => PyData.eqv c d
  | _, _, .nil, _ => rfl
  | _, _, .cons a b, e => by
    simp only [List.all_cons, Bool.and_eq_true] at e
    rw [List.countP_cons, List.countP_cons, Reps.countP g e' b e.2, a.eqv g e.1 e']
theorem J_count {K : PySem.W.Frag} : MtJ K "list" (rCount K) gCount := by
  constructor
  · intro B H x c ds res s hx e
    unfold gCount at e
    split at e
    · obtain ⟨p, xs, rfl, r1, rp1⟩ := hx.list s
      exact .inl ⟨rfl, xs, rd_sq r1⟩
    · cases e
  · intro B H x c vs ds res s hx hv e
    unfold gCount at e
    split at e
    · split at e
      · rename_i hf
        cases e
        obtain ⟨p, xs, rfl, r1, rp1⟩ := hx.list s
        obtain ⟨w, rfl, hw⟩ := views1 hv
        have rw' := hw.rep s
        have rp := rp1.mono s
        exact res_int fun Q q => ⟨_, _, _, rfl, rfl, rd_sq r1, rw'.flat hf.1, rp.flatAll hf.2, by rw [rp.countP rw' hf.1 hf.2]; exact q⟩
      · cases e
    · cases e
noncomputable def fAppend : List D → List D → Option (List D × D) := fun ds as => match as with
  | [d] => cIf (ds.length < sizeLine) (some (ds ++ [d], .none)) none
  | _ => none
theorem J_append : MutJ rAppend fAppend := by
  intro B H p xs ds vs as w hp rx s rv e
  unfold fAppend at e
  split at e
  · obtain ⟨hz, e⟩ := cIf_eq e
    · cases e
      cases rv with
      | cons a b =>
        cases b
        exact ⟨_, _, rx.append (.cons a .nil), .non, fun Q q => ⟨_, _, _, rfl, rfl, hp, by rw [rx.length]; exact hz, q⟩⟩
  · cases e
def fPop : List D → List D → Option (List D × D) := fun ds as => match as with
  | [] => (ds[ds.length - 1]?).map fun d => (ds.dropLast, d)
  | _ => none
def fClear : List D → List D → Option (List D × D) := fun ds as => match as with
  | [] => some ([], .none)
  | _ => none
end Mir
set_option Elab.async false
set_option linter.all false
set_option maxRecDepth 100000
namespace Mir
open PySem L2 PySem.Spec PyProof.Rows
variable [Zc]
section
variable {X : Cx} {K : PySem.W.Frag}
theorem op_addK (h : X.K = K) : OpR X (binaryOp .Add) (rPlusM K) := h ▸ op_addM
theorem op_eqK (h : X.K = K) (hu : X.A.units + 64 < cLine) : OpR X (compareOp .Eq) (rEqD K) := h ▸ op_eqD hu
theorem op_neK (h : X.K = K) (hu : X.A.units + 64 < cLine) : OpR X (compareOp .NotEq) (rNeD K) := h ▸ op_neD hu
theorem ix_seqK (h : X.K = K) : IxR X (rIx K) := h ▸ ix_seq
theorem sl_listK (h : X.K = K) : SlR X (rSlL K) := h ▸ sl_list
theorem call_lenK (h : X.K = K) : CallR X (.builtin "len") (rLen K) := h ▸ call_lenU
theorem call_sumK (h : X.K = K) (hc : X.calm = true) : CallR X (.builtin "sum") (rSum K) := h ▸ call_sum hc
theorem call_listK (h : X.K = K) : CallR X (.type "list") (fun xs H Q => ∃ p ys, xs = [.ref p] ∧ (SqL K H p ys ∨ SqT K H p ys) ∧ ∀ l, H l = none → Q (.ref l) (upd H l (.lst ys))) := h ▸ call_list_of
theorem mt_countK (h : X.K = K) : MtR X "list.count" (rCount K) := h ▸ mt_count
variable {tg l o e : Expr} {es : List Expr} {tl to : TE} {t : TA} {name : Str} {apos cpos : Pos} {T id : String} {r : V → List V → Hp → VK → Prop}
theorem pi_listK (h : X.K = K) (hl : PE X l tl) : PI X tg l (iList K tl) := h ▸ pi_list hl
theorem pe_bm0K (h : X.K = K) (pa : PlainAttrs T) (slot : Slot T name id) (hty : typeOf (.builtin id) = pure (.type "method_descriptor")) (hm : MtR X id r) (ho : PE X o to)
    (hbase : attributeBase o name X.env (eval o X.env) = eval o X.env := by rfl) (hline : (apos.endLine == cpos.line) = true := by rfl) : PE X (.Call (.Attribute o name apos) [] [] cpos) (tBM0 K T r to) := h ▸ pe_bm0 pa slot hty hm ho hbase hline
theorem pe_bmK (h : X.K = K) (pa : PlainAttrs T) (slot : Slot T name id) (hty : typeOf (.builtin id) = pure (.type "method_descriptor")) (hm : MtR X id r) (ho : PE X o to) (ha : PA X (e :: es) t)
    (hbase : attributeBase o name X.env (eval o X.env) = eval o X.env := by rfl)
    (hfew : ((backTo cpos (starEach (e :: es) X.env)).all (fun x => !x.1) && (backToKw cpos (keywordEach [] X.env)).all (fun x => x.1.isSome)
      && decide ((e :: es).length + ([] : List Keyword).length + (if ([] : List Keyword).isEmpty then 0 else 1) < 30)) = true := by rfl)
    (hline : (apos.endLine == cpos.line) = true := by rfl) (hs : starEach (e :: es) X.env = (false, eval e X.env) :: starEach es X.env := by rfl) (hplain : (backTo cpos (starEach es X.env)).any (·.1) = false := by rfl) :
    PE X (.Call (.Attribute o name apos) (e :: es) [] cpos) (tBM K T r to t) := h ▸ pe_bm pa slot hty hm ho ha hbase hfew hline hs hplain
end
noncomputable def repD : D → D → Option D
  | .list ds, .int k => cIf (-(2 ^ 63) ≤ k ∧ k < 2 ^ 63 ∧ ds.length * k.toNat ≤ sizeLine) (some (.list (List.replicate k.toNat ds).flatten)) none
  | _, _ => none
noncomputable def mRep (m : Rho → Option (List RV × Rho)) (b : PM) : PM := fun ρ => (mLst m ρ).bind fun x => (sv b x.2).bind fun y => (repD x.1.1 y.1.1).map fun d => ((d, .new), y.2)
theorem me_rep {t : TA} {tb : TE} {m : Rho → Option (List RV × Rho)} {b : PM} (h : MA t m) (hb : ME tb b) : ME (tOp rTimesM (tLst t) tb) (mRep m b) := by
  intro F B H σ ρ r0 ρ' Q R e q
  obtain ⟨x, e1, e⟩ := Option.bind_eq_some_iff.mp e
  obtain ⟨y, e2, e⟩ := Option.bind_eq_some_iff.mp e
  obtain ⟨d, e3, e⟩ := Option.map_eq_some_iff.mp e
  cases e
  have hk : x.1.2 = .new := by
    obtain ⟨z, _, e5⟩ := Option.bind_eq_some_iff.mp e1
    obtain ⟨w, _, e5⟩ := Option.bind_eq_some_iff.mp e5
    obtain ⟨_, e5⟩ := cIf_eq e5
    cases e5; rfl
  refine me_lst h F B H σ ρ x.1 x.2 _ R e1 fun v B1 H1 E1 R1 V1 N1 => ?_
  obtain ⟨⟨c, k⟩, ρ1⟩ := x
  cases (show k = .new from hk)
  obtain ⟨B2, R2, rp, s2, k2⟩ := R1.freezeNew V1
  obtain ⟨p, rfl, hB, hF, ow, nn⟩ := V1
  unfold repD at e3
  split at e3
  case h_2 => cases e3
  rename_i ds n hc hn
  obtain ⟨hz, e3⟩ := cIf_eq e3
  cases e3
  have hc' : c = .list ds := hc
  subst hc'
  obtain ⟨xs, hp, rx⟩ := ow.list
  have hp2 : B2 p = some (.lst xs) := by
    cases rp with
    | lst h r =>
      rcases h with h | ⟨o, h⟩
      · have := R2.sub _ _ h
        rw [hp] at this; cases this; exact h
      · have := R2.sub _ _ h
        rw [hp] at this; cases this
  refine hb.sv F B2 H1 σ ρ1 y.1 y.2 _ R2 e2 fun u B3 H3 E3 R3 V3 N3 => ?_
  have vv := V3.view R3
  rw [hn] at vv
  have h3 := R3.sub _ _ (E3.sB _ _ hp2)
  have E12 : Ext σ ρ B H ρ1 B2 H1 := ⟨E1.sB.trans s2, fun q o h1 h2 => by
    obtain ⟨h3, h4⟩ := E1.keep q o h1 h2
    refine ⟨h3, fun z => ?_⟩
    rw [k2 q fun y => by
      have := N1 q rfl y
      rw [h1] at this; cases this]
    exact h4 z, E1.own, E1.ref, E1.live⟩
  have rx3 : Reps B3 xs ds := rx.mono (s2.trans E3.sB)
  have := res_end (res := (.list (List.replicate n.toNat ds).flatten, true)) (k := fun Q => rTimesM (.ref p) u H3 Q) (Q := Q) R3
    ⟨_, rx3.flat n.toNat, fun Q h => .inr ⟨p, n, xs, rfl, vv.int, h3, hz.1, hz.2.1, by rw [rx3.length]; exact hz.2.2, h⟩⟩
    fun v B' H' E R' V' N => q v B' H' (E12.trans (E3.trans E)) R' V' fun p' z1 z2 => E12.live p' (E3.live p' (N p' z1 z2))
  exact this
def noLists (K : PySem.W.Frag) : Bool := K.all fun p => match p.2.cls with
  | .type n => n != "list"
  | _ => true
theorem mem_look {α : Type} : ∀ {l : List (Addr × α)} {a : Addr} {o : α}, l.lookup a = some o → (a, o) ∈ l
  | (b, c) :: l, a, o, h => by
    rw [List.lookup_cons] at h
    by_cases z : a = b
    · subst z
      rw [beq_self_eq_true] at h
      cases h
      exact List.mem_cons_self
    · rw [beq_eq_false_iff_ne.mpr z] at h
      exact List.mem_cons_of_mem _ (mem_look h)
theorem sq_rd {K : PySem.W.Frag} (h : noLists K = true) {H : Hp} {a : Addr} {xs : List V} (s : SqL K H a xs) : Rd H a (.lst xs) := by
  rcases s with s | ⟨o, its, n, hk, hc, _⟩
  · exact s
  · have := List.all_eq_true.mp h _ (mem_look hk)
    dsimp only at this
    rw [hc] at this
    simp at this
theorem reps_ints {H : Hp} : ∀ ns : List Int, Reps H (ns.map V.int) (ns.map PyData.int)
  | [] => .nil
  | n :: ns => .cons (.int n) (reps_ints ns)
theorem law_sp {K : PySem.W.Frag} (h : noLists K = true) {f : List D → Option (D × Bool)} (T : ∀ ns : List Int, ns.length ≤ 63 → (∀ k ∈ ns, Builtin.Int.intBits k ≤ 1048576) → f [.list (ns.map .int)] = some (.bool true, false))
    (vs : List V) (H : Hp) (Q : VK) (E : XK) (s : spLaw K vs H Q E) : spM f vs H Q E := by
  obtain ⟨a, ns, rfl, hS, hl, hb, q⟩ := s
  refine ⟨H, _, _, _, Same.refl _, fun _ _ z => z, .cons (.lst (sq_rd h hS) (reps_ints ns)) .nil, T ns hl hb, fun v B' H' P => ?_⟩
  have pv : Rep B' v (.bool true) := P.val
  cases pv
  exact q _
end Mir
set_option Elab.async false
set_option linter.all false
set_option maxRecDepth 100000
namespace Mir
open PySem L2
variable [Zc]
abbrev dI (l : List Int) : D := .list (l.map .int)
theorem beqI (i j : Int) : (i == j) = decide (i = j) := by by_cases h : i = j <;> simp [h]
theorem gEq_int (i j : Int) : gEq (.int i) (.int j) = some (.bool (decide (i = j)), false) := by
  unfold gEq
  rw [if_pos ⟨rfl, rfl⟩]
  simp only [PyData.eqv, beqI]
theorem gNe_int (i j : Int) : gNe (.int i) (.int j) = some (.bool (!decide (i = j)), false) := by
  unfold gNe
  rw [if_pos ⟨rfl, rfl⟩]
  simp only [PyData.eqv, beqI]
theorem gEq_bool (i j : Bool) : gEq (.bool i) (.bool j) = some (.bool (i == j), false) := by
  unfold gEq
  rw [if_pos ⟨rfl, rfl⟩]
  simp only [PyData.eqv]
theorem gNe_bool (i j : Bool) : gNe (.bool i) (.bool j) = some (.bool (!(i == j)), false) := by
  unfold gNe
  rw [if_pos ⟨rfl, rfl⟩]
  simp only [PyData.eqv]
theorem canLay_ints : ∀ l : List Int, PyData.canLayAll0 (l.map .int) = true
  | [] => rfl
  | _ :: l => by simp only [List.map_cons, PyData.canLayAll0, PyData.canLay0, canLay_ints l, Bool.and_self]
theorem depth_ints (l : List Int) : (dI l).depth ≤ 2 := by
  have h : ∀ l : List Int, PyData.depthAll (l.map .int) ≤ 1 := by
    intro l
    induction l with
    | nil => simp [PyData.depthAll]
    | cons a l ih => simp only [List.map_cons, PyData.depthAll, PyData.depth]; omega
  have := h l
  simp only [dI, PyData.depth]
  omega
theorem shaped_ints (l : List Int) : SeqAt.shaped (dI l) = true := by
  unfold SeqAt.shaped
  have h := depth_ints l
  rw [decide_eq_true (by omega), Bool.and_true]
  simp only [dI, PyData.canLay0, canLay_ints]
theorem eqvAll_ints : ∀ a b : List Int, PyData.eqvAll (a.map .int) (b.map .int) = decide (a = b)
  | [], [] => by simp [PyData.eqvAll]
  | [], _ :: _ => by simp [PyData.eqvAll]
  | _ :: _, [] => by simp [PyData.eqvAll]
  | x :: a, y :: b => by
    simp only [List.map_cons, PyData.eqvAll, PyData.eqv, eqvAll_ints a b]
    by_cases h : x = y <;> by_cases g : a = b <;> simp [h, g]
theorem eqv_ints (a b : List Int) : PyData.eqv (dI a) (dI b) = decide (a = b) := by simp only [dI, PyData.eqv, eqvAll_ints]
theorem gEq_ints (a b : List Int) : gEq (dI a) (dI b) = some (.bool (decide (a = b)), false) := by
  unfold gEq
  rw [if_pos ⟨shaped_ints a, shaped_ints b⟩, eqv_ints]
theorem gNe_ints (a b : List Int) : gNe (dI a) (dI b) = some (.bool (!decide (a = b)), false) := by
  unfold gNe
  rw [if_pos ⟨shaped_ints a, shaped_ints b⟩, eqv_ints]
theorem isi_int_int (i : Int) : gIsi "int" (.int i) = some (.bool true, false) := by simp [gIsi, tyD, tyAsked, tyIs]
theorem isi_int_bool (i : Int) : gIsi "bool" (.int i) = some (.bool false, false) := by simp [gIsi, tyD, tyAsked, tyIs]
theorem isi_list_list (i : List D) : gIsi "list" (.list i) = some (.bool true, false) := by simp [gIsi, tyD, tyAsked, tyIs]
theorem isi_tuple_tuple (i : List D) : gIsi "tuple" (.tuple i) = some (.bool true, false) := by simp [gIsi, tyD, tyAsked, tyIs]
theorem atI_nat {α : Type} (xs : List α) (i : Nat) : atI xs (i : Int) = xs[i]? := by
  unfold atI ixN
  rw [if_pos (by omega)]
  split
  · simp
  · rename_i h
    rw [Option.bind_none, List.getElem?_eq_none (by omega)]
theorem atI_last {α : Type} (xs : List α) : atI xs (-1) = xs.getLast? := by
  unfold atI ixN
  rw [if_neg (by omega)]
  cases xs with
  | nil => simp
  | cons a l =>
    rw [if_pos (by simp only [List.length_cons]; omega), Option.bind_some, List.getLast?_eq_getElem?]
    congr 1
    simp only [List.length_cons]; omega
theorem cutD_ints (l : List Int) (a b : Option Int) : cutD (l.map .int) a b = ((l.drop (HT.sIx l.length 0 a)).take (HT.sIx l.length l.length b - HT.sIx l.length 0 a)).map .int := by
  simp only [cutD, List.length_map, List.map_take, List.map_drop]
theorem atI_map {α β : Type} (f : α → β) (xs : List α) (i : Int) : atI (xs.map f) i = (atI xs i).map f := by
  simp only [atI, List.length_map, List.getElem?_map]
  cases ixN xs.length i with
  | none => rfl
  | some j => simp only [Option.bind_some]
theorem while_go {c : Rho → Option (Bool × Rho)} {b : SM} {n : Nat} {ρ ρ1 ρ2 : Rho} {o : Option Out} (h1 : c ρ = some (true, ρ1)) (h2 : b ρ1 = some (.nx ρ2)) (h3 : mWhile c b n ρ2 = o) : mWhile c b (n + 1) ρ = o := by
  unfold mWhile
  simp only [h1, h2, Option.bind_some, if_true, h3]
theorem while_end {c : Rho → Option (Bool × Rho)} {b : SM} {n : Nat} {ρ ρ1 : Rho} (h1 : c ρ = some (false, ρ1)) : mWhile c b (n + 1) ρ = some (.nx ρ1) := by
  unfold mWhile
  simp only [h1, Option.bind_some, Bool.false_eq_true, if_false]
theorem pureR_int (i : Int) : pureR (.int i) false = true := rfl
theorem pureR_bool (i : Bool) : pureR (.bool i) false = true := rfl
theorem pureR_str (i : Str) : pureR (.str i) false = true := rfl
theorem pureR_none : pureR .none false = true := rfl
theorem pureR_list (l : List D) : pureR (.list l) false = false := rfl
theorem pureR_tup (l : List D) : pureR (.tuple l) false = pureDs l := by simp only [pureR, pureD]
theorem pureR_new (l : List D) : pureR (.list l) true = pureDs l := rfl
theorem pureDs_nil : pureDs [] = true := by simp only [pureDs]
theorem pureDs_int (i : Int) (l : List D) : pureDs (.int i :: l) = pureDs l := by simp only [pureDs, pureD, Bool.true_and]
theorem pureDs_bool (i : Bool) (l : List D) : pureDs (.bool i :: l) = pureDs l := by simp only [pureDs, pureD, Bool.true_and]
theorem pureDs_list (i l : List D) : pureDs (.list i :: l) = false := by simp only [pureDs, pureD, Bool.false_and]
theorem pureDs_ints : ∀ l : List Int, pureDs (l.map .int) = true
  | [] => pureDs_nil
  | i :: l => by rw [List.map_cons, pureDs_int, pureDs_ints l]
theorem resK_f (d : D) : resK (d, false) = (d, .fz) := rfl
theorem resK_l (l : List D) : resK (.list l, true) = (.list l, .new) := rfl
theorem resK_t (l : List D) : resK (.tuple l, true) = (.tuple l, .fz) := rfl
theorem kO_f (d : D) : kO d false = (d, .fz) := rfl
theorem kO_t (d : D) : kO d true = (d, .new) := rfl
theorem seq_nx {a b : SM} {ρ ρ1 : Rho} {o : Option Out} (h1 : a ρ = some (.nx ρ1)) (h2 : b ρ1 = o) : mSeq a b ρ = o := by
  unfold mSeq; simp only [h1, Option.bind_some, h2]
theorem seq_rt {a b : SM} {ρ ρ1 : Rho} {r : RV} (h1 : a ρ = some (.rt r ρ1)) : mSeq a b ρ = some (.rt r ρ1) := by
  unfold mSeq; simp only [h1, Option.bind_some]
theorem fn_of {n k : Nat} {b : SM} {ds : List D} {o : Out} {w : D × Bool} (h0 : ds.length = n) (h1 : b (ds.map .fz ++ List.replicate k .no) = some o) (h2 : retD o = some w) : fnM n k b ds = some w := by
  unfold fnM; rw [if_pos h0, h1, Option.bind_some, h2]
theorem call_pure {f : List D → Option (D × Bool)} {m : Rho → Option (List RV × Rho)} {ρ ρ1 : Rho} {rs : List RV} {d : D} {o : Bool} (h1 : m ρ = some (rs, ρ1)) (h2 : f (rs.map (·.1)) = some (d, o)) (h3 : pureR d o = true) : mCall f m ρ = some (kO d o, ρ1) := by
  unfold mCall; rw [h1, Option.bind_some]; dsimp only; rw [h2, Option.bind_some, if_pos h3]
theorem ret_eq {a : PM} {ρ ρ1 : Rho} {r : RV} (h : a ρ = some (r, ρ1)) : mRet a ρ = some (.rt r ρ1) := by
  unfold mRet; rw [h, Option.map_some]
theorem for_eq {it : Rho → Option (List D × Rho)} {g : D → Rho → Option Rho} {b : SM} {ρ ρ1 : Rho} {ds : List D} {o : Option Out} (h1 : it ρ = some (ds, ρ1)) (h2 : forL g b ds ρ1 = o) : mFor it g b ρ = o := by
  unfold mFor; rw [h1, Option.bind_some]; exact h2
theorem rg1_eq {m : Rho → Option (List RV × Rho)} {ρ ρ1 : Rho} {j : Int} {k : Kd} (h1 : m ρ = some ([(.int j, k)], ρ1)) (h2 : -(2 ^ 62) ≤ j ∧ j < 2 ^ 62) : mRg1 m ρ = some (rngD 0 j.toNat, ρ1) := by
  unfold mRg1; rw [h1, Option.bind_some]; show cIf _ _ _ = _; rw [cIf_pos h2]
end Mir
set_option Elab.async false
set_option linter.all false
set_option maxRecDepth 100000
namespace Mir
open PySem L2
variable [Zc]
def SF (s : Sl) : Prop := s = .no ∨ ∃ d, s = .fz d
theorem SF.fz (d : D) : SF (.fz d) := .inr ⟨d, rfl⟩
theorem SF.no : SF .no := .inl rfl
theorem countP_ints (l : List Int) (k : Int) : (l.map PyData.int).countP (fun c => PyData.eqv c (.int k)) = l.countP (fun z => z == k) := by
  rw [List.countP_map]
  congr 1
theorem flat_ints : ∀ l : List Int, (l.map PyData.int).all flatD = true
  | [] => rfl
  | _ :: l => by rw [List.map_cons, List.all_cons, flat_ints l]; rfl
theorem gCount_ints (l : List Int) (k : Int) : gCount (.list (l.map .int)) [.int k] = some (.int ((l.countP (fun z => z == k) : Nat) : Int), false) := by
  unfold gCount
  simp only [flat_ints, flatD, and_self, if_true, countP_ints]
theorem ixN_nat {n k : Nat} (h : k < n) : ixN n (k : Int) = some k := by
  unfold ixN
  rw [if_pos (by omega), if_pos (by omega), Int.toNat_natCast]
theorem sz_le {n : Nat} (h : n ≤ 100000) : n ≤ sizeLine := Nat.le_trans h (by decide)
theorem sz_lt {n : Nat} (h : n ≤ 100000) : n < sizeLine := Nat.lt_of_le_of_lt h (by decide)
end Mir
set_option Elab.async false
set_option linter.all false
set_option maxRecDepth 100000
namespace Mir
open PySem L2 PySem.Spec PyProof.Rows
variable [Zc]
def rGetP (K : PySem.W.Frag) : V → V → Hp → VK → Prop := fun x y H Q => ∃ p xs i v, x = .ref p ∧ y = .int i ∧ SqL K H p xs ∧ 0 ≤ i ∧ xs[i.toNat]? = some v ∧ Q v H
theorem get_listK {X : Cx} {K : PySem.W.Frag} (hk : X.K = K) : PGet X (rGetP K) := by
  subst hk
  intro pins s σ H o i ov iv Q I ro ri h
  obtain ⟨p, xs, k, v, rfl, rfl, hq, h0, hv, q⟩ := h
  cases ro
  obtain ⟨t, rfl⟩ := ri
  obtain ⟨its, r, pl, hz⟩ := I.list hq
  obtain ⟨w, ew, rw'⟩ := r.get hv
  have hl : k.toNat < xs.length := (List.getElem?_eq_some_iff.mp hv).1
  refine wpAny_getItem_list pl.isList h0 ?_ (by simpa using ew) ⟨v, H, I, rw', q⟩
  have := line63
  omega
def mAugS' (i : Nat) (k a : PM) (f : Int → Int → Int) : SM := fun ρ => (ownL ρ[i]?).bind fun _ => ((sv k ρ).bind asI).bind fun y => (ownL y.2[i]?).bind fun ds => match (if 0 ≤ y.1 then ds[y.1.toNat]? else none) with
  | some (.int x) => ((sv a y.2).bind asI).bind fun z => (ownL z.2[i]?).bind fun ds' => if y.1.toNat < ds'.length then some (.nx (putAt z.2 i (.list (ds'.set y.1.toNat (.int (f x z.1)))))) else none
  | _ => none
theorem ms_augS {K : PySem.W.Frag} {i : Nat} {f : Int → Int → Int} {tk ta : TE} {k a : PM} (hk : ME tk k) (ha : ME ta a) : MS (tAugS (tVar i) tk ta (rGetP K) (ipI f) rSetL) (mAugS' i k a f) := by
  intro F B H σ ρ o D R e q
  obtain ⟨ds0, e0, e⟩ := Option.bind_eq_some_iff.mp e
  obtain ⟨y, e1, e⟩ := Option.bind_eq_some_iff.mp e
  obtain ⟨y0, e2, e3⟩ := Option.bind_eq_some_iff.mp e1
  obtain ⟨ds, e4, e⟩ := Option.bind_eq_some_iff.mp e
  split at e
  case h_2 => cases e
  rename_i x hx
  obtain ⟨z, e5, e⟩ := Option.bind_eq_some_iff.mp e
  obtain ⟨z0, e6, e7⟩ := Option.bind_eq_some_iff.mp e5
  obtain ⟨ds', e8, e⟩ := Option.bind_eq_some_iff.mp e
  split at e
  case isFalse => cases e
  rename_i hlt
  cases e
  split at hx
  case isFalse => cases hx
  rename_i hnn
  obtain ⟨s0, hs0, ho0, hd0⟩ := ownL_eq e0
  obtain ⟨p, hv, hB, ow⟩ := R.ownAt hs0 ho0
  refine ⟨_, hv, ?_⟩
  refine hk.sv F B H σ ρ y0.1 y0.2 _ R e2 fun u B1 H1 E1 R1 V1 N1 => ?_
  obtain ⟨g1, g2⟩ := asI_eq (b := y.1) (ρ := y.2) e3
  have vv := V1.view R1
  rw [g1] at vv
  rw [g2] at R1 E1
  obtain ⟨s1, hs1, ho1, hd1⟩ := ownL_eq e4
  obtain ⟨p1, hv1, hB1, ow1⟩ := R1.ownAt hs1 ho1
  rw [hv] at hv1
  cases hv1
  rw [hd1] at ow1
  obtain ⟨xs, hp, rx⟩ := ow1.list
  obtain ⟨v, hxv, rv⟩ := rx.get _ _ hx
  cases rv
  refine ⟨p, xs, y.1, _, rfl, vv.int, SqL.of hp, hnn, hxv, ?_⟩
  refine ha.sv F B1 H1 σ y.2 z0.1 z0.2 _ R1 e6 fun w B2 H2 E2 R2 V2 N2 => ?_
  obtain ⟨g3, g4⟩ := asI_eq (b := z.1) (ρ := z.2) e7
  have vw := V2.view R2
  rw [g3] at vw
  rw [g4] at R2 E2
  refine ⟨x, z.1, rfl, vw.int, ?_⟩
  obtain ⟨s2, hs2, ho2, hd2⟩ := ownL_eq e8
  obtain ⟨p2, hv2, hB2, ow2⟩ := R2.ownAt hs2 ho2
  rw [hv] at hv2
  cases hv2
  rw [hd2] at ow2
  obtain ⟨xs2, hp2, rx2⟩ := ow2.list
  have rx' := Reps.set (.int (f x z.1)) y.1.toNat rx2
  obtain ⟨R3, E3⟩ := R2.write (o := .lst (xs2.set y.1.toNat (.int (f x z.1)))) (d := .list (ds'.set y.1.toNat (.int (f x z.1)))) hs2 ho2 hv ⟨(fun _ z => by cases z), fun _ _ z => by cases z⟩ (.lst upd_same rx')
  have ep : Mir.putAt z.2 i (.list (ds'.set y.1.toNat (.int (f x z.1)))) = z.2.set i (s2.put (.list (ds'.set y.1.toNat (.int (f x z.1))))) := by unfold Mir.putAt; rw [hs2]
  have q' : ∀ B H σ, Rel F B H σ (Mir.putAt z.2 i (.list (ds'.set y.1.toNat (.int (f x z.1))))) → D.nx σ H := q
  rw [ep] at q'
  refine ⟨p, xs2, y.1, y.1.toNat, rfl, vv.int, hp2, ?_, q' _ _ _ R3⟩
  rw [rx2.length]
  unfold ixN
  rw [if_pos hnn, if_pos (by omega)]
end Mir
set_option Elab.async false
set_option linter.all false
set_option maxRecDepth 100000
namespace Mir
open PySem L2
variable [Zc]
theorem reps_rng {H : Hp} (n : Nat) : Reps H (rngV n) (rngD 0 n) := by
  have h : ∀ l : List Nat, Reps H (l.map fun k : Nat => V.int (k : Int)) (l.map fun k : Nat => PyData.int (0 + (k : Int))) := by
    intro l
    induction l with
    | nil => exact .nil
    | cons a l ih =>
      refine .cons ?_ ih
      show Rep H (V.int (a : Int)) (PyData.int (0 + (a : Int)))
      rw [Int.zero_add]
      exact .int _
  exact h _
noncomputable def gListRng : List D → Option (D × Bool)
  | [.int j] => cIf (0 ≤ j ∧ j ≤ 2 ^ 24) (some (.list (rngD 0 j.toNat), true)) none
  | _ => none
theorem J_listRng : CallJ rListRng gListRng := by
  intro B H vs ds res s h e
  unfold gListRng at e
  split at e
  · rename_i j
    obtain ⟨hz, e⟩ := cIf_eq e
    cases e
    obtain ⟨v, rfl, hh⟩ := views1 h
    have := hh.int; subst this
    refine ⟨rngV j.toNat, reps_rng _, fun Q q => ⟨j.toNat, ?_, by omega, q⟩⟩
    rw [Int.toNat_of_nonneg hz.1]
  · cases e
def inD (x : D) (ds : List D) : Bool := ds.any fun d => PyData.eqv d x
theorem Reps.inV {H : Hp} {v : V} {c : D} (g : Rep H v c) (e : flatD c = true) : ∀ {vs : List V} {ds : List D}, Reps H vs ds → ds.all flatD = true → inV v vs = inD c ds
  | _, _, .nil, _ => rfl
  | _, _, .cons a b, h => by
    simp only [List.all_cons, Bool.and_eq_true] at h
    have := Reps.inV g e b h.2
    unfold L2.inV inD at this ⊢
    rw [List.any_cons, List.any_cons, this, a.eqv g h.1 e]
def gIn : D → D → Option (D × Bool)
  | x, .list ds => if flatD x = true ∧ ds.all flatD = true then some (.bool (inD x ds), false) else none
  | _, _ => none
theorem J_in {K : PySem.W.Frag} : OpJ (rIn K false) gIn := by
  intro B H x y c d res s hx hy e
  unfold gIn at e
  split at e
  · split at e
    · rename_i hf
      cases e
      obtain ⟨p, xs, rfl, r1, rp1⟩ := hy.list s
      have rx := hx.rep s
      have rp := rp1.mono s
      refine res_bool fun Q q => ⟨_, _, rfl, .inl (rd_sq r1), rx.flat hf.1, rp.flatAll hf.2, ?_⟩
      rw [Reps.inV rx hf.1 rp hf.2]
      exact q
    · cases e
  · cases e
section
variable {X : Cx} {K : PySem.W.Frag}
theorem op_inK (h : X.K = K) : OpR X (compareOp .In) (rIn K false) := h ▸ op_in_seq
end
end Mir
set_option Elab.async false
set_option linter.all false
set_option maxRecDepth 100000
namespace Mir
open PySem L2
variable [Zc]
section
variable {a b : PM} {ρ ρ1 ρ2 ρ3 : Rho} {x y d : D} {r : RV} {res : D × Bool}
theorem sv_new (h : a ρ = some ((d, .new), ρ1)) : sv a ρ = some ((d, .fz), ρ1) := by unfold sv; rw [h]
theorem sv_fz (h : a ρ = some ((d, .fz), ρ1)) : sv a ρ = some ((d, .fz), ρ1) := by unfold sv; rw [h]
theorem sv_at {i : Nat} (h : a ρ = some ((d, .at i), ρ1)) : sv a ρ = some ((d, .at i), ρ1) := by unfold sv; rw [h]
theorem sv_ro (h : a ρ = some ((d, .ro), ρ1)) : sv a ρ = some ((d, .ro), ρ1) := by unfold sv; rw [h]
theorem op_ev {g : D → D → Option (D × Bool)} (h1 : sv a ρ = some ((x, .fz), ρ1)) (h2 : sv b ρ1 = some (r, ρ2)) (h3 : g x r.1 = some res) : mOp g a b ρ = some (resK res, ρ2) := by
  unfold mOp; rw [h1, Option.bind_some]; dsimp only; rw [h2, Option.bind_some]; dsimp only [refr, Option.bind_some]; rw [h3, Option.map_some]
theorem op_at {g : D → D → Option (D × Bool)} {i : Nat} (h1 : sv a ρ = some ((x, .at i), ρ1)) (h2 : sv b ρ1 = some (r, ρ2)) (h4 : ρ2[i]? = some (.own y)) (h3 : g y r.1 = some res) : mOp g a b ρ = some (resK res, ρ2) := by
  unfold mOp; rw [h1, Option.bind_some]; dsimp only; rw [h2, Option.bind_some]; dsimp only [refr]; rw [h4]; dsimp only [Option.bind_some]; rw [h3, Option.map_some]
theorem cons_fz {m : Rho → Option (List RV × Rho)} {rs : List RV} (h1 : sv a ρ = some ((x, .fz), ρ1)) (h2 : m ρ1 = some (rs, ρ2)) : mCons a m ρ = some ((x, .fz) :: rs, ρ2) := by
  unfold mCons; rw [h1, Option.bind_some]; dsimp only; rw [h2, Option.bind_some]; rfl
theorem cons_at {m : Rho → Option (List RV × Rho)} {rs : List RV} {i : Nat} (h1 : sv a ρ = some ((x, .at i), ρ1)) (h2 : m ρ1 = some (rs, ρ2)) (h4 : ρ2[i]? = some (.own y)) : mCons a m ρ = some ((y, .at i) :: rs, ρ2) := by
  unfold mCons; rw [h1, Option.bind_some]; dsimp only; rw [h2, Option.bind_some]; dsimp only [refr]; rw [h4]; rfl
theorem nil_ev : mNil ρ = some ([], ρ) := rfl
theorem var_fz {i : Nat} (h : ρ[i]? = some (.fz d)) : mVar i ρ = some ((d, .fz), ρ) := by unfold mVar; rw [h]
theorem var_own {i : Nat} (h : ρ[i]? = some (.own d)) : mVar i ρ = some ((d, .at i), ρ) := by unfold mVar; rw [h]
theorem cb_ev {g : List D → Option (D × Bool)} {m : Rho → Option (List RV × Rho)} {rs : List RV} (h1 : m ρ = some (rs, ρ1)) (h2 : g (rs.map (·.1)) = some res) : mCB g m ρ = some (resK res, ρ1) := by
  unfold mCB; rw [h1, Option.bind_some]; dsimp only; rw [h2, Option.map_some]
theorem asg_fz {i : Nat} (h1 : a ρ = some ((d, .fz), ρ1)) (h2 : setSl ρ1 i (.fz d) = some ρ2) : mAsg i a ρ = some (.nx ρ2) := by
  unfold mAsg; rw [h1, Option.bind_some]; dsimp only [sto]; rw [h2, Option.map_some]
theorem asg_new {i : Nat} (h1 : a ρ = some ((d, .new), ρ1)) (h2 : setSl ρ1 i (.own d) = some ρ2) : mAsg i a ρ = some (.nx ρ2) := by
  unfold mAsg; rw [h1, Option.bind_some]; dsimp only [sto]; rw [h2, Option.map_some]
theorem if_t {c : Rho → Option (Bool × Rho)} {s t : SM} {o : Option Out} (h1 : c ρ = some (true, ρ1)) (h2 : s ρ1 = o) : mIfS c s t ρ = o := by
  unfold mIfS; rw [h1, Option.bind_some]; dsimp only; rw [if_pos rfl, h2]
theorem if_f {c : Rho → Option (Bool × Rho)} {s t : SM} {o : Option Out} (h1 : c ρ = some (false, ρ1)) (h2 : t ρ1 = o) : mIfS c s t ρ = o := by
  unfold mIfS; rw [h1, Option.bind_some]; dsimp only; rw [if_neg Bool.false_ne_true, h2]
theorem test_ev {k : Kd} {v : Bool} (h : a ρ = some ((.bool v, .fz), ρ1)) : mTest a ρ = some (v, ρ1) := by
  unfold mTest; rw [sv_fz h]; rfl
theorem not_ev {c : Rho → Option (Bool × Rho)} {v : Bool} (h : c ρ = some (v, ρ1)) : mNot c ρ = some (!v, ρ1) := by unfold mNot; rw [h]; rfl
theorem or_t {c e : Rho → Option (Bool × Rho)} (h : c ρ = some (true, ρ1)) : mOr c e ρ = some (true, ρ1) := by unfold mOr; rw [h]; rfl
theorem or_f {c e : Rho → Option (Bool × Rho)} {o : Option (Bool × Rho)} (h : c ρ = some (false, ρ1)) (h2 : e ρ1 = o) : mOr c e ρ = o := by unfold mOr; rw [h]; simpa using h2
theorem lst_ev {m : Rho → Option (List RV × Rho)} {rs : List RV} {ds : List D} (h1 : m ρ = some (rs, ρ1)) (h2 : fzAll rs ρ1 = some (ds, ρ2)) (h3 : ds.length ≤ 100000) : mLst m ρ = some ((.list ds, .new), ρ2) := by
  unfold mLst; rw [h1, Option.bind_some]; dsimp only; rw [h2, Option.bind_some]; dsimp only; rw [cIf_pos (sz_le h3)]
theorem tup_ev {m : Rho → Option (List RV × Rho)} {rs : List RV} {ds : List D} (h1 : m ρ = some (rs, ρ1)) (h2 : fzAll rs ρ1 = some (ds, ρ2)) (h3 : ds.length ≤ 100000) : mTup m ρ = some ((.tuple ds, .fz), ρ2) := by
  unfold mTup; rw [h1, Option.bind_some]; dsimp only; rw [h2, Option.bind_some]; dsimp only; rw [cIf_pos (sz_le h3)]
theorem lc_ev {fr : List (Str × Nat)} {it : Rho → Option (List D × Rho)} {c : Rho → Option (Bool × Rho)} {e : PM} {ds ys : List D} (h1 : it ρ = some (ds, ρ1)) (h2 : compL c e (fr.map fun p => demote ρ1 p.2) ds = some ys) (h3 : ys.length ≤ 100000) :
    mLC fr it c e ρ = some ((.list ys, .new), ρ1) := by
  unfold mLC; rw [h1, Option.bind_some]; dsimp only; rw [h2, Option.bind_some, cIf_pos (sz_lt h3)]
theorem fol_ev {d : List D} (h1 : sv a ρ = some ((.list d, .fz), ρ1)) : mFoL a ρ = some (d, ρ1) := by
  unfold mFoL; rw [h1]; rfl
theorem drop_ev (h : a ρ = some (r, ρ1)) : mDrop a ρ = some (.nx ρ1) := by unfold mDrop; rw [h]; rfl
end
theorem compL_map {e : PM} {ρn : Rho} {α : Type} {f : α → D} {g : α → D} : ∀ l : List α, (∀ x ∈ l, ∃ ρ, sv e (.fz (f x) :: ρn) = some ((g x, .fz), ρ)) → compL mYes e ρn (l.map f) = some (l.map g)
  | [], _ => rfl
  | x :: l, h => by
    obtain ⟨ρ, h1⟩ := h x List.mem_cons_self
    have h2 := compL_map l fun y hy => h y (List.mem_cons_of_mem _ hy)
    rw [List.map_cons, List.map_cons]
    unfold compL
    simp only [mYes, h1, h2, asF, Option.bind_some, Option.map_some, if_true]
theorem rngD_map (n : Nat) : rngD 0 n = (List.range n).map fun k : Nat => PyData.int (k : Int) := by
  unfold rngD
  congr 1
  funext k
  rw [Int.zero_add]
def IE (m : PM) (ρ : Rho) (v : Int) : Prop := m ρ = some ((.int v, .fz), ρ)
def BE (m : PM) (ρ : Rho) (v : Bool) : Prop := m ρ = some ((.bool v, .fz), ρ)
section
variable {a b : PM} {ρ : Rho} {i j : Int} {u v : Bool}
theorem op_i {g : D → D → Option (D × Bool)} {k : Int} (h1 : IE a ρ i) (h2 : IE b ρ j) (h3 : g (.int i) (.int j) = some (.int k, false)) : IE (mOp g a b) ρ k := op_ev (sv_fz h1) (sv_fz h2) h3
theorem op_b {g : D → D → Option (D × Bool)} {k : Bool} (h1 : IE a ρ i) (h2 : IE b ρ j) (h3 : g (.int i) (.int j) = some (.bool k, false)) : BE (mOp g a b) ρ k := op_ev (sv_fz h1) (sv_fz h2) h3
theorem ie_c : IE (mC (.int i)) ρ i := rfl
theorem ie_var {k : Nat} (h : ρ[k]? = some (.fz (.int i))) : IE (mVar k) ρ i := var_fz h
theorem ie_add (h1 : IE a ρ i) (h2 : IE b ρ j) : IE (mOp gAdd a b) ρ (i + j) := op_i h1 h2 rfl
theorem ie_sub (h1 : IE a ρ i) (h2 : IE b ρ j) : IE (mOp gSub a b) ρ (i - j) := op_i h1 h2 rfl
theorem gI_ev {C : Int → Int → Prop} {f : Int → Int → Int} (h : C i j) : gI C f (.int i) (.int j) = some (.int (f i j), false) := by show cIf _ _ _ = _; rw [cIf_pos h]
theorem ie_mul (h1 : IE a ρ i) (h2 : IE b ρ j) (h : IntMulOk i j) : IE (mOp gMul a b) ρ (i * j) := op_i h1 h2 (by show cIf _ _ _ = _; rw [cIf_pos h])
theorem ie_div (h1 : IE a ρ i) (h2 : IE b ρ j) (h : CDiv i j) : IE (mOp gDiv a b) ρ (i / j) := op_i h1 h2 (gI_ev h)
theorem ie_mod (h1 : IE a ρ i) (h2 : IE b ρ j) (h : 0 < j) : IE (mOp gMod a b) ρ (i % j) := op_i h1 h2 (gI_ev (C := fun _ j => 0 < j) h)
theorem ie_neg (h1 : IE a ρ i) : IE (mUn gNeg a) ρ (-i) := by unfold IE mUn; rw [sv_fz h1]; rfl
theorem be_eq (h1 : IE a ρ i) (h2 : IE b ρ j) : BE (mOp gEq a b) ρ (decide (i = j)) := op_b h1 h2 (gEq_int i j)
theorem be_ne (h1 : IE a ρ i) (h2 : IE b ρ j) : BE (mOp gNe a b) ρ (!decide (i = j)) := op_b h1 h2 (gNe_int i j)
theorem be_lt (h1 : IE a ρ i) (h2 : IE b ρ j) : BE (mOp gLt a b) ρ (decide (i < j)) := op_b h1 h2 rfl
theorem be_le (h1 : IE a ρ i) (h2 : IE b ρ j) : BE (mOp gLe a b) ρ (decide (i ≤ j)) := op_b h1 h2 rfl
theorem be_gt (h1 : IE a ρ i) (h2 : IE b ρ j) : BE (mOp gGt a b) ρ (decide (j < i)) := op_b h1 h2 rfl
theorem be_ge (h1 : IE a ρ i) (h2 : IE b ρ j) : BE (mOp gGe a b) ρ (decide (j ≤ i)) := op_b h1 h2 rfl
theorem BE.t (h : BE a ρ v) : mTest a ρ = some (v, ρ) := test_ev (k := .fz) h
theorem BE.is (h : BE a ρ u) (e : u = v) : BE a ρ v := e ▸ h
theorem IE.is (h : IE a ρ i) (e : i = j) : IE a ρ j := e ▸ h
theorem ie_call {f : List D → Option (D × Bool)} {m : Rho → Option (List RV × Rho)} {rs : List RV} (h1 : m ρ = some (rs, ρ)) (h2 : f (rs.map (·.1)) = some (.int i, false)) : IE (mCall f m) ρ i := call_pure h1 h2 rfl
theorem be_call {f : List D → Option (D × Bool)} {m : Rho → Option (List RV × Rho)} {rs : List RV} (h1 : m ρ = some (rs, ρ)) (h2 : f (rs.map (·.1)) = some (.bool v, false)) : BE (mCall f m) ρ v := call_pure h1 h2 rfl
theorem IE.cons {m : Rho → Option (List RV × Rho)} {rs : List RV} (h : IE a ρ i) (h2 : m ρ = some (rs, ρ)) : mCons a m ρ = some ((.int i, .fz) :: rs, ρ) := cons_fz (sv_fz h) h2
theorem be_and (h1 : BE a ρ u) (h2 : u = true → BE b ρ v) (h3 : u = false → v = false) : BE (mAndV a b) ρ v := by
  unfold BE mAndV
  rw [h1.t]
  cases u with
  | true => exact h2 rfl
  | false => rw [h3 rfl]; rfl
theorem be_not (h1 : BE a ρ u) : BE (mNotV a) ρ (!u) := by unfold BE mNotV; rw [h1.t]; rfl
end
section
variable {a b : PM} {ρ : Rho} {i j : Int} {u v : Bool}
theorem asgI {k : Nat} {ρ' : Rho} (h : IE a ρ i) (h2 : setSl ρ k (.fz (.int i)) = some ρ') : mAsg k a ρ = some (.nx ρ') := asg_fz h h2
theorem tstB (h : BE a ρ u) (e : u = v) : mTest a ρ = some (v, ρ) := e ▸ h.t
theorem consI {m : Rho → Option (List RV × Rho)} {rs : List RV} (h : IE a ρ i) (h2 : m ρ = some (rs, ρ)) : mCons a m ρ = some ((.int i, .fz) :: rs, ρ) := cons_fz (sv_fz h) h2
theorem tEq (h1 : IE a ρ i) (h2 : IE b ρ j) (h : i = j) : mTest (mOp gEq a b) ρ = some (true, ρ) := tstB (be_eq h1 h2) (decide_eq_true h)
theorem tNe (h1 : IE a ρ i) (h2 : IE b ρ j) (h : i ≠ j) : mTest (mOp gEq a b) ρ = some (false, ρ) := tstB (be_eq h1 h2) (decide_eq_false h)
end
theorem append_ev {i : Nat} {m : Rho → Option (List RV × Rho)} {ρ ρ1 ρ2 : Rho} {r : RV} {d : D} {ds ds0 : List D} (h0 : ρ[i]? = some (.own (.list ds0))) (h1 : m ρ = some ([r], ρ1)) (h2 : fzOne r ρ1 = some (d, ρ2)) (h3 : ρ2[i]? = some (.own (.list ds))) (hz : ds.length ≤ 100000) :
    mMut i fAppend m ρ = some ((.none, .fz), ρ2.set i (.own (.list (ds ++ [d])))) := by
  unfold mMut
  simp only [h0, h1, h2, h3, ownL, fzAll, Option.bind_some, Option.map_some, fAppend, cIf_pos (sz_lt hz), Mir.putAt, Sl.put]
theorem isi_ev {n : String} {a : PM} {ρ ρ1 : Rho} {d : D} {k : Kd} {v : Bool} (h1 : sv a ρ = some ((d, k), ρ1)) (h2 : gIsi n d = some (.bool v, false)) : mIsi n a ρ = some ((.bool v, .fz), ρ1) := by
  unfold mIsi mUn; rw [h1, Option.bind_some]; dsimp only; rw [h2]; rfl
theorem app_ev {i : Nat} {m : Rho → Option (List RV × Rho)} {ρ ρ1 ρ2 ρ3 : Rho} {r : RV} (d : D) (ds : List D) {ds0 : List D} (h0 : ρ[i]? = some (.own (.list ds0))) (h1 : m ρ = some ([r], ρ1)) (h2 : fzOne r ρ1 = some (d, ρ2)) (h3 : ρ2[i]? = some (.own (.list ds))) (hz : ds.length ≤ 100000)
    (h5 : ρ2.set i (.own (.list (ds ++ [d]))) = ρ3) : mDrop (mMut i fAppend m) ρ = some (.nx ρ3) := h5 ▸ drop_ev (append_ev h0 h1 h2 h3 hz)
theorem forL_cons {g : D → Rho → Option Rho} {b : SM} {d : D} {ds : List D} {ρ ρ1 ρ2 : Rho} {o : Option Out} (h1 : g d ρ = some ρ1) (h2 : b ρ1 = some (.nx ρ2)) (h3 : forL g b ds ρ2 = o) : forL g b (d :: ds) ρ = o := by
  show ((g d ρ).bind _) = _
  rw [h1, Option.bind_some, h2]
  exact h3
theorem forL_rt {g : D → Rho → Option Rho} {b : SM} {d : D} {ds : List D} {ρ ρ1 ρ2 : Rho} {r : RV} (h1 : g d ρ = some ρ1) (h2 : b ρ1 = some (.rt r ρ2)) : forL g b (d :: ds) ρ = some (.rt r ρ2) := by
  show ((g d ρ).bind _) = _
  rw [h1, Option.bind_some, h2]
  rfl
theorem intsOf_map : ∀ l : List Int, intsOf (l.map .int) = some l
  | [] => rfl
  | x :: l => by rw [List.map_cons]; unfold intsOf; rw [intsOf_map l]; rfl
theorem gSum_ints (l : List Int) : gSum [.list (l.map .int)] = some (.int l.sum, false) := by
  show (intsOf _).map _ = _
  rw [intsOf_map]; rfl
end Mir
set_option Elab.async false
set_option linter.all false
set_option maxRecDepth 100000
namespace Mir
open PySem L2
variable [Zc]
def asS : D → Option (List D)
  | .list ds => some ds
  | .tuple ds => some ds
  | _ => none
def mgU (n : Nat) (ms : List D → Rho → Option Rho) : D → Rho → Option Rho := fun d ρ => (asS d).bind fun ds => if ds.length = n then ms ds ρ else none
theorem mg_tupL {K : PySem.W.Frag} {n : Nat} {gs : TGs} {ms : List D → Rho → Option Rho} (h : MGs gs ms) : MG (gTupL K n gs) (mgU n ms) := fun F B H σ ρ v d ρ' Q R rp e q => by
  obtain ⟨ds, e1, e2⟩ := Option.bind_eq_some_iff.mp e
  cases rp with
  | tup hp rs =>
    cases e1
    split at e2
    · rename_i hn
      exact ⟨_, _, rfl, .inl (.inl (.inl (R.sub _ _ hp))), by rw [rs.length]; exact hn, h F B H σ ρ _ _ ρ' Q R rs e2 q⟩
    · cases e2
  | lst hp rs =>
    cases e1
    split at e2
    · rename_i hn
      exact ⟨_, _, rfl, .inr (rd_sq (rd_same R.sub hp)), by rw [rs.length]; exact hn, h F B H σ ρ _ _ ρ' Q R rs e2 q⟩
    · cases e2
  | _ => cases e1
theorem asgG_fz {a : PM} {g : D → Rho → Option Rho} {ρ ρ1 ρ2 : Rho} {d : D} (h : a ρ = some ((d, .fz), ρ1)) (h2 : g d ρ1 = some ρ2) : mAsgG a g ρ = some (.nx ρ2) := by
  unfold mAsgG; rw [sv_fz h]; show ((g d ρ1).map Out.nx) = _; rw [h2]; rfl
end Mir
set_option Elab.async false
set_option linter.all false
set_option maxRecDepth 100000
namespace L2
open PySem PySem.Spec PyProof.Rows
variable {X : Cx}
end L2
namespace Mir
open PySem L2
variable [Zc]
theorem gLen_ints (l : List Int) : gLen [.list (l.map .int)] = some (.int (l.length : Int), false) := by show some (PyData.int ((l.map PyData.int).length : Int), false) = _; rw [List.length_map]
end Mir
set_option Elab.async false
set_option linter.all false
set_option maxRecDepth 100000
namespace Mir
open PySem L2
inductive OutE where
  | ok (o : Out) | er (c : Str) (ρ : Rho)
section
variable [Zc]
end
end Mir
namespace L2
open PySem PySem.Spec PyProof.Rows
end L2
set_option Elab.async false
set_option linter.all false
set_option maxRecDepth 100000
namespace L2
open PySem PySem.Spec PyProof.Rows
end L2
set_option Elab.async false
set_option linter.all false
set_option maxRecDepth 100000
namespace L2
open PySem PySem.Spec PyProof.Rows
theorem Vals.picks {xs : List V} {us : List Value} (r : Vals xs us) : ∀ is : List Nat, Vals (is.filterMap (xs[·]?)) (is.filterMap (us[·]?))
  | [] => .nil
  | i :: is => by
    cases h : xs[i]? with
    | none => rw [List.filterMap_cons_none h, List.filterMap_cons_none (r.none_of h)]; exact r.picks is
    | some x =>
      obtain ⟨u, h1, h2⟩ := r.get h
      rw [List.filterMap_cons_some h, List.filterMap_cons_some h1]
      exact .cons h2 (r.picks is)
section
variable {X : Cx} {e : Expr} {te : TE} {est : Expr} {lo hi : Option Expr} {tl th tk : TO} {pos p2 : Pos}
end
end L2
namespace Mir
open PySem L2
variable [Zc]
theorem Reps.picks {H : Hp} {vs : List V} {ds : List D} (r : Reps H vs ds) : ∀ is : List Nat, Reps H (is.filterMap (vs[·]?)) (is.filterMap (ds[·]?))
  | [] => .nil
  | i :: is => by
    cases h : ds[i]? with
    | none =>
      have h' : vs[i]? = none := by
        rw [List.getElem?_eq_none_iff] at h ⊢
        rw [r.length]; exact h
      rw [List.filterMap_cons_none h, List.filterMap_cons_none h']; exact r.picks is
    | some x =>
      obtain ⟨u, h1, h2⟩ := r.get i x h
      rw [List.filterMap_cons_some h, List.filterMap_cons_some h1]
      exact .cons h2 (r.picks is)
end Mir
set_option Elab.async false
set_option linter.all false
set_option maxRecDepth 100000
namespace Mir
open PySem L2
section
variable [Zc]
def LF (B : Hp) : Prop := ∀ q o, B q = some o → ∃ xs, o = .tup xs
structure FrP (F : Fr) : Prop where
  lf : LF F.B
  io : F.io = []
  zh : ∀ q, F.Z q → F.H q ≠ none
def MSP (t : TS) (m : SM) : Prop := ∀ (F : Fr) (B H : Hp) (σ : St) (ρ : Rho) (o : Out) (D : Ends), FrP F → Rel F B H σ ρ → m ρ = some o → OutOk F D o → t D σ H
theorem MS.p {t : TS} {m : SM} (h : MS t m) : MSP t m := fun F B H σ ρ o D _ R e q => h F B H σ ρ o D R e q
def tups (H : Hp) : Hp := fun q => match H q with
  | some (.tup xs) => some (.tup xs)
  | _ => none
theorem Reps.put {B B' : Hp} (k : ∀ q xs, B q = some (.tup xs) → B' q = some (.tup xs)) {x : V} {c c' : D} (hr : Rep B' x c') : ∀ {vs : List V} {ds : List D} (j : Nat), Reps B vs ds → vs[j]? = some x → ds[j]? = some c → pureDs (ds.set j .none) = true → Reps B' vs (ds.set j c')
  | _, _, _, .nil, h, _, _ => by simp at h
  | _, _, 0, .cons a b, h1, h2, e => by
    simp only [List.getElem?_cons_zero, Option.some.injEq] at h1
    subst h1
    simp only [List.set_cons_zero, pureDs, Bool.and_eq_true] at e
    exact .cons hr (b.ofPure k e.2)
  | _, _, j + 1, .cons a b, h1, h2, e => by
    simp only [List.set_cons_succ, pureDs, Bool.and_eq_true] at e
    exact .cons (a.ofPure k e.1) (Reps.put k hr j b (by simpa using h1) (by simpa using h2) e.2)
end
end Mir
set_option Elab.async false
set_option linter.all false
set_option maxRecDepth 100000
namespace Mir
open PySem L2
section
variable [Zc]
structure PostI (B H : Hp) (p : Addr) (v : V) (B' H' : Hp) (d : D) (o : Bool) (d1 : D) : Prop where
  eH : ∀ q u, q ≠ p → H q = some u → H' q = some u
  eB : Same B B'
  sub : Same B' H'
  nb : ∀ q, H q ≠ none → B q = none → B' q = none
  tB : ∀ q xs, H' q = some (.tup xs) → B' q = some (.tup xs)
  nz : ∀ q o u, H' q = some (.frz o u) → H q ≠ none
  own : Own B' H' p d1
  val : if o = true then ∃ p, v = .ref p ∧ H p = none ∧ B' p = none ∧ Own B' H' p d else Rep B' v d
def spI (f : List D → Option ((D × Bool) × D)) : Sp := fun vs H Q _ => ∃ B p us d0 ds r d1, vs = .ref p :: us ∧ Same B H ∧ (∀ q xs, H q = some (.tup xs) → B q = some (.tup xs)) ∧ B p = none ∧ Own B H p d0 ∧ Reps B us ds ∧ f (d0 :: ds) = some (r, d1) ∧ ∀ v B' H', PostI B H p v B' H' r.1 r.2 d1 → Q v H'
def outRho : Out → Rho
  | .nx ρ => ρ
  | .rt _ ρ => ρ
  | .bk ρ => ρ
  | .ct ρ => ρ
def io0 : Rho → Option D
  | .io d :: _ => some d
  | _ => none
theorem io0_eq {ρ : Rho} {d : D} (h : io0 ρ = some d) : ρ[0]? = some (Sl.io d) := by
  unfold io0 at h
  split at h
  · cases h; rfl
  · cases h
def fnI (n k : Nat) (b : SM) : List D → Option ((D × Bool) × D)
  | [] => none
  | d0 :: ds => if ds.length + 1 = n then (b (.io d0 :: ds.map .fz ++ List.replicate k .no)).bind fun o => (retD o).bind fun r => (io0 (outRho o)).map fun d => (r, d) else none
theorem fn_runI {n k : Nat} {b : SM} {t : TS} {N : List Str} {vs : List V} {H : Hp} {Q : VK} {E : XK} (hb : MS t b) (hN : N.length = n + k) (h : spI (fnI n k b) vs H Q E) : t { nx := fun _ H' => Q .non H', rt := Q } (L2.start N vs) H := by
  obtain ⟨B, p, us, d0, ds, r0, d1, rfl, sub, tB, hB, ow, rp, e, q⟩ := h
  simp only [fnI] at e
  split at e
  case isFalse => cases e
  rename_i hl
  obtain ⟨w, e1, e2⟩ := Option.bind_eq_some_iff.mp e
  obtain ⟨r, e2, e3⟩ := Option.bind_eq_some_iff.mp e2
  obtain ⟨d, e3, e4⟩ := Option.map_eq_some_iff.mp e3
  cases e4
  have hvl : us.length + 1 = n := by rw [rp.length]; exact hl
  have own0 : ∀ (i : Nat) (s : Sl), (Sl.io d0 :: ds.map Sl.fz ++ List.replicate k .no)[i]? = some s → s.isRef = true → i = 0 ∧ s = .io d0 := fun i s h1 h2 => by
    cases i with
    | zero => rw [List.cons_append, List.getElem?_cons_zero] at h1; cases h1; exact ⟨rfl, rfl⟩
    | succ i =>
      rw [List.cons_append, List.getElem?_cons_succ] at h1
      have := List.mem_of_getElem? h1
      rcases List.mem_append.mp this with h | h
      · obtain ⟨c, _, rfl⟩ := List.mem_map.mp h; cases h2
      · rw [List.eq_of_mem_replicate h] at h2; cases h2
  have ex0 : ∀ i : Nat, (Sl.io d0 :: ds.map Sl.fz ++ List.replicate k .no)[i]? = some Sl.ex → False := fun i h1 => by
    cases i with
    | zero => rw [List.cons_append, List.getElem?_cons_zero] at h1; cases h1
    | succ i =>
      rw [List.cons_append, List.getElem?_cons_succ] at h1
      have := List.mem_of_getElem? h1
      rcases List.mem_append.mp this with h | h
      · obtain ⟨c, _, z⟩ := List.mem_map.mp h; cases z
      · have := List.eq_of_mem_replicate h; cases this
  have st0 : (L2.start N (.ref p :: us))[0]? = some (some (.ref p)) := by
    unfold L2.start
    rw [List.map_cons, List.cons_append, List.getElem?_cons_zero]
  have R : Rel ⟨B, H, [(0, p)], fun q => H q ≠ none⟩ B H (L2.start N (.ref p :: us)) (.io d0 :: ds.map .fz ++ List.replicate k .no) := by
    refine ⟨sub, Same.refl _, fun _ _ z _ => z, fun _ _ z => z, ?_, fun i s hs => ?_, fun i j s t p h1 h2 h3 h4 _ _ => (own0 i s h1 (Sl.ref_of h2)).1.trans (own0 j t h3 h4).1.symm, (fun i c p h1 => by have := (own0 i _ h1 rfl).2; cases this), (fun x hx => ?_), (fun i c h1 => ?_), tB, (fun i h1 => (ex0 i h1).elim), fun q o u h z => by rw [z] at h; cases h⟩
    · simp [L2.start, hl, hvl, hN]; omega
    · cases i with
      | zero =>
        rw [List.cons_append, List.getElem?_cons_zero] at hs
        cases hs
        exact ⟨p, st0, hB, ow⟩
      | succ i =>
        rw [List.cons_append, List.getElem?_cons_succ] at hs
        by_cases hi : i < ds.length
        · rw [List.getElem?_append_left (by simpa using hi), List.getElem?_map] at hs
          obtain ⟨c, h1, rfl⟩ := Option.map_eq_some_iff.mp hs
          obtain ⟨x, h2, h3⟩ := rp.get i c h1
          refine ⟨x, ?_, h3⟩
          unfold L2.start
          rw [List.map_cons, List.cons_append, List.getElem?_cons_succ, List.getElem?_append_left (by rw [List.length_map, rp.length]; exact hi), List.getElem?_map, h2]
          rfl
        · rw [List.getElem?_append_right (by simpa using Nat.le_of_not_lt hi)] at hs
          have := List.eq_of_mem_replicate (List.mem_of_getElem? hs)
          subst this
          trivial
    · simp only [List.mem_cons, List.not_mem_nil, or_false] at hx
      subst hx
      exact ⟨st0, d0, rfl⟩
    · obtain ⟨rfl, _⟩ := own0 i _ h1 rfl
      exact ⟨p, by simp⟩
  refine hb _ B H _ _ w _ R e1 ?_
  have post : ∀ {B' H' : Hp} {σ' : St} {ρ' : Rho}, outRho w = ρ' → Rel ⟨B, H, [(0, p)], fun q => H q ≠ none⟩ B' H' σ' ρ' → (∀ q u, q ≠ p → H q = some u → H' q = some u) ∧ Same B B' ∧ Same B' H' ∧ (∀ q, H q ≠ none → B q = none → B' q = none) ∧ (∀ q xs, H' q = some (.tup xs) → B' q = some (.tup xs)) ∧ (∀ q o u, H' q = some (.frz o u) → H q ≠ none) ∧ Own B' H' p d1 := fun {B' H' σ' ρ'} hw R' => by
    refine ⟨fun q u n z => R'.sH q u z (fun x hx => ?_), R'.sB, R'.sub, R'.nB, R'.tupB, R'.nz, ?_⟩
    · simp only [List.mem_cons, List.not_mem_nil, or_false] at hx
      subst hx
      exact fun z => n z.symm
    · rw [hw] at e3
      have h0 := io0_eq e3
      obtain ⟨p', g1, g2, g3⟩ := R'.slot 0 _ h0
      obtain ⟨g4, _⟩ := R'.fx (0, p) (by simp)
      rw [g4] at g1
      cases g1
      exact g3
  cases w with
  | nx ρ' =>
    cases e2
    intro B' H' σ' R'
    obtain ⟨p1, p2, p3, p4, p5, p6, p7⟩ := post rfl R'
    exact q _ B' H' ⟨p1, p2, p3, p4, p5, p6, p7, .non⟩
  | bk ρ' => cases e2
  | ct ρ' => cases e2
  | rt r' ρ' =>
    intro v B' H' σ' R' V'
    obtain ⟨p1, p2, p3, p4, p5, p6, p7⟩ := post rfl R'
    obtain ⟨c, kd⟩ := r'
    cases kd with
    | fz => cases e2; exact q v B' H' ⟨p1, p2, p3, p4, p5, p6, p7, V'⟩
    | new =>
      cases e2
      obtain ⟨p, rfl, h1, h2, h3, _⟩ := V'
      exact q _ B' H' ⟨p1, p2, p3, p4, p5, p6, p7, ⟨p, rfl, h2, h1, h3⟩⟩
    | ro => cases e2
    | «at» i =>
      obtain ⟨s, h1, h2, h3, h4⟩ := V'
      have e2' : (match ρ'[i]? with
        | some (.own d) => some (d, true)
        | _ => none) = some r0 := e2
      rw [h1] at e2'
      cases s with
      | own c' =>
        cases e2'
        obtain ⟨p, g1, g2, g3⟩ := R'.slot i _ h1
        have h4' : σ'[i]? = some (some v) := h4
        rw [h4'] at g1
        cases g1
        exact q _ B' H' ⟨p1, p2, p3, p4, p5, p6, p7, ⟨p, rfl, R'.ownN i _ p h1 h4', g2, g3⟩⟩
      | _ => cases e2'
theorem spI_len {n k : Nat} {b : SM} {vs : List V} {H : Hp} {Q : VK} {E : XK} (h : spI (fnI n k b) vs H Q E) : vs.length = n := by
  obtain ⟨B, p, us, d0, ds, r0, d1, rfl, sub, tB, hB, ow, rp, e, q⟩ := h
  simp only [fnI] at e
  split at e
  · rename_i hl; rw [List.length_cons, rp.length]; exact hl
  · cases e
def ownAt (ρ : Rho) (i : Nat) : Option Sl := match ρ[i]? with
  | some s => if s.isOwn = true then some s else none
  | none => none
theorem ownAt_eq {ρ : Rho} {i : Nat} {s : Sl} (h : ownAt ρ i = some s) : ρ[i]? = some s ∧ s.isOwn = true := by
  unfold ownAt at h
  split at h
  · rename_i s' h0
    split at h
    · rename_i h1; cases h; exact ⟨h0, h1⟩
    · cases h
  · cases h
def mCallI (i : Nat) (f : List D → Option ((D × Bool) × D)) (m : Rho → Option (List RV × Rho)) : PM := fun ρ => (ownAt ρ i).bind fun _ => (m ρ).bind fun x => (fzAll x.1 x.2).bind fun y => (ownAt y.2 i).bind fun s => (f (slD s :: y.1)).map fun w => (kO w.1.1 w.1.2, y.2.set i (s.put w.2))
theorem Own.notfrz {B H : Hp} {p : Addr} {d : D} (h : Own B H p d) (a : Obj) (u : HO) : H p ≠ some (.frz a u) := by cases h with
  | lst h _ => rw [h]; simp
  | dct h _ => rw [h]; simp
theorem me_callI {f : List D → Option ((D × Bool) × D)} {E : XK} {i : Nat} {t : TA} {m : Rho → Option (List RV × Rho)} (h : MA t m) : ME (tCall (spI f) [] E (tCons (tVar i) t)) (mCallI i f m) := by
  intro F B H σ ρ r0 ρ' Q R e q
  obtain ⟨s0, e0, e⟩ := Option.bind_eq_some_iff.mp e
  obtain ⟨x, e1, e⟩ := Option.bind_eq_some_iff.mp e
  obtain ⟨y, e2, e⟩ := Option.bind_eq_some_iff.mp e
  obtain ⟨s, e4, e⟩ := Option.bind_eq_some_iff.mp e
  obtain ⟨w, e3, e⟩ := Option.map_eq_some_iff.mp e
  cases e
  obtain ⟨hs0, ho0⟩ := ownAt_eq e0
  obtain ⟨hs, ho⟩ := ownAt_eq e4
  obtain ⟨p, hv, _, _⟩ := R.ownAt hs0 ho0
  refine ⟨_, hv, ?_⟩
  refine h F B H σ ρ x.1 x.2 _ R e1 fun vs B1 H1 E1 R1 V1 => ?_
  show spI f (V.ref p :: vs ++ []) H1 Q E
  rw [List.append_nil]
  obtain ⟨B2, R2, rp, E2⟩ := Rel.frzL R1 V1.weak e2
  obtain ⟨p', hv', hB, ow⟩ := R2.ownAt hs ho
  rw [hv] at hv'
  cases hv'
  obtain ⟨oo, hoo⟩ := ow.there
  obtain ⟨r, d1⟩ := w
  refine ⟨B2, p, vs, slD s, y.1, r, d1, rfl, R2.sub, R2.tupB, hB, ow, rp, e3, fun v B' H' P => ?_⟩
  obtain ⟨o1, ho1⟩ := P.own.there
  have hB' : B' p = none := P.nb p (by rw [hoo]; simp) hB
  have eH : Same H1 (upd H' p oo) := fun c u hc => by
    by_cases z : c = p
    · subst z; rw [hoo] at hc; cases hc; exact upd_same
    · rw [upd_ne z]; exact P.eH c u z hc
  have sub : Same B' (upd H' p oo) := fun c u hc => by
    rw [upd_ne (fun z => by rw [z, hB'] at hc; cases hc)]; exact P.sub c u hc
  have tB : ∀ c xs, upd H' p oo c = some (.tup xs) → B' c = some (.tup xs) := fun c xs hc => by
    by_cases z : c = p
    · subst z; rw [upd_same] at hc; cases hc; exact absurd hoo (ow.notup xs)
    · rw [upd_ne z] at hc; exact P.tB c xs hc
  have nz : ∀ c a u, upd H' p oo c = some (.frz a u) → H1 c ≠ none := fun c a u hc => by
    by_cases z : c = p
    · subst z; rw [hoo]; simp
    · rw [upd_ne z] at hc; exact P.nz c a u hc
  have R3 := R2.grow P.eB eH sub P.nb tB nz
  have E3 : Ext σ y.2 B2 H1 y.2 B' (upd H' p oo) := Ext.grow P.eB eH P.nb
  have back : upd (upd H' p oo) p o1 = H' := by
    funext c
    by_cases z : c = p
    · subst z; rw [upd_same, ho1]
    · rw [upd_ne z, upd_ne z]
  obtain ⟨R4, E4⟩ := R3.write (o := o1) (d := d1) hs ho hv ⟨(fun xs z => by rw [z] at ho1; exact P.own.notup xs ho1), fun a u z => by rw [z] at ho1; exact P.own.notfrz a u ho1⟩ (by rw [back]; exact P.own)
  rw [back] at R4 E4
  have EE := E1.trans (E2.trans (E3.trans E4))
  obtain ⟨d, o⟩ := r
  cases o with
  | false =>
    have pv : Rep B' v d := P.val
    exact q v B' H' EE R4 pv fun p z => by cases z
  | true =>
    obtain ⟨p2, rfl, h1, h2, h3⟩ : ∃ p, v = .ref p ∧ H1 p = none ∧ B' p = none ∧ Own B' H' p d := P.val
    have fr := R2.free h1
    refine q _ B' H' EE R4 ⟨p2, rfl, h2, fr.2.1, h3, fun j t h4 h5 h6 => ?_⟩ fun p' _ z => by cases z; exact E1.live p2 h1
    rcases get_set h4 with ⟨rfl, _, _⟩ | ⟨_, h4⟩
    · rw [hv] at h6
      cases h6
      rw [h1] at hoo; cases hoo
    · exact fr.2.2 j t h4 h5 h6
theorem callI_ev {f : List D → Option ((D × Bool) × D)} {m : Rho → Option (List RV × Rho)} {i : Nat} {s s' : Sl} {rs : List RV} {ds : List D} {d d0 d1 : D} {o : Bool} {ρ ρ1 ρ2 : Rho} (h0 : ownAt ρ i = some s') (h1 : m ρ = some (rs, ρ1)) (h2 : fzAll rs ρ1 = some (ds, ρ2)) (h3 : ownAt ρ2 i = some s) (h4 : f (slD s :: ds) = some ((d, o), d1)) : mCallI i f m ρ = some (kO d o, ρ2.set i (s.put d1)) := by
  unfold mCallI
  rw [h0, Option.bind_some, h1, Option.bind_some]; dsimp only
  rw [h2, Option.bind_some]; dsimp only
  rw [h3, Option.bind_some, h4]; rfl
theorem op_io {a b : PM} {ρ ρ1 ρ2 : Rho} {x y : D} {r : RV} {res : D × Bool} {g : D → D → Option (D × Bool)} {i : Nat} (h1 : sv a ρ = some ((x, .at i), ρ1)) (h2 : sv b ρ1 = some (r, ρ2)) (h4 : ρ2[i]? = some (.io y)) (h3 : g y r.1 = some res) : mOp g a b ρ = some (resK res, ρ2) := by
  unfold mOp; rw [h1, Option.bind_some]; dsimp only; rw [h2, Option.bind_some]; dsimp only [refr]; rw [h4]; dsimp only [Option.bind_some]; rw [h3, Option.map_some]
theorem var_io {d : D} {ρ : Rho} {i : Nat} (h : ρ[i]? = some (.io d)) : mVar i ρ = some ((d, .at i), ρ) := by unfold mVar; rw [h]
theorem fnI_of {n k : Nat} {b : SM} {d0 d1 : D} {ds : List D} {o : Out} {r : D × Bool} (hl : ds.length + 1 = n) (h : b (.io d0 :: ds.map .fz ++ List.replicate k .no) = some o) (hr : retD o = some r) (h0 : io0 (outRho o) = some d1) : fnI n k b (d0 :: ds) = some (r, d1) := by
  simp only [fnI]; rw [if_pos hl, h, Option.bind_some, hr, Option.bind_some, h0]; rfl
theorem op_ro {a b : PM} {ρ ρ1 ρ2 : Rho} {x : D} {r : RV} {res : D × Bool} {g : D → D → Option (D × Bool)} (h1 : sv a ρ = some ((x, .ro), ρ1)) (h2 : sv b ρ1 = some (r, ρ2)) (h3 : g x r.1 = some res) : mOp g a b ρ = some (resK res, ρ2) := by
  unfold mOp; rw [h1, Option.bind_some]; dsimp only; rw [h2, Option.bind_some]; dsimp only [refr, Option.bind_some]; rw [h3, Option.map_some]
end
end Mir
set_option Elab.async false
set_option linter.all false
set_option maxRecDepth 100000
namespace L2
open PySem PySem.Spec PyProof.Rows
section
variable {κ : Type} [DecidableEq κ]
def valV (kvs : List (κ × V)) (k : κ) : Option V := (kvs.find? fun kv => decide (kv.1 = k)).map (·.2)
def putK (kvs : List (κ × V)) (k : κ) (v : V) : List (κ × V) :=
  if (kvs.any fun kv => decide (kv.1 = k)) = true then kvs.map (fun kv => if kv.1 = k then (kv.1, v) else kv) else kvs ++ [(k, v)]
def dropK (kvs : List (κ × V)) (k : κ) : List (κ × V) := kvs.filter fun kv => decide (kv.1 ≠ k)
theorem valV_pos {p : κ × V} {r : List (κ × V)} {k : κ} (e : p.1 = k) : valV (p :: r) k = some p.2 := by simp [valV, List.find?_cons, e]
theorem valV_neg {p : κ × V} {r : List (κ × V)} {k : κ} (e : ¬ p.1 = k) : valV (p :: r) k = valV r k := by simp [valV, List.find?_cons, e]
theorem valV_any (k : κ) : ∀ kvs : List (κ × V), (kvs.any fun kv => decide (kv.1 = k)) = (valV kvs k).isSome
  | [] => rfl
  | p :: r => by
    rw [List.any_cons]
    by_cases e : p.1 = k
    · simp only [valV_pos e, decide_eq_true e, Bool.true_or, Option.isSome_some]
    · rw [valV_neg e, decide_eq_false e, Bool.false_or]; exact valV_any k r
theorem putK_new {kvs : List (κ × V)} {k : κ} (v : V) (h : valV kvs k = none) : putK kvs k v = kvs ++ [(k, v)] := by
  unfold putK
  rw [valV_any, h]
  exact if_neg (by decide)
theorem RelO.isSome_eq {o : Option V} {u : Option Value} (r : RelO o u) : o.isSome = u.isSome := by
  cases o with
  | none => cases u with
    | none => rfl
    | some _ => exact (show False from r).elim
  | some _ => cases u with
    | none => exact (show False from r).elim
    | some _ => rfl
theorem RelO.getD {o : Option V} {u : Option Value} {d : V} {d' : Value} (r : RelO o u) (rd : RelV d d') : RelV (o.getD d) (u.getD d') := by
  cases o with
  | none => cases u with
    | none => exact rd
    | some _ => exact (show False from r).elim
  | some _ => cases u with
    | none => exact (show False from r).elim
    | some _ => exact r
theorem KV.val {kvs : List (κ × V)} {vs : List (κ × Value)} (r : KV kvs vs) (k : κ) : RelO (valV kvs k) (valueAt vs k) := by
  unfold KV at r
  induction r with
  | nil => exact True.intro
  | @cons p q ps qs h t ih =>
    obtain ⟨h1, h2⟩ := h
    by_cases e : p.1 = k
    · have e' : q.1 = k := h1.symm.trans e
      have b : valueAt (q :: qs) k = some q.2 := by simp [valueAt, List.find?_cons, e']
      rw [valV_pos e, b]; exact h2
    · have e' : ¬ q.1 = k := fun z => e (h1.trans z)
      have b : valueAt (q :: qs) k = valueAt qs k := by simp [valueAt, List.find?_cons, e']
      rw [valV_neg e, b]; exact ih
theorem KV.any {kvs : List (κ × V)} {vs : List (κ × Value)} (r : KV kvs vs) (k : κ) : (kvs.any fun kv => decide (kv.1 = k)) = vs.any fun kv => decide (kv.1 = k) := by
  unfold KV at r
  induction r with
  | nil => rfl
  | cons h t ih => rw [List.any_cons, List.any_cons, ih, h.1]
theorem KV.repl {kvs : List (κ × V)} {vs : List (κ × Value)} (r : KV kvs vs) (k : κ) {y : V} {u : Value} (ry : RelV y u) :
    KV (kvs.map fun kv => if kv.1 = k then (kv.1, y) else kv) (vs.map fun kv => if kv.1 = k then (kv.1, u) else kv) := by
  unfold KV at r ⊢
  induction r with
  | nil => exact .nil
  | @cons p q ps qs h t ih =>
    rw [List.map_cons, List.map_cons]
    refine .cons ?_ ih
    obtain ⟨h1, h2⟩ := h
    by_cases e : p.1 = k
    · rw [if_pos e, if_pos (h1.symm.trans e)]; exact ⟨h1, ry⟩
    · rw [if_neg e, if_neg (fun z => e (h1.trans z))]; exact ⟨h1, h2⟩
theorem KV.put {kvs : List (κ × V)} {vs : List (κ × Value)} (r : KV kvs vs) (k : κ) {y : V} {u : Value} (ry : RelV y u) : KV (putK kvs k y) (stored vs k u) := by
  unfold putK stored
  rw [r.any k]
  by_cases e : (vs.any fun kv => decide (kv.1 = k)) = true
  · rw [if_pos e, if_pos e]; exact r.repl k ry
  · rw [if_neg e, if_neg e]; exact Paired.snoc r ⟨rfl, ry⟩
theorem KV.drop {kvs : List (κ × V)} {vs : List (κ × Value)} (r : KV kvs vs) (k : κ) : KV (dropK kvs k) (without vs k) := by
  unfold KV at r ⊢
  unfold dropK without
  induction r with
  | nil => exact .nil
  | @cons p q ps qs h t ih =>
    obtain ⟨h1, h2⟩ := h
    rw [List.filter_cons, List.filter_cons]
    by_cases e : p.1 = k
    · have a : ¬ decide (p.1 ≠ k) = true := by simp [e]
      have b : ¬ decide (q.1 ≠ k) = true := by simp [h1.symm.trans e]
      rw [if_neg a, if_neg b]; exact ih
    · have e' : ¬ q.1 = k := fun z => e (h1.trans z)
      have a : decide (p.1 ≠ k) = true := by simp [e]
      have b : decide (q.1 ≠ k) = true := by simp [e']
      rw [if_pos a, if_pos b]; exact .cons ⟨h1, h2⟩ ih
theorem KV.length {kvs : List (κ × V)} {vs : List (κ × Value)} (r : KV kvs vs) : kvs.length = vs.length := Paired.length r
end
theorem kV_is {P : Program} {w : World} {k : Key} {u : Value} (r : RelV (kV k) u) : (mixKind P w).is k u = true := by
  cases k with
  | inl i => obtain ⟨t, e⟩ := (show ∃ t, u = Value.int i t from r); subst e; exact mixKind_int P w i t
  | inr x => obtain ⟨t, e⟩ := (show ∃ t, u = Value.str x t from r); subst e; exact mixKind_str P w x t
abbrev KT (H : Hp) : List (List Key × V) → List (List Key × Addr × Value) → Prop := Paired fun p q => p.1 = q.1 ∧ H q.2.1 = some (.tup (p.1.map kV)) ∧ RelV p.2 q.2.2
theorem KT.val {H : Hp} {kvs : List (List Key × V)} {xs : List (List Key × Addr × Value)} (r : KT H kvs xs) (k : List Key) : RelO (valV kvs k) ((atKey xs k).map (·.2)) := by
  induction r with
  | nil => exact True.intro
  | @cons p q ps qs h t ih =>
    obtain ⟨h1, _, h2⟩ := h
    by_cases e : p.1 = k
    · have e' : q.1 = k := h1.symm.trans e
      have b : atKey (q :: qs) k = some q.2 := by simp [atKey, List.find?_cons, e']
      rw [valV_pos e, b]; exact h2
    · have e' : ¬ q.1 = k := fun z => e (h1.trans z)
      have b : atKey (q :: qs) k = atKey qs k := by simp [atKey, List.find?_cons, e']
      rw [valV_neg e, b]; exact ih
theorem KT.repl {H : Hp} {kvs : List (List Key × V)} {xs : List (List Key × Addr × Value)} (r : KT H kvs xs) (k : List Key) {y : V} {u : Value} (ry : RelV y u) :
    KT H (kvs.map fun kv => if kv.1 = k then (kv.1, y) else kv) (xs.map (putAt k u)) := by
  induction r with
  | nil => exact .nil
  | @cons p q ps qs h t ih =>
    rw [List.map_cons, List.map_cons]
    refine .cons ?_ ih
    obtain ⟨h1, h2, h3⟩ := h
    unfold putAt
    by_cases e : p.1 = k
    · rw [if_pos e, if_pos (h1.symm.trans e)]; exact ⟨h1, h2, ry⟩
    · rw [if_neg e, if_neg (fun z => e (h1.trans z))]; exact ⟨h1, h2, h3⟩
theorem KT.put {H : Hp} {kvs : List (List Key × V)} {xs : List (List Key × Addr × Value)} (r : KT H kvs xs) (k : List Key) {b : Addr} {y : V} {u : Value} (hb : H b = some (.tup (k.map kV))) (ry : RelV y u) :
    KT H (putK kvs k y) (storedH xs k b u) := by
  have e : (kvs.any fun kv => decide (kv.1 = k)) = (atKey xs k).isSome := by
    rw [valV_any, (r.val k).isSome_eq, Option.isSome_map]
  unfold putK storedH
  rw [e]
  by_cases q : (atKey xs k).isSome = true
  · rw [if_pos q, if_pos q]; exact r.repl k ry
  · rw [if_neg q, if_neg q]; exact Paired.snoc r ⟨rfl, hb, ry⟩
theorem KT.keeps {H H' : Hp} {kvs : List (List Key × V)} {xs : List (List Key × Addr × Value)} (r : KT H kvs xs) (ht : ∀ b ys, H b = some (.tup ys) → H' b = some (.tup ys)) : KT H' kvs xs :=
  Paired.mapP r fun _ _ z => ⟨z.1, ht _ _ z.2.1, z.2.2⟩
section
variable {P : Program} {w : World} {H : Hp} {h : Heap} {a : Addr}
theorem rd_of {u : HO} (ok : HOk P w H h) (e : Rd H a u) : ObjOk P w H h a u := e.ok ok
theorem dk_rd {kvs : List (Key × V)} (ok : HOk P w H h) (e : Rd H a (.dK kvs)) : kvs.length ≤ sizeLine ∧ (a == sysModules) = false ∧ ∃ vs, KV kvs vs ∧ h.DictOf (mixKind P w) a vs :=
  show ObjOk P w H h a (.dK kvs) from rd_of ok e
theorem dk_of {kvs : List (Key × V)} (ok : HOk P w H h) (e : H a = some (.dK kvs)) : kvs.length ≤ sizeLine ∧ (a == sysModules) = false ∧ ∃ vs, KV kvs vs ∧ h.DictOf (mixKind P w) a vs := dk_rd ok (.inl e)
end
def DGet (H : Hp) (a : Addr) (y : V) (r : Option V) : Prop :=
  (∃ kvs k, Rd H a (.dK kvs) ∧ y = kV k ∧ r = valV kvs k) ∨ ∃ kvs k b, Rd H a (.dT kvs) ∧ y = .ref b ∧ H b = some (.tup (k.map kV)) ∧ r = valV kvs k
def DPut (H : Hp) (a : Addr) (y v : V) (H' : Hp) : Prop :=
  (∃ kvs k, H a = some (.dK kvs) ∧ y = kV k ∧ kvs.length < sizeLine ∧ H' = upd H a (.dK (putK kvs k v))) ∨
  ∃ kvs k b, H a = some (.dT kvs) ∧ y = .ref b ∧ H b = some (.tup (k.map kV)) ∧ kvs.length < sizeLine ∧ H' = upd H a (.dT (putK kvs k v))
theorem DGet.k {H : Hp} {a : Addr} {kvs : List (Key × V)} {k : Key} (e : H a = some (.dK kvs)) : DGet H a (kV k) (valV kvs k) := .inl ⟨kvs, k, .inl e, rfl, rfl⟩
theorem DGet.t {H : Hp} {a b : Addr} {kvs : List (List Key × V)} {k : List Key} (e : H a = some (.dT kvs)) (eb : H b = some (.tup (k.map kV))) : DGet H a (.ref b) (valV kvs k) := .inr ⟨kvs, k, b, .inl e, rfl, eb, rfl⟩
theorem DPut.k {H : Hp} {a : Addr} {kvs : List (Key × V)} {k : Key} {v : V} (e : H a = some (.dK kvs)) (hl : kvs.length < sizeLine) : DPut H a (kV k) v (upd H a (.dK (putK kvs k v))) := .inl ⟨kvs, k, e, rfl, hl, rfl⟩
theorem DPut.t {H : Hp} {a b : Addr} {kvs : List (List Key × V)} {k : List Key} {v : V} (e : H a = some (.dT kvs)) (eb : H b = some (.tup (k.map kV))) (hl : kvs.length < sizeLine) :
    DPut H a (.ref b) v (upd H a (.dT (putK kvs k v))) := .inr ⟨kvs, k, b, e, rfl, eb, hl, rfl⟩
section
variable {X : Cx} {pins : List (Addr × Obj)} {σ : St} {H : Hp} {s : Shared} {a : Addr} {y v : V} {u r : Value} {o : Option V} {A : Around} {E : Value → Shared → Prop}
theorem Inv.big (I : Inv X pins σ H s) : sysModules < s.heap.objs.size := by
  have h : mainGlobals < s.heap.objs.size := (I.mod.glob.keeps I.bk).lt
  exact Nat.lt_trans (by decide) h
theorem d_write {h' : Heap} {t' : Nat} {ob : HO} (I : Inv X pins σ H s) (mu : Mut (H a)) (hs : Heap.SameBut a s.heap h') (he : ∃ q, h'.get? a = some q) (new : ObjOk X.prog X.w (upd H a ob) h' a ob) :
    Inv X pins σ (upd H a ob) { s with heap := h', toks := t' } :=
  I.write (x := a) (e := a) mu (.inl rfl) (fun b q hb z => (hs.2 b hb).trans z) he new
theorem dk_new {P : Program} {w : World} {H' : Hp} {h' : Heap} {kvs : List (Key × V)} {vs : List (Key × Value)} (z : kvs.length ≤ sizeLine) (hd : (a == sysModules) = false) (rel : KV kvs vs) (dd : h'.DictOf (mixKind P w) a vs) :
    ObjOk P w H' h' a (.dK kvs) := ⟨z, hd, vs, rel, dd⟩
end
section
variable {X : Cx} {pins : List (Addr × Obj)} {σ : St} {H : Hp} {s : Shared} {a : Addr} {kvs : List (Key × V)} {k : Key} {u : Value} {A : Around} {E : Value → Shared → Prop}
theorem d_len {Q : Value → Shared → Prop} (I : Inv X pins σ H s) (e : Rd H a (.dK kvs)) (h : ∀ t s', Inv X pins σ H s' → Q (.int kvs.length t) s') : wpAny (model X.prog X.w) A (call (.builtin "len") [.ref a]) Q E s := by
  obtain ⟨z, hd, vs, rel, dd⟩ := dk_rd I.hok e
  refine call_len_dict hd dd (by rw [← rel.length]; rw [sizeLine_eq] at z; omega) ?_
  rw [← rel.length]
  exact h _ _ (I.tok _)
end
section
variable {X : Cx} {o i e value : Expr} {pos pos' tpos : Pos} {td ty tv : TE}
end
theorem dk_empty {P : Program} {w : World} {H : Hp} (h : Heap) (hb : sysModules < h.objs.size) : ObjOk P w H (h.push { cls := .type "dict", data := .dict #[] }) h.objs.size (.dK []) :=
  ⟨Nat.zero_le _, beq_eq_false_iff_ne.mpr (Ne.symm (Nat.ne_of_lt hb)), [], .nil, Heap.DictOf.new h⟩
def tDNewK : TE := fun _ H Q => ∀ p, H p = none → Q (.ref p) (upd H p (.dK []))
section
variable {X : Cx} {pos : Pos}
theorem pe_dnewK : PE X (.Dict [] [] pos) tDNewK := fun pins s σ H Q I h =>
  wpAny_Dict_empty ⟨.ref s.heap.objs.size, _, I.laid (a := s.heap.objs.size) (o := .dK []) (t' := s.toks) (fun _ _ q => Heap.get?_push_of_some _ q) (Nat.le_refl _) (dk_empty s.heap I.big), rfl, h _ (I.hok.fresh (Nat.le_refl _))⟩
end
def mergeK (kvs more : List (Key × V)) : List (Key × V) := more.foldl (fun acc kv => putK acc kv.1 kv.2) kvs
theorem KV.merge : ∀ {more : List (Key × V)} {rs : List (Key × Value)} {kvs : List (Key × V)} {vs : List (Key × Value)}, KV more rs → KV kvs vs → KV (mergeK kvs more) (merged vs rs) := by
  intro more rs kvs vs r
  unfold KV at r
  induction r generalizing kvs vs with
  | nil => intro q; exact q
  | @cons p q ps qs h t ih =>
    intro r0
    have e : KV (putK kvs p.1 p.2) (stored vs q.1 q.2) := by
      have := r0.put p.1 h.2
      rw [← h.1]; exact this
    exact ih e
structure M1 (X : Cx) (o : Expr) (m : Str) (apos : Pos) (e : Expr) (cpos : Pos) : Prop where
  base : attributeBase o m X.env (eval o X.env) = eval o X.env
  few : ((backTo cpos (starEach [e] X.env)).all (fun x => !x.1) && (backToKw cpos (keywordEach [] X.env)).all (fun x => x.1.isSome)
    && decide (([e] : List Expr).length + ([] : List Keyword).length + (if ([] : List Keyword).isEmpty then 0 else 1) < 30)) = true
  line : (apos.endLine == cpos.line) = true
  trees : backTo cpos (starEach [e] X.env) = [(false, eval e X.env)]
structure M2 (X : Cx) (o : Expr) (m : Str) (apos : Pos) (e f : Expr) (cpos : Pos) : Prop where
  base : attributeBase o m X.env (eval o X.env) = eval o X.env
  few : ((backTo cpos (starEach [e, f] X.env)).all (fun x => !x.1) && (backToKw cpos (keywordEach [] X.env)).all (fun x => x.1.isSome)
    && decide (([e, f] : List Expr).length + ([] : List Keyword).length + (if ([] : List Keyword).isEmpty then 0 else 1) < 30)) = true
  line : (apos.endLine == cpos.line) = true
  trees : backTo cpos (starEach [e, f] X.env) = [(false, eval e X.env), (false, eval f X.env)]
section
variable {X : Cx} {pins : List (Addr × Obj)} {σ : St} {H : Hp} {s : Shared} {a : Addr} {y d : V} {u r : Value} {o : Option V} {A : Around} {E : Value → Shared → Prop}
end
section
variable {X : Cx} {o e f : Expr} {apos cpos : Pos} {td ty tx : TE}
end
section
variable {X : Cx} {pins : List (Addr × Obj)} {σ : St} {H : Hp} {s : Shared} {a : Addr} {kvs : List (Key × V)} {A : Around} {E : Value → Shared → Prop}
end
section
variable {X : Cx} {pins : List (Addr × Obj)} {σ : St} {H : Hp} {s : Shared} {a : Addr} {y : V} {u : Value} {A : Around} {E : Value → Shared → Prop}
end
end L2
set_option Elab.async false
set_option linter.all false
set_option maxRecDepth 100000
namespace L2
open PySem PySem.Spec PyProof.Rows
section
variable {X : Cx}
def rSetd : V → List V → Hp → VK → Prop := fun x xs H Q => ∃ a kvs k v, x = .ref a ∧ xs = [kV k, v] ∧ H a = some (.dK kvs) ∧ kvs.length < sizeLine ∧ (∀ u, valV kvs k = some u → Q u H) ∧ (valV kvs k = none → Q v (upd H a (.dK (putK kvs k v))))
theorem putK_le {kvs : List (Key × V)} {k : Key} {v : V} (h : kvs.length < sizeLine) : (putK kvs k v).length ≤ sizeLine := by
  unfold putK
  split
  · rw [List.length_map]; omega
  · rw [List.length_append, List.length_singleton]; omega
theorem mt_setd : MtR X "dict.setdefault" rSetd := by
  intro pins s σ H x xs v us Q I rx rv h
  obtain ⟨a, kvs, k, y, rfl, rfl, e, hl, h1, h2⟩ := h
  cases rx
  cases rv with
  | cons r1 rv =>
    cases rv with
    | cons r2 rv =>
      cases rv
      rename_i u1 u2
      obtain ⟨z, hd, vs, rel, dd⟩ := dk_of I.hok e
      refine call_meetsIn PySem.F.slot_dict_setdefault dd.typeIs PySem.F.entry_dict_setdefault (PySem.F.args_dict_setdefault_3 _ _ _) (kt_meets_setdefault (mixKind X.prog X.w) a (kV_is r1) hd u2)
        ⟨vs, dd, by rw [← rel.length]; exact z, fun w hw => ?_, fun hn h' dd' hs => ?_⟩
      · have := rel.val k
        rw [hw] at this
        cases hv : valV kvs k with
        | none => rw [hv] at this; exact this.elim
        | some w' => rw [hv] at this; exact ⟨w', H, I.tok _, this, h1 w' hv⟩
      · have hv : valV kvs k = none := by
          have := rel.val k
          rw [hn] at this
          cases hv : valV kvs k with
          | none => rfl
          | some w' => rw [hv] at this; exact this.elim
        have he : ∃ q, h'.get? a = some q := let ⟨q, _, _, hq, _⟩ := dd'; ⟨q, hq⟩
        exact ⟨y, _, d_write I (by rw [e]; exact True.intro) hs he (dk_new (putK_le hl) hd (rel.put k r2) dd'), r2, h2 hv⟩
def viewAt (p d : Addr) : Heap → Prop := fun h => h.IsValuesView p d
def rVals : V → List V → Hp → VK → Prop := fun x xs H Q => ∃ a kvs, x = .ref a ∧ xs = [] ∧ H a = some (.dK kvs) ∧ ∀ p, H p = none → Q (.ref p) (upd H p (.ext (viewAt p a)))
theorem mt_vals : MtR X "dict.values" rVals := by
  intro pins s σ H x xs v us Q I rx rv h
  obtain ⟨a, kvs, rfl, rfl, e, h1⟩ := h
  cases rx
  cases rv
  obtain ⟨z, hd, vs, rel, dd⟩ := dk_of I.hok e
  refine call_meetsIn PySem.F.slot_dict_values dd.typeIs PySem.F.entry_dict_values (PySem.F.args_dict_values_1 _) (meets_dict_values (mixKind X.prog X.w) a hd) ⟨⟨vs, dd⟩, ?_⟩
  have hg : (s.heap.push { cls := .type "dict_values", data := .fields #[.ref a] }).get? s.heap.objs.size = some { cls := .type "dict_values", data := .fields #[.ref a] } := Heap.get?_push_size _ rfl
  refine ⟨.ref s.heap.objs.size, _, I.laid (a := s.heap.objs.size) (o := .ext (viewAt s.heap.objs.size a)) (t' := s.toks) (fun _ _ q => Heap.get?_push_of_some _ q) (Nat.le_refl _) ⟨⟨_, hg, rfl, rfl⟩, ⟨_, hg⟩, fun h1 h2 ⟨o, p1, p2⟩ k => ⟨o, k o p1, p2⟩⟩, rfl, h1 _ (I.hok.fresh (Nat.le_refl _))⟩
theorem kv_vals {kvs : List (Key × V)} {vs : List (Key × Value)} (r : KV kvs vs) : Vals (kvs.map (·.2)) (vs.map (·.2)) := by
  induction r with
  | nil => exact .nil
  | cons h t ih => exact .cons h.2 ih
def rListV : List V → Hp → VK → Prop := fun xs H Q => ∃ v a kvs, xs = [V.ref v] ∧ H v = some (.ext (viewAt v a)) ∧ H a = some (.dK kvs) ∧ ∀ p, H p = none → Q (.ref p) (upd H p (.lst (kvs.map (·.2))))
theorem call_listV (hc : X.calm = true) : CallR X (.type "list") rListV := by
  intro pins s σ H xs us Q I r h
  obtain ⟨v, a, kvs, rfl, hv, ha, q⟩ := h
  cases r with
  | cons r1 r =>
    cases r
    obtain rfl := r1
    obtain ⟨z, hd, vs, rel, dd⟩ := dk_of I.hok ha
    obtain ⟨hview, _, _⟩ := I.hok v _ hv
    obtain ⟨ep, hat⟩ := dd.dictAt
    refine PySem.W.kdl_call (PySem.W.kdl_values (knd := mixKind X.prog X.w) (kvs := vs) (ep := ep)) (I.ok.hd hc) ⟨hview, hat⟩ (by rw [← rel.length]; exact z) fun h' tk acc' c' hk hD hacc => ?_
    have hvals : acc'.toList = vs.map (·.2) := PySem.W.kdl_vals_eq acc'.toList (by rw [Array.length_toList]; exact hacc.1) fun j u e => hacc.2 j u (by rw [← Array.getElem?_toList]; exact e)
    refine ⟨.ref s.heap.objs.size, _, I.laid (a := s.heap.objs.size) (o := .lst (kvs.map (·.2))) (t' := tk) hk (Nat.le_refl _) ⟨by rw [List.length_map]; exact z, vs.map (·.2), c', ?_, ?_⟩, rfl, q _ (I.hok.fresh (Nat.le_refl _))⟩
    · exact kv_vals rel
    · rw [hD, ← hvals, Array.toArray_toList]
def diff (ns : List Int) : Nat := (firstMet (fun i => ns.getD i 0) ns.length).length
def rSetI : List V → Hp → VK → Prop := fun xs H Q => ∃ l ns, xs = [V.ref l] ∧ H l = some (.lst (ns.map .int)) ∧ ns.length + 1 < 4096 ∧ ∀ p S, H p = none → Q (.ref p) (upd H p (.set S (diff ns)))
theorem ints_vals : ∀ {ns : List Int} {us : List Value}, Vals (ns.map V.int) us → IntsAre us ns
  | [], us, h => by cases h; first | exact .nil | trivial
  | n :: ns, us, h => by
    cases h with
    | cons r t =>
      obtain ⟨tk, rfl⟩ := r
      exact .cons _ _ (ints_vals t)
theorem call_setI (hc : X.calm = true) : CallR X (.type "set") rSetI := by
  intro pins s σ H xs us Q I r h
  obtain ⟨l, ns, rfl, hl, hz, q⟩ := h
  cases r with
  | cons r1 r =>
    cases r
    obtain rfl := r1
    obtain ⟨z, its, n, rv, hg⟩ := I.hok l _ hl
    have hlen : its.length = ns.length := by rw [← rv.length, List.length_map]
    refine PySem.call_set_list (items := its.toArray) (ns := ns) (I.ok.hd hc) ⟨_, hg, rfl, _, rfl⟩ (by simpa using ints_vals rv) (by rw [List.size_toArray, hlen]; exact hz) fun h' tk hS hk => ?_
    have hsz : its.toArray.size = ns.length := by rw [List.size_toArray, hlen]
    rw [hsz] at hS
    exact ⟨.ref s.heap.objs.size, _, I.laid (a := s.heap.objs.size) (o := .set _ _) (t' := tk) (fun b o e => hk b o (Heap.lt_size e) e) (Nat.le_refl _) hS, rfl, q _ _ (I.hok.fresh (Nat.le_refl _))⟩
def rLenS : List V → Hp → VK → Prop := fun xs H Q => ∃ a S n, xs = [V.ref a] ∧ H a = some (.set S n) ∧ n < 4096 ∧ Q (.int n) H
theorem call_lenS : CallR X (.builtin "len") rLenS := by
  intro pins s σ H xs us Q I r h
  obtain ⟨a, S, n, rfl, ha, hz, q⟩ := h
  cases r with
  | cons r1 r =>
    cases r
    obtain rfl := r1
    have hS : s.heap.SetOf (intKind X.prog X.w) a S n := I.hok a _ ha
    obtain ⟨o, ho, hso⟩ := hS.objOf
    obtain ⟨hex, es, ep, t, hd, _, _, hn, hf⟩ := hso
    subst hn
    exact call_len_set ho hex hd hf (by omega) ⟨.int es.size, H, I.tok _, ⟨_, rfl⟩, q⟩
def rLenD : List V → Hp → VK → Prop := fun xs H Q => ∃ a kvs, xs = [V.ref a] ∧ H a = some (.dK kvs) ∧ Q (.int kvs.length) H
theorem call_lenDk : CallR X (.builtin "len") rLenD := by
  intro pins s σ H xs us Q I r h
  obtain ⟨a, kvs, rfl, ha, q⟩ := h
  cases r with
  | cons r1 r =>
    cases r
    obtain rfl := r1
    exact d_len I (.inl ha) fun t s' I' => ⟨.int kvs.length, H, I', ⟨t, rfl⟩, q⟩
end
end L2
set_option Elab.async false
set_option linter.all false
set_option maxRecDepth 100000
namespace Mir
open PySem L2
variable [Zc]
def mDct0 : PM := fun ρ => some ((.dict [], .new), ρ)
theorem me_dct0 : ME tDNewK mDct0 := by
  intro F B H σ ρ r ρ' Q R e q
  cases e
  exact res_end (res := (.dict [], true)) (k := fun Q => ∀ p, H p = none → Q (.ref p) (upd H p (.dK []))) (Q := Q) R ⟨[], .nil, fun Q h => h⟩ fun v B' H' E R' V' N => q v B' H' E R' V' N
def ownD : Option Sl → Option (List (D × D))
  | some (.own (.dict es)) => some es
  | some (.io (.dict es)) => some es
  | _ => none
theorem ownD_eq {s : Option Sl} {es : List (D × D)} (h : ownD s = some es) : ∃ t, s = some t ∧ t.isOwn = true ∧ slD t = .dict es := by
  unfold ownD at h
  split at h
  · cases h; exact ⟨_, rfl, rfl, rfl⟩
  · cases h; exact ⟨_, rfl, rfl, rfl⟩
  · cases h
theorem Own.dict {B H : Hp} {p : Addr} {es : List (D × D)} (h : Own B H p (.dict es)) : ∃ kvs, H p = some (.dK kvs) ∧ RepKs B kvs es := by
  cases h with
  | dct h r => exact ⟨_, h, r⟩
def lookD : List (D × D) → Int → Option D
  | [], _ => none
  | (.int j, d) :: r, i => if j = i then some d else lookD r i
  | _ :: r, i => lookD r i
theorem look_val {B : Hp} {i : Int} : ∀ {kvs : List (Key × V)} {es : List (D × D)}, RepKs B kvs es → (∀ d, lookD es i = some d → ∃ u, valV kvs (.inl i) = some u ∧ Rep B u d) ∧ (lookD es i = none → valV kvs (.inl i) = none)
  | _, _, .nil => ⟨fun d h => (by cases h), fun _ => rfl⟩
  | _, _, .cons (k := k) (x := x) (c := c) (d := d) (kvs := kvs) (es := es) hk hx r => by
    have ih := look_val (i := i) r
    by_cases e : k = .inl i
    · subst e
      cases hk
      refine ⟨fun d' h => ?_, fun h => ?_⟩
      · have : lookD ((PyData.int i, d) :: es) i = some d := if_pos rfl
        rw [this] at h; cases h
        exact ⟨x, valV_pos rfl, hx⟩
      · have : lookD ((PyData.int i, d) :: es) i = some d := if_pos rfl
        rw [this] at h; cases h
    · have hv : valV ((k, x) :: kvs) (.inl i) = valV kvs (.inl i) := valV_neg e
      have hl : lookD ((c, d) :: es) i = lookD es i := by
        cases k with
        | inl j => obtain rfl := (show c = .int j from hk); exact if_neg fun z => e (by rw [z])
        | inr s => obtain rfl := (show c = .str s from hk); rfl
      rw [hv, hl]
      exact ih
theorem RepKs.snoc {B : Hp} {k : Key} {c : D} {x : V} {d : D} (hk : KeyD k c) (hx : Rep B x d) : ∀ {kvs : List (Key × V)} {es : List (D × D)}, RepKs B kvs es → RepKs B (kvs ++ [(k, x)]) (es ++ [(c, d)])
  | _, _, .nil => .cons hk hx .nil
  | _, _, .cons h1 h2 r => .cons h1 h2 (RepKs.snoc hk hx r)
theorem RepKs.length {B : Hp} : ∀ {kvs : List (Key × V)} {es : List (D × D)}, RepKs B kvs es → kvs.length = es.length
  | _, _, .nil => rfl
  | _, _, .cons _ _ r => by rw [List.length_cons, List.length_cons, RepKs.length r]
theorem putK_new {kvs : List (Key × V)} {k : Key} {v : V} (h : valV kvs k = none) : putK kvs k v = kvs ++ [(k, v)] := by
  unfold putK
  rw [if_neg]
  intro z
  rw [List.any_eq_true] at z
  obtain ⟨p, hp, e⟩ := z
  have e' := of_decide_eq_true e
  unfold valV at h
  rw [Option.map_eq_none_iff, List.find?_eq_none] at h
  exact h p hp (by simpa using e')
theorem upd_self {H : Hp} {p : Addr} {o : HO} (h : H p = some o) : upd H p o = H := by
  funext q
  by_cases z : q = p
  · subst z; rw [upd_same, h]
  · rw [upd_ne z]
noncomputable def fSetd (es : List (D × D)) : List D → Option (List (D × D) × D)
  | [.int i, d] => cIf (es.length < 100000) (some (match lookD es i with
    | some u => (es, u)
    | none => (es ++ [(.int i, d)], d))) none
  | _ => none
noncomputable def mSetd (i : Nat) (m : Rho → Option (List RV × Rho)) : PM := fun ρ => (ownD ρ[i]?).bind fun _ => (m ρ).bind fun x => (fzAll x.1 x.2).bind fun y => (ownD y.2[i]?).bind fun es => (fSetd es y.1).map fun w => ((w.2, .fz), putAt y.2 i (.dict w.1))
theorem fSetd_eq {es : List (D × D)} {as : List D} {w : List (D × D) × D} (h : fSetd es as = some w) : ∃ i d, as = [.int i, d] ∧ es.length < 100000 ∧ ((∃ u, lookD es i = some u ∧ w = (es, u)) ∨ (lookD es i = none ∧ w = (es ++ [(.int i, d)], d))) := by
  unfold fSetd at h
  split at h
  · rename_i i d
    obtain ⟨hz, h⟩ := cIf_eq h
    cases h
    refine ⟨i, d, rfl, hz, ?_⟩
    cases e : lookD es i with
    | some u => exact .inl ⟨u, rfl, rfl⟩
    | none => exact .inr ⟨rfl, rfl⟩
  · cases h
theorem me_setd {K : PySem.W.Frag} {i : Nat} {t : TA} {m : Rho → Option (List RV × Rho)} (h : MA t m) : ME (tBM K "dict" rSetd (tVar i) t) (mSetd i m) := by
  intro F B H σ ρ r0 ρ' Q R e q
  obtain ⟨es0, e0, e⟩ := Option.bind_eq_some_iff.mp e
  obtain ⟨x, e1, e⟩ := Option.bind_eq_some_iff.mp e
  obtain ⟨y, e2, e⟩ := Option.bind_eq_some_iff.mp e
  obtain ⟨es, e3, e⟩ := Option.bind_eq_some_iff.mp e
  obtain ⟨w, e4, e⟩ := Option.map_eq_some_iff.mp e
  cases e
  obtain ⟨s0, hs0, ho0, hd0⟩ := ownD_eq e0
  obtain ⟨p, hv, hB, ow⟩ := R.ownAt hs0 ho0
  rw [hd0] at ow
  obtain ⟨kvs0, hp0, _⟩ := ow.dict
  refine ⟨_, hv, .inr (.inr (.inl ⟨rfl, .inl ⟨kvs0, hp0⟩⟩)), ?_⟩
  refine h F B H σ ρ x.1 x.2 _ R e1 fun vs B1 H1 E1 R1 V1 => ?_
  obtain ⟨B2, R2, rp, E2⟩ := Rel.frzL R1 V1.weak e2
  obtain ⟨s, hs, ho, hd⟩ := ownD_eq e3
  obtain ⟨p', hv', hB', ow'⟩ := R2.ownAt hs ho
  rw [hv] at hv'
  cases hv'
  rw [hd] at ow'
  obtain ⟨kvs, hp, rk⟩ := ow'.dict
  obtain ⟨k, d, ea, hz, hc⟩ := fSetd_eq e4
  rw [ea] at rp
  cases rp with
  | cons rp1 rp =>
    cases rp with
    | cons rp2 rp =>
      cases rp
      cases rp1
      rename_i v2
      have lv := look_val (i := k) rk
      have ep : putAt y.2 i (.dict w.1) = y.2.set i (s.put (.dict w.1)) := by unfold putAt; rw [hs]
      rw [ep] at q
      refine ⟨p, kvs, .inl k, v2, rfl, rfl, hp, by rw [rk.length, sizeLine_eq]; omega, fun u hu => ?_, fun hn => ?_⟩
      · rcases hc with ⟨u', h1, rfl⟩ | ⟨h1, rfl⟩
        · obtain ⟨u2, h2, h3⟩ := lv.1 u' h1
          rw [hu] at h2
          cases h2
          obtain ⟨R3, E3⟩ := R2.write (o := .dK kvs) (d := .dict es) hs ho hv ⟨(fun _ z => by cases z), fun _ _ z => by cases z⟩ (.dct upd_same rk)
          have := q u B2 _ (E1.trans (E2.trans E3)) R3 h3 fun p z => by cases z
          rw [upd_self hp] at this
          exact this
        · rw [lv.2 h1] at hu; cases hu
      · rcases hc with ⟨u', h1, rfl⟩ | ⟨h1, rfl⟩
        · obtain ⟨u2, h2, h3⟩ := lv.1 u' h1
          rw [hn] at h2; cases h2
        · rw [putK_new hn]
          obtain ⟨R3, E3⟩ := R2.write (o := .dK (kvs ++ [(.inl k, v2)])) (d := .dict (es ++ [(.int k, d)])) hs ho hv ⟨(fun _ z => by cases z), fun _ _ z => by cases z⟩ (.dct upd_same (RepKs.snoc (show KeyD (.inl k) (.int k) from rfl) rp2 rk))
          exact q v2 B2 _ (E1.trans (E2.trans E3)) R3 rp2 fun p z => by cases z
def mLenD (i : Nat) : PM := fun ρ => (ownD ρ[i]?).map fun es => ((.int (es.length : Int), .fz), ρ)
theorem me_lenD {i : Nat} : ME (tCB rLenD (tCons (tVar i) tNil)) (mLenD i) := by
  intro F B H σ ρ r0 ρ' Q R e q
  obtain ⟨es, e0, e⟩ := Option.map_eq_some_iff.mp e
  cases e
  obtain ⟨s, hs, ho, hd⟩ := ownD_eq e0
  obtain ⟨p, hv, hB, ow⟩ := R.ownAt hs ho
  rw [hd] at ow
  obtain ⟨kvs, hp, rk⟩ := ow.dict
  refine ⟨_, hv, p, kvs, rfl, hp, ?_⟩
  rw [rk.length]
  exact q _ B H (Ext.refl _ _ _ _) R (.int _) fun p z => by cases z
def intsD : List (D × D) → Option (List Int)
  | [] => some []
  | (_, .int i) :: r => (intsD r).map (i :: ·)
  | _ => none
theorem ints_vals {B : Hp} : ∀ {kvs : List (Key × V)} {es : List (D × D)} {ns : List Int}, RepKs B kvs es → intsD es = some ns → kvs.map (·.2) = ns.map V.int
  | _, _, _, .nil, h => by cases h; rfl
  | _, _, ns, .cons (d := d) hk hx r, h => by
    cases d with
    | int i =>
      obtain ⟨ms, h1, h2⟩ := Option.map_eq_some_iff.mp (show (intsD _).map (i :: ·) = some ns from h)
      subst h2
      cases hx
      rw [List.map_cons, List.map_cons, ints_vals r h1]
    | _ => cases h
noncomputable def mDiffD (i : Nat) : PM := fun ρ => (ownD ρ[i]?).bind fun es => (intsD es).bind fun ns => cIf (ns.length + 1 < 4096) (some ((.int (diff ns : Int), .fz), ρ)) none
theorem Rel.fresh {F : Fr} {B H : Hp} {σ : St} {ρ : Rho} {p : Addr} {o : HO} (R : Rel F B H σ ρ) (hp : H p = none) (n1 : ∀ xs, o ≠ .tup xs) (n2 : ∀ a u, o ≠ .frz a u) : Rel F B (upd H p o) σ ρ ∧ Ext σ ρ B H ρ B (upd H p o) := by
  refine ⟨R.grow (fun _ _ z => z) (same_upd hp) (fun q u z => same_upd hp q u (R.sub q u z)) (fun _ _ z => z) (fun q xs z => ?_) fun q a u z y => ?_, Ext.grow (fun _ _ z => z) (same_upd hp) fun _ _ z => z⟩
  · by_cases w : q = p
    · subst w; rw [upd_same] at z; cases z; exact absurd rfl (n1 xs)
    · rw [upd_ne w] at z; exact R.tupB q xs z
  · by_cases w : q = p
    · subst w; rw [upd_same] at z; cases z; exact absurd rfl (n2 a u)
    · rw [upd_ne w, y] at z; cases z
theorem firstMet_le (f : Nat → Int) (n : Nat) : (PyProof.Rows.firstMet f n).length ≤ n := PyProof.Rows.firstMet_length_le f n
theorem me_diffD {K : PySem.W.Frag} {i : Nat} : ME (tCB rLenS (tCons (tCB rSetI (tCons (tCB rListV (tCons (tBM0 K "dict" rVals (tVar i)) tNil)) tNil)) tNil)) (mDiffD i) := by
  intro F B H σ ρ r0 ρ' Q R e q
  obtain ⟨es, e0, e⟩ := Option.bind_eq_some_iff.mp e
  obtain ⟨ns, e1, e⟩ := Option.bind_eq_some_iff.mp e
  obtain ⟨hz, e⟩ := cIf_eq e
  cases e
  obtain ⟨s, hs, ho, hd⟩ := ownD_eq e0
  obtain ⟨p, hv, hB, ow⟩ := R.ownAt hs ho
  rw [hd] at ow
  obtain ⟨kvs, hp, rk⟩ := ow.dict
  refine ⟨_, hv, .inr (.inr (.inl ⟨rfl, .inl ⟨kvs, hp⟩⟩)), p, kvs, rfl, rfl, hp, fun p1 h1 => ?_⟩
  obtain ⟨R1, E1⟩ := R.fresh (o := .ext (viewAt p1 p)) h1 (fun _ z => by cases z) fun _ _ z => by cases z
  refine ⟨p1, p, kvs, rfl, upd_same, (upd_ne (ne_of_none hp h1)).trans hp, fun p2 h2 => ?_⟩
  obtain ⟨R2, E2⟩ := R1.fresh (o := .lst (kvs.map (·.2))) h2 (fun _ z => by cases z) fun _ _ z => by cases z
  refine ⟨p2, ns, rfl, by rw [ints_vals rk e1]; exact upd_same, hz, fun p3 S h3 => ?_⟩
  obtain ⟨R3, E3⟩ := R2.fresh (o := .set S (diff ns)) h3 (fun _ z => by cases z) fun _ _ z => by cases z
  exact ⟨p3, S, diff ns, rfl, upd_same, Nat.lt_of_le_of_lt (firstMet_le _ _) (by omega), q _ B _ ((E1.trans E2).trans E3) R3 (.int _) fun p z => by cases z⟩
end Mir
set_option linter.all false
namespace Slow
def it (f : Nat → Nat) : Nat → Nat → Nat
  | 0, x => x
  | n + 1, x => it f n (f x)
def A : Nat → Nat → Nat
  | 0 => fun j => j + 1
  | k + 1 => fun j => it (A k) (j + 1) j
theorem it_succ (f : Nat → Nat) : ∀ n x, it f (n + 1) x = f (it f n x)
  | 0, _ => rfl
  | n + 1, x => it_succ f n (f x)
theorem it_ge {f : Nat → Nat} (h : ∀ x, x < f x) : ∀ n x, x + n ≤ it f n x
  | 0, x => Nat.le_refl _
  | n + 1, x => by
    have h1 := it_ge h n (f x)
    have h2 := h x
    show x + (n + 1) ≤ it f n (f x)
    omega
theorem A_gt : ∀ k j, j < A k j
  | 0, j => Nat.lt_succ_self _
  | k + 1, j => by
    have := it_ge (A_gt k) (j + 1) j
    show j < it (A k) (j + 1) j
    omega
theorem it_le {f : Nat → Nat} (h : ∀ x, x < f x) {m n : Nat} (e : m ≤ n) (x : Nat) : it f m x ≤ it f n x := by
  induction n with
  | zero => have : m = 0 := by omega
            subst this; exact Nat.le_refl _
  | succ n ih =>
    by_cases z : m = n + 1
    · subst z; exact Nat.le_refl _
    · have := ih (by omega)
      rw [it_succ]
      have := h (it f n x)
      omega
theorem it_mono {f : Nat → Nat} (h : ∀ x y, x ≤ y → f x ≤ f y) : ∀ n {x y : Nat}, x ≤ y → it f n x ≤ it f n y
  | 0, _, _, e => e
  | n + 1, _, _, e => it_mono h n (h _ _ e)
theorem A_mono : ∀ k {x y : Nat}, x ≤ y → A k x ≤ A k y
  | 0, _, _, e => Nat.succ_le_succ e
  | k + 1, x, y, e => by
    show it (A k) (x + 1) x ≤ it (A k) (y + 1) y
    exact Nat.le_trans (it_le (A_gt k) (show x + 1 ≤ y + 1 by omega) x) (it_mono (fun _ _ h => A_mono k h) _ e)
theorem A_up (k j : Nat) : A k j ≤ A (k + 1) j := by
  show A k j ≤ it (A k) (j + 1) j
  have := it_le (A_gt k) (show 1 ≤ j + 1 by omega) j
  exact this
theorem A_le {k m : Nat} (h : k ≤ m) (j : Nat) : A k j ≤ A m j := by
  induction m with
  | zero => have : k = 0 := by omega
            subst this; exact Nat.le_refl _
  | succ m ih =>
    by_cases z : k = m + 1
    · subst z; exact Nat.le_refl _
    · exact Nat.le_trans (ih (by omega)) (A_up m j)
theorem it0 : ∀ n x, it (A 0) n x = x + n
  | 0, _ => rfl
  | n + 1, x => by
    show it (A 0) n (x + 1) = _
    rw [it0 n (x + 1)]; omega
theorem A1 (j : Nat) : A 1 j = 2 * j + 1 := by
  show it (A 0) (j + 1) j = _
  rw [it0]; omega
theorem it1 : ∀ n x, it (A 1) n x = (x + 1) * 2 ^ n - 1
  | 0, x => by simp [it]
  | n + 1, x => by
    show it (A 1) n (A 1 x) = _
    rw [it1 n, A1, Nat.pow_succ, show 2 * x + 1 + 1 = (x + 1) * 2 by omega, Nat.mul_assoc, Nat.mul_comm 2]
theorem A2 (j : Nat) : A 2 j = (j + 1) * 2 ^ (j + 1) - 1 := by
  show it (A 1) (j + 1) j = _
  rw [it1]
theorem A_succ (k j : Nat) : A (k + 1) j = it (A k) (j + 1) j := rfl
theorem it_two (f : Nat → Nat) (x : Nat) : it f (1 + 1) x = f (f x) := rfl
theorem it_three (f : Nat → Nat) (x : Nat) : it f (2 + 1) x = f (f (f x)) := rfl
theorem A21 : A 2 1 = 7 := (A2 1).trans (by decide)
theorem A22 : A 2 2 = 23 := (A2 2).trans (by decide)
theorem A27 : A 2 7 = 2047 := (A2 7).trans (by decide)
theorem A31 : A 3 1 = 2047 := by rw [A_succ 2 1, it_two, A21, A27]
theorem A32 : 4000 ≤ A 3 2 := by
  rw [A_succ 2 2, it_three, A22]
  have h2 : 4000 ≤ A 2 23 := by
    have := A2 23
    have e : (23 + 1) * 2 ^ (23 + 1) - 1 = 402653183 := by decide
    omega
  exact Nat.le_trans h2 (Nat.le_of_lt (A_gt 2 _))
theorem A_big {k j : Nat} (h : 3 ≤ k) (hj : 2 ≤ j) : 4000 ≤ A k j := Nat.le_trans A32 (Nat.le_trans (A_mono 3 hj) (A_le h j))
theorem A41 : 4000 ≤ A 4 1 := by
  rw [A_succ 3 1, it_two, A31]
  exact A_big (Nat.le_refl _) (by decide)
end Slow
set_option linter.all false
namespace Grp
structure Ok (n : Nat) (kd : Nat → Int) (κ : Int) (f g : Nat → Nat) : Prop where
  fn : ∀ i, i < n → f i < n
  gn : ∀ i, i < n → g i < n
  up : ∀ i, i < n → f i = i ∨ g i < g (f i)
  kk : ∀ i, i < n → kd (f i) = kd i
  fresh : ∀ i, i < n → κ ≤ kd i → f i = i ∧ g i = 0
  one : ∀ i j, i < n → j < n → kd i = kd j → kd i < κ → f i = i → f j = j → i = j
  sz : ∀ i, i < n → f i = i → g i < ((List.range n).filter (fun j => decide (kd j = kd i))).length
def mem (n : Nat) (kd : Nat → Int) (κ : Int) : List Nat := (List.range n).filter (fun j => decide (kd j = κ))
theorem mem_iff {n : Nat} {kd : Nat → Int} {κ : Int} {i : Nat} : i ∈ mem n kd κ ↔ i < n ∧ kd i = κ := by simp [mem]
theorem mem_len (n : Nat) (kd : Nat → Int) (κ : Int) : (mem n kd κ).length ≤ n := by
  have := List.length_filter_le (fun j => decide (kd j = κ)) (List.range n)
  simpa [mem] using this
theorem Ok.lay {n : Nat} {kd : Nat → Int} {κ : Int} {f g : Nat → Nat} (o : Ok n kd κ f g) {h R : Nat} (hh : h ∈ mem n kd κ) (h1 : 1 ≤ R) (h2 : R < (mem n kd κ).length) {f' g' : Nat → Nat}
    (gh : g' h = R) (go : ∀ i, i ∈ mem n kd κ → i ≠ h → g' i < R) (gk : ∀ i, i < n → kd i ≠ κ → g' i = g i)
    (fo : ∀ i, i ∈ mem n kd κ → i ≠ h → f' i ∈ mem n kd κ ∧ g' i < g' (f' i)) (fk : ∀ i, i < n → (kd i ≠ κ ∨ i = h) → f' i = f i) : Ok n kd (κ + 1) f' g' := by
  obtain ⟨hn, hk⟩ := mem_iff.mp hh
  have fh : f' h = h := by rw [fk h hn (.inr rfl)]; exact (o.fresh h hn (by omega)).1
  have ml := mem_len n kd κ
  have cs : ∀ i, i < n → (kd i ≠ κ) ∨ i = h ∨ (i ∈ mem n kd κ ∧ i ≠ h) := fun i hi => by
    by_cases e : kd i = κ
    · by_cases e2 : i = h
      · exact .inr (.inl e2)
      · exact .inr (.inr ⟨mem_iff.mpr ⟨hi, e⟩, e2⟩)
    · exact .inl e
  refine ⟨fun i hi => ?_, fun i hi => ?_, fun i hi => ?_, fun i hi => ?_, fun i hi hk' => ?_, fun i j hi hj he hk' e1 e2 => ?_, fun i hi e => ?_⟩
  · rcases cs i hi with c | rfl | ⟨c, c2⟩
    · rw [fk i hi (.inl c)]; exact o.fn i hi
    · rw [fh]; exact hi
    · exact (mem_iff.mp (fo i c c2).1).1
  · rcases cs i hi with c | rfl | ⟨c, c2⟩
    · rw [gk i hi c]; exact o.gn i hi
    · omega
    · have := go i c c2; omega
  · rcases cs i hi with c | rfl | ⟨c, c2⟩
    · rw [fk i hi (.inl c), gk i hi c]
      have := o.kk i hi
      rw [gk (f i) (o.fn i hi) (by omega)]
      exact o.up i hi
    · exact .inl fh
    · exact .inr (fo i c c2).2
  · rcases cs i hi with c | rfl | ⟨c, c2⟩
    · rw [fk i hi (.inl c)]; exact o.kk i hi
    · rw [fh]
    · rw [(mem_iff.mp (fo i c c2).1).2, (mem_iff.mp c).2]
  · have c : kd i ≠ κ := by omega
    rw [fk i hi (.inl c), gk i hi c]
    exact o.fresh i hi (by omega)
  · have top : ∀ i, i < n → kd i = κ → f' i = i → i = h := fun i hi c e => by
      by_cases e2 : i = h
      · exact e2
      · have := (fo i (mem_iff.mpr ⟨hi, c⟩) e2).2
        rw [e] at this
        omega
    by_cases c : kd i = κ
    · rw [top i hi c e1, top j hj (by omega) e2]
    · rw [fk i hi (.inl c)] at e1
      rw [fk j hj (.inl (by omega))] at e2
      exact o.one i j hi hj he (by omega) e1 e2
  · rcases cs i hi with c | rfl | ⟨c, c2⟩
    · rw [gk i hi c]
      rw [fk i hi (.inl c)] at e
      exact o.sz i hi e
    · rw [gh, hk]; exact h2
    · have := (fo i c c2).2
      rw [e] at this
      omega
end Grp
set_option maxHeartbeats 4000000
set_option Elab.async false
set_option linter.all false
set_option maxRecDepth 100000
namespace K49
open PySem L2 Mir
noncomputable def b_begin_groups : SM :=
    (mRet (mTup (mCons (mCB gListRng (mCons (mVar 0) mNil)) (mCons (mRep (mCons (mC (.int 0)) mNil) (mVar 0)) mNil))))
noncomputable def m_begin_groups : List D → Option (D × Bool) := fnM 1 0 b_begin_groups
noncomputable def wc1_law_one_top : Rho → Option (Bool × Rho) :=
    (mTest (mOp gNe (mOp gIx (mOp gIx (mVar 0) (mC (.int 0))) (mVar 4)) (mVar 4)))
noncomputable def wb1_law_one_top : SM :=
    (mAsg 4 (mOp gIx (mOp gIx (mVar 0) (mC (.int 0))) (mVar 4)))
noncomputable def lb1_law_one_top : SM :=
    (mSeq (mAsg 4 (mVar 3))
    (mSeq (mWhile wc1_law_one_top
    wb1_law_one_top 1000000)
    (mIfS (mTest (mOp gNe (mSetd 2 (mCons (mOp gIx (mVar 1) (mVar 3)) (mCons (mVar 4) mNil))) (mVar 4)))
    (mRet (mC (.bool false)))
    mPass)))
noncomputable def b_law_one_top : SM :=
    (mSeq (mAsg 2 mDct0)
    (mSeq (mFor (mRg1 (mCons (mCB gLen (mCons (mVar 1) mNil)) mNil)) (mgN 3)
    lb1_law_one_top)
    (mRet (mOp gEq (mDiffD 2) (mLenD 2)))))
noncomputable def m_law_one_top : List D → Option (D × Bool) := fnM 2 3 b_law_one_top
noncomputable def wc1_reach_up (self : List D → Option (D × Bool)) : Rho → Option (Bool × Rho) :=
    (mAnd (mTest (mOp gLe (mVar 4) (mVar 1))) (mTest (mOp gLt (mVar 3) (mVar 2))))
noncomputable def wb1_reach_up (self : List D → Option (D × Bool)) : SM :=
    (mSeq (mAsg 3 (mCall self (mCons (mOp gSub (mVar 0) (mC (.int 1))) (mCons (mVar 3) (mCons (mVar 2) mNil)))))
    (mAug 4 (fun i j => i + j) (mC (.int 1))))
noncomputable def b_reach_up (self : List D → Option (D × Bool)) : SM :=
    (mSeq (mIfS (mTest (mOp gGe (mVar 1) (mVar 2)))
    (mRet (mVar 2))
    mPass)
    (mSeq (mIfS (mTest (mOp gEq (mVar 0) (mC (.int 0))))
    (mRet (mOp gAdd (mVar 1) (mC (.int 1))))
    mPass)
    (mSeq (mAsg 3 (mVar 1))
    (mSeq (mAsg 4 (mC (.int 0)))
    (mSeq (mWhile (wc1_reach_up self)
    (wb1_reach_up self) 1000000)
    (mRet (mVar 3)))))))
noncomputable def m_reach_up : Nat → List D → Option (D × Bool)
  | 0 => fun _ => none
  | n + 1 => fnM 3 2 (b_reach_up (m_reach_up n))
noncomputable def wc1_slow_number : Rho → Option (Bool × Rho) :=
    (mTest (mOp gLt (mCall (m_reach_up 12) (mCons (mVar 1) (mCons (mC (.int 1)) (mCons (mVar 0) mNil)))) (mVar 0)))
noncomputable def wb1_slow_number : SM :=
    (mAug 1 (fun i j => i + j) (mC (.int 1)))
noncomputable def b_slow_number : SM :=
    (mSeq (mAsg 1 (mC (.int 0)))
    (mSeq (mWhile wc1_slow_number
    wb1_slow_number 1000000)
    (mRet (mVar 1))))
noncomputable def m_slow_number : List D → Option (D × Bool) := fnM 1 1 b_slow_number
noncomputable def b_rank_above : SM :=
    (mRet (mOp gIx (mOp gIx (mVar 0) (mC (.int 1))) (mOp gIx (mOp gIx (mVar 0) (mC (.int 0))) (mVar 1))))
noncomputable def m_rank_above : List D → Option (D × Bool) := fnM 2 0 b_rank_above
noncomputable def wc1_level_of : Rho → Option (Bool × Rho) :=
    (mTest (mOp gLe (mCall (m_reach_up 12) (mCons (mOp gAdd (mVar 4) (mC (.int 1))) (mCons (mVar 2) (mCons (mOp gAdd (mVar 3) (mC (.int 1))) mNil)))) (mVar 3)))
noncomputable def wb1_level_of : SM :=
    (mAug 4 (fun i j => i + j) (mC (.int 1)))
noncomputable def b_level_of : SM :=
    (mSeq (mAsg 2 (mOp gIx (mOp gIx (mVar 0) (mC (.int 1))) (mVar 1)))
    (mSeq (mAsg 3 (mCall m_rank_above (mCons (mVar 0) (mCons (mVar 1) mNil))))
    (mSeq (mAsg 4 (mC (.int 0)))
    (mSeq (mWhile wc1_level_of
    wb1_level_of 1000000)
    (mRet (mVar 4))))))
noncomputable def m_level_of : List D → Option (D × Bool) := fnM 2 3 b_level_of
noncomputable def wc1_times_of : Rho → Option (Bool × Rho) :=
    (mTest (mOp gLe (mVar 5) (mVar 3)))
noncomputable def wb1_times_of : SM :=
    (mSeq (mAug 4 (fun i j => i + j) (mC (.int 1)))
    (mAsg 5 (mCall (m_reach_up 12) (mCons (mVar 2) (mCons (mVar 5) (mCons (mOp gAdd (mVar 3) (mC (.int 1))) mNil))))))
noncomputable def b_times_of : SM :=
    (mSeq (mAsg 2 (mCall m_level_of (mCons (mVar 0) (mCons (mVar 1) mNil))))
    (mSeq (mAsg 3 (mCall m_rank_above (mCons (mVar 0) (mCons (mVar 1) mNil))))
    (mSeq (mAsg 4 (mC (.int 0)))
    (mSeq (mAsg 5 (mCall (m_reach_up 12) (mCons (mVar 2) (mCons (mOp gIx (mOp gIx (mVar 0) (mC (.int 1))) (mVar 1)) (mCons (mOp gAdd (mVar 3) (mC (.int 1))) mNil)))))
    (mSeq (mWhile wc1_times_of
    wb1_times_of 1000000)
    (mRet (mVar 4)))))))
noncomputable def m_times_of : List D → Option (D × Bool) := fnM 2 4 b_times_of
noncomputable def b_credit_by : SM :=
    (mSeq (mAsg 3 (mOp gIx (mOp gIx (mVar 0) (mC (.int 1))) (mVar 1)))
    (mSeq (mIfS (mOr (mTest (mOp gEq (mVar 3) (mC (.int 0)))) (mTest (mOp gEq (mOp gIx (mOp gIx (mVar 0) (mC (.int 0))) (mVar 1)) (mVar 1))))
    (mRet (mOp gMul (mVar 2) (mVar 3)))
    mPass)
    (mRet (mOp gSub (mOp gMul (mOp gSub (mVar 2) (mCall m_level_of (mCons (mVar 0) (mCons (mVar 1) mNil)))) (mVar 3)) (mCall m_times_of (mCons (mVar 0) (mCons (mVar 1) mNil)))))))
noncomputable def m_credit_by : List D → Option (D × Bool) := fnM 3 1 b_credit_by
noncomputable def ce1_groups_credit : PM :=
    (mCall m_credit_by (mCons (mVar 1) (mCons (mVar 0) (mCons (mVar 2) mNil))))
noncomputable def b_groups_credit : SM :=
    (mSeq (mAsg 1 (mCB gLen (mCons (mOp gIx (mVar 0) (mC (.int 0))) mNil)))
    (mSeq (mAsg 2 (mCall m_slow_number (mCons (mVar 1) mNil)))
    (mRet (mCB gSum (mCons (mLC [("groups", 0), ("slow", 2)] (mRg1 (mCons (mVar 1) mNil)) mYes ce1_groups_credit) mNil)))))
noncomputable def m_groups_credit : List D → Option (D × Bool) := fnM 1 2 b_groups_credit
noncomputable def b_law_cell_at : SM :=
    (mSeq (mIfS (mTest (mOp gLt (mVar 1) (mCB gLen (mCons (mVar 0) mNil))))
    (mRet (mOp gIx (mVar 0) (mVar 1)))
    mPass)
    (mRet (mC (.int 0))))
noncomputable def m_law_cell_at : List D → Option (D × Bool) := fnM 2 0 b_law_cell_at
noncomputable def wc1_way_up : Rho → Option (Bool × Rho) :=
    (mTest (mOp gNe (mOp gIx (mVar 0) (mOp gIx (mVar 2) (mUn gNeg (mC (.int 1))))) (mOp gIx (mVar 2) (mUn gNeg (mC (.int 1))))))
noncomputable def wb1_way_up : SM :=
    (mDrop (mMut 2 fAppend (mCons (mOp gIx (mVar 0) (mOp gIx (mVar 2) (mUn gNeg (mC (.int 1))))) mNil)))
noncomputable def b_way_up : SM :=
    (mSeq (mAsg 2 (mLst (mCons (mVar 1) mNil)))
    (mSeq (mWhile wc1_way_up
    wb1_way_up 1000000)
    (mRet (mVar 2))))
noncomputable def m_way_up : List D → Option (D × Bool) := fnM 2 1 b_way_up
noncomputable def b_is_count : SM :=
    (mRet (mAndV (mIsi "int" (mVar 0)) (mAndV (mNotV (mIsi "bool" (mVar 0))) (mOp gGe (mVar 0) (mC (.int 0))))))
noncomputable def m_is_count : List D → Option (D × Bool) := fnM 1 0 b_is_count
noncomputable def lb1_find_top : SM :=
    (mAsgG (mVar 3) (mgSub 4 (mVar 5)))
noncomputable def b_find_top : SM :=
    (mSeq (mIfS (mOr (mNot (mTest (mCall m_is_count (mCons (mVar 1) mNil)))) (mTest (mOp gGe (mVar 1) (mCB gLen (mCons (mOp gIx (mVar 0) (mC (.int 0))) mNil)))))
    mNever
    mPass)
    (mSeq (mAsg 2 (mCall m_way_up (mCons (mOp gIx (mVar 0) (mC (.int 0))) (mCons (mVar 1) mNil))))
    (mSeq (mAsg 3 (mOp gIx (mVar 2) (mUn gNeg (mC (.int 1)))))
    (mSeq (mAsg 4 (mCB gList (mCons (mOp gIx (mVar 0) (mC (.int 0))) mNil)))
    (mSeq (mFor (mFoL (mVar 2)) (mgN 5)
    lb1_find_top)
    (mRet (mTup (mCons (mVar 3) (mCons (mTup (mCons (mVar 4) (mCons (mCB gList (mCons (mOp gIx (mVar 0) (mC (.int 1))) mNil)) mNil))) (mCons (mVar 2) mNil))))))))))
noncomputable def m_find_top : List D → Option (D × Bool) := fnM 2 4 b_find_top
noncomputable def b_link_tops : SM :=
    (mSeq (mAsg 3 (mCB gList (mCons (mOp gIx (mVar 0) (mC (.int 0))) mNil)))
    (mSeq (mAsg 4 (mCB gList (mCons (mOp gIx (mVar 0) (mC (.int 1))) mNil)))
    (mSeq (mIfS (mTest (mOp gLt (mOp gIx (mVar 4) (mVar 1)) (mOp gIx (mVar 4) (mVar 2))))
    (mAsgG (mVar 2) (mgSub 3 (mVar 1)))
    (mSeq (mAsgG (mVar 1) (mgSub 3 (mVar 2)))
    (mIfS (mTest (mOp gEq (mOp gIx (mVar 4) (mVar 1)) (mOp gIx (mVar 4) (mVar 2))))
    (mAugS' 4 (mVar 1) (mC (.int 1)) (fun i j => i + j))
    mPass)))
    (mRet (mTup (mCons (mVar 3) (mCons (mVar 4) mNil)))))))
noncomputable def m_link_tops : List D → Option (D × Bool) := fnM 3 2 b_link_tops
noncomputable def b_join_groups : SM :=
    (mSeq (mAsg 3 (mCall m_find_top (mCons (mVar 0) (mCons (mVar 1) mNil))))
    (mSeq (mAsg 4 (mCall m_find_top (mCons (mOp gIx (mVar 3) (mC (.int 1))) (mCons (mVar 2) mNil))))
    (mSeq (mIfS (mTest (mOp gEq (mOp gIx (mVar 3) (mC (.int 0))) (mOp gIx (mVar 4) (mC (.int 0)))))
    (mRet (mTup (mCons (mC (.bool false)) (mCons (mOp gIx (mVar 4) (mC (.int 1))) (mCons (mOp gIx (mVar 3) (mC (.int 2))) (mCons (mOp gIx (mVar 4) (mC (.int 2))) mNil))))))
    mPass)
    (mRet (mTup (mCons (mC (.bool true)) (mCons (mCall m_link_tops (mCons (mOp gIx (mVar 4) (mC (.int 1))) (mCons (mOp gIx (mVar 3) (mC (.int 0))) (mCons (mOp gIx (mVar 4) (mC (.int 0))) mNil)))) (mCons (mOp gIx (mVar 3) (mC (.int 2))) (mCons (mOp gIx (mVar 4) (mC (.int 2))) mNil)))))))))
noncomputable def m_join_groups : List D → Option (D × Bool) := fnM 3 2 b_join_groups
noncomputable def lb1_law_joined : SM :=
    (mIfS (mTest (mOp gEq (mOp gIx (mVar 0) (mVar 4)) (mVar 3)))
    (mAsgG (mOp gIx (mVar 0) (mVar 1)) (mgSub 0 (mVar 4)))
    mPass)
noncomputable def b_law_joined : SM :=
    (mSeq (mAsg 3 (mOp gIx (mVar 0) (mVar 2)))
    (mFor (mRg1 (mCons (mCB gLen (mCons (mVar 0) mNil)) mNil)) (mgN 4)
    lb1_law_joined))
noncomputable def m_law_joined : List D → Option ((D × Bool) × D) := fnI 3 2 b_law_joined
noncomputable def lb1_top_from : SM :=
    (mSeq (mIfS (mOr (mTest (mOp gLt (mVar 2) (mC (.int 0)))) (mTest (mOp gGe (mVar 2) (mCB gLen (mCons (mVar 0) mNil)))))
    (mRet (mC .none))
    mPass)
    (mSeq (mIfS (mTest (mOp gEq (mOp gIx (mVar 0) (mVar 2)) (mVar 2)))
    (mRet (mVar 2))
    mPass)
    (mAsg 2 (mOp gIx (mVar 0) (mVar 2)))))
noncomputable def b_top_from : SM :=
    (mSeq (mAsg 2 (mVar 1))
    (mSeq (mFor (mRg1 (mCons (mCB gLen (mCons (mVar 0) mNil)) mNil)) (mgN 3)
    lb1_top_from)
    (mRet (mC .none))))
noncomputable def m_top_from : List D → Option (D × Bool) := fnM 2 2 b_top_from
noncomputable def lb1_groups_in_form : SM :=
    (mSeq (mIfS (mTest (mOp gLt (mOp gIx (mVar 1) (mVar 3)) (mC (.int 0))))
    (mRet (mC (.bool false)))
    mPass)
    (mIfS (mTest (mOp gEq (mOp gIx (mVar 0) (mVar 3)) (mVar 3)))
    (mIfS (mTest (mOp gGe (mOp gIx (mVar 1) (mVar 3)) (mBM gCount (mVar 2) (mCons (mVar 3) mNil))))
    (mRet (mC (.bool false)))
    mPass)
    (mIfS (mTest (mOp gGe (mOp gIx (mVar 1) (mVar 3)) (mOp gIx (mVar 1) (mOp gIx (mVar 0) (mVar 3)))))
    (mRet (mC (.bool false)))
    mPass)))
noncomputable def ce1_groups_in_form : PM :=
    (mCall m_top_from (mCons (mVar 1) (mCons (mVar 0) mNil)))
noncomputable def b_groups_in_form : SM :=
    (mSeq (mAsg 2 (mLC [("above", 0)] (mRg1 (mCons (mCB gLen (mCons (mVar 0) mNil)) mNil)) mYes ce1_groups_in_form))
    (mSeq (mIfS (mTest (mOp gIn (mC .none) (mVar 2)))
    (mRet (mC (.bool false)))
    mPass)
    (mSeq (mFor (mRg1 (mCons (mCB gLen (mCons (mVar 0) mNil)) mNil)) (mgN 3)
    lb1_groups_in_form)
    (mRet (mC (.bool true))))))
noncomputable def m_groups_in_form : List D → Option (D × Bool) := fnM 2 2 b_groups_in_form
noncomputable def b_find_price : SM :=
    (mRet (mOp gAdd (mCall m_slow_number (mCons (mVar 0) mNil)) (mC (.int 2))))
noncomputable def m_find_price : List D → Option (D × Bool) := fnM 1 0 b_find_price
noncomputable def b_join_price : SM :=
    (mRet (mOp gAdd (mOp gAdd (mOp gMul (mC (.int 2)) (mCall m_find_price (mCons (mVar 0) mNil))) (mCall m_slow_number (mCons (mVar 0) mNil))) (mC (.int 1))))
noncomputable def m_join_price : List D → Option (D × Bool) := fnM 1 0 b_join_price
noncomputable def lb1_law : SM :=
    (mSeq (mAsg 6 (mOp gMod (mOp gDiv (mVar 5) (mC (.int 4))) (mVar 1)))
    (mSeq (mAsg 7 (mOp gMod (mOp gDiv (mOp gDiv (mVar 5) (mC (.int 4))) (mVar 1)) (mVar 1)))
    (mSeq (mIfS (mTest (mOp gEq (mOp gMod (mVar 5) (mC (.int 4))) (mC (.int 3))))
    (mSeq (mAsgG (mCall m_find_top (mCons (mVar 2) (mCons (mVar 6) mNil))) (mgU 3 (mgsCons (mgN 8) (mgsCons (mgN 2) (mgsCons (mgN 9) mgsNil)))))
    (mSeq (mIfS (mTest (mOp gNe (mOp gIx (mVar 3) (mVar 8)) (mOp gIx (mVar 3) (mVar 6))))
    (mRet (mC (.bool false)))
    mPass)
    (mAsg 4 (mOp gSub (mOp gAdd (mVar 4) (mCall m_find_price (mCons (mVar 1) mNil))) (mCB gLen (mCons (mVar 9) mNil))))))
    (mSeq (mAsgG (mCall m_join_groups (mCons (mVar 2) (mCons (mVar 6) (mCons (mVar 7) mNil)))) (mgU 4 (mgsCons (mgN 10) (mgsCons (mgN 2) (mgsCons (mgN 9) (mgsCons (mgN 11) mgsNil))))))
    (mSeq (mIfS (mTest (mOp gNe (mVar 10) (mOp gNe (mOp gIx (mVar 3) (mVar 6)) (mOp gIx (mVar 3) (mVar 7)))))
    (mRet (mC (.bool false)))
    mPass)
    (mSeq (mDrop (mCallI 3 m_law_joined (mCons (mVar 6) (mCons (mVar 7) mNil))))
    (mAsg 4 (mOp gSub (mOp gSub (mOp gSub (mOp gAdd (mVar 4) (mCall m_join_price (mCons (mVar 1) mNil))) (mCB gLen (mCons (mVar 9) mNil))) (mCB gLen (mCons (mVar 11) mNil))) (mCB gInt (mCons (mVar 10) mNil))))))))
    (mSeq (mAsg 12 (mCall m_groups_credit (mCons (mVar 2) mNil)))
    (mIfS (mOr (mTest (mOp gLt (mVar 12) (mC (.int 0)))) (mOr (mTest (mOp gGt (mVar 12) (mVar 4))) (mNot (mTest (mCall m_groups_in_form (mCons (mOp gIx (mVar 2) (mC (.int 0))) (mCons (mOp gIx (mVar 2) (mC (.int 1))) mNil)))))))
    (mRet (mC (.bool false)))
    mPass)))))
noncomputable def b_law : SM :=
    (mSeq (mAsg 1 (mOp gAdd (mC (.int 1)) (mOp gMod (mCall m_law_cell_at (mCons (mVar 0) (mCons (mC (.int 0)) mNil))) (mC (.int 60)))))
    (mSeq (mAsg 2 (mCall m_begin_groups (mCons (mVar 1) mNil)))
    (mSeq (mIfS (mTest (mOp gNe (mCall m_groups_credit (mCons (mVar 2) mNil)) (mC (.int 0))))
    (mRet (mC (.bool false)))
    mPass)
    (mSeq (mAsg 3 (mCB gListRng (mCons (mVar 1) mNil)))
    (mSeq (mAsg 4 (mC (.int 0)))
    (mSeq (mFor (mFoL (mSl gSl (mVar 0) (mPart (mC (.int 1))) (mPart (mC (.int 61))))) (mgN 5)
    lb1_law)
    (mRet (mCall m_law_one_top (mCons (mVar 2) (mCons (mVar 3) mNil))))))))))
noncomputable def m_law : List D → Option (D × Bool) := fnM 1 12 b_law
end K49
set_option Elab.async false
set_option linter.all false
set_option maxRecDepth 100000
namespace K49
open PySem L2 Mir Slow
local macro_rules | `(tactic| walk_at "mir") => `(tactic| simp only [*, fnM, mSeq, mIfS, mTest, mOp, sv, mVar, mC, mCB, mCons, mNil, refr, gB0, gI0, gI, gAdd, gMul, gNeg, gIx, atI_map, gSl, gLen, gMax, gMin, gAbs, gInt, gIs, gIsNot, resK_f, resK_l, resK_t, asB, asI, mUn, mIsi, gEq_int, gNe_int, gEq_ints, gNe_ints, gEq_bool, gNe_bool, isi_int_int, isi_int_bool, isi_list_list, isi_tuple_tuple, isNone,
  mAnd, mOr, mNot, mAndV, mOrV, mNotV, mIfE, mTup, mLst, fzAll, fzOne, mAsg, sto, setSl, mRet, mRetN, mDrop, mPass, mAug, retD, mCall, pureR_int, pureR_bool, pureR_str, pureR_none, pureR_list, pureR_tup, pureR_new, pureDs_nil, pureDs_int, pureDs_bool, pureDs_list, pureDs_ints, kO_f, kO_t, mRg1, mRg2, rg1, rg2, mItL, mFoL, asL, asT, mFor, mgN, mgT, mgU, asS, mgsCons, mgsNil, mAsgG, mgSub, ownL, Mir.putAt, Sl.put, mMut, mMut0, fAppend, fPop, fClear,
  List.length_cons, List.length_nil, List.map_cons, List.map_nil, List.cons_append, List.nil_append, List.replicate, List.getElem?_cons_zero, List.getElem?_cons_succ, List.getElem?_nil, List.set_cons_zero, List.set_cons_succ,
  Option.bind_some, Option.bind_none, Option.map_some, Option.map_none, if_true, if_false, cIf_true, Bool.false_eq_true, reduceIte, decide_true, decide_false, Bool.not_true, Bool.not_false, ite_true, ite_false, Nat.reduceAdd, Nat.reduceEqDiff, Bool.and_true, Bool.true_and, Bool.and_false, Bool.not_eq_true, not_true_eq_false, not_false_eq_true, Int.reduceLT, Int.reduceLE, Int.reduceEq, Nat.reduceLeDiff])
local macro_rules | `(tactic| walk_at "st") => `(tactic| (apply seq_nx; · (walk_at "mir"; try exact rfl)))
theorem reach_turn {self : List D → Option (D × Bool)} {k j most x y t : Int} (h : self [.int (k - 1), .int x, .int most] = some (.int y, false)) :
    wb1_reach_up self [.fz (.int k), .fz (.int j), .fz (.int most), .fz (.int x), .fz (.int t)] = some (.nx [.fz (.int k), .fz (.int j), .fz (.int most), .fz (.int y), .fz (.int (t + 1))]) := by
  unfold wb1_reach_up
  walk_at "mir"
theorem reach_cond {self : List D → Option (D × Bool)} {k j most x t : Int} :
    wc1_reach_up self [.fz (.int k), .fz (.int j), .fz (.int most), .fz (.int x), .fz (.int t)] = some (decide (t ≤ j ∧ x < most), [.fz (.int k), .fz (.int j), .fz (.int most), .fz (.int x), .fz (.int t)]) := by
  unfold wc1_reach_up
  by_cases h1 : t ≤ j <;> by_cases h2 : x < most <;> walk_at "mir" <;> simp
theorem reach_loop (k fuel : Nat) (ih : ∀ j most : Nat, most ≤ 100000 → m_reach_up fuel [.int k, .int j, .int most] = some (.int (min (A k j) most : Nat), false)) (j most : Nat) (hm : most ≤ 100000) (hj : j < most) :
    ∀ (n t : Nat), t ≤ j + 1 → j + 2 - t ≤ n → ∃ t' : Int, mWhile (wc1_reach_up (m_reach_up fuel)) (wb1_reach_up (m_reach_up fuel)) n
      [.fz (.int ((k + 1 : Nat) : Int)), .fz (.int j), .fz (.int most), .fz (.int (min (it (A k) t j) most : Nat)), .fz (.int t)] =
      some (.nx [.fz (.int ((k + 1 : Nat) : Int)), .fz (.int j), .fz (.int most), .fz (.int (min (A (k + 1) j) most : Nat)), .fz (.int t')]) := by
  intro n
  induction n with
  | zero => intro t h1 h2; omega
  | succ n nih =>
    intro t h1 h2
    by_cases ht : t = j + 1
    · subst ht
      exact ⟨_, while_end (reach_cond.trans (by rw [decide_eq_false (by omega)]; rfl))⟩
    · by_cases hx : it (A k) t j < most
      · have e1 : min (it (A k) t j) most = it (A k) t j := Nat.min_eq_left (by omega)
        obtain ⟨t', ht'⟩ := nih (t + 1) (by omega) (by omega)
        rw [it_succ] at ht'
        have ih' := ih (it (A k) t j) most hm
        rw [show (k : Int) = ((k + 1 : Nat) : Int) - 1 by omega] at ih'
        rw [e1]
        exact ⟨t', while_go (reach_cond.trans (by rw [decide_eq_true (by omega)])) (reach_turn ih') ht'⟩
      · have e1 : min (it (A k) t j) most = most := Nat.min_eq_right (by omega)
        have e4 : min (A (k + 1) j) most = most := Nat.min_eq_right (by
          have := it_le (A_gt k) h1 j
          show most ≤ it (A k) (j + 1) j
          omega)
        rw [e1, e4]
        exact ⟨_, while_end (reach_cond.trans (by rw [decide_eq_false (by omega)]))⟩
theorem reach : ∀ (k fuel : Nat), k < fuel → ∀ j most : Nat, most ≤ 100000 → m_reach_up fuel [.int k, .int j, .int most] = some (.int (min (A k j) most : Nat), false)
  | k, 0, h, _, _, _ => by omega
  | k, fuel + 1, h, j, most, hm => by
    have hg := A_gt k j
    by_cases hj : most ≤ j
    · have c : (most : Int) ≤ (j : Int) := by omega
      have e : min (A k j) most = most := Nat.min_eq_right (by omega)
      rw [e]
      unfold m_reach_up b_reach_up
      walk_at "mir"
    · have c : ¬ (most : Int) ≤ (j : Int) := by omega
      cases k with
      | zero =>
        have e : min (A 0 j) most = j + 1 := by show min (j + 1) most = j + 1; omega
        rw [e]
        unfold m_reach_up b_reach_up
        walk_at "mir"
        rfl
      | succ k =>
        obtain ⟨t', ht'⟩ := reach_loop k fuel (fun j most hm => reach k fuel (by omega) j most hm) j most hm (by omega) 1000000 0 (by omega) (by omega)
        have e5 : min (it (A k) 0 j) most = j := by show min j most = j; omega
        rw [e5] at ht'
        have e0 : ¬ ((k + 1 : Nat) : Int) = 0 := by omega
        unfold m_reach_up b_reach_up
        have ht2 : mWhile (wc1_reach_up (m_reach_up fuel)) (wb1_reach_up (m_reach_up fuel)) 1000000 [.fz (.int ((k + 1 : Nat) : Int)), .fz (.int j), .fz (.int most), .fz (.int j), .fz (.int 0)] = _ := ht'
        clear ht' hg
        walk_at "mir"
def cell (ns : List Int) (k : Nat) : Int := ns.getD k 0
theorem cell_at (ns : List Int) (k : Nat) : m_law_cell_at [.list (ns.map .int), .int k] = some (.int (cell ns k), false) := by
  have ll := gLen_ints ns
  by_cases h : k < ns.length
  · have c : (k : Int) < (ns.length : Int) := Int.ofNat_lt.mpr h
    have g : gIx (.list (ns.map .int)) (.int (k : Int)) = some (.int (cell ns k), false) := by
      show (L2.atI (ns.map PyData.int) (k : Int)).map (fun d => (d, false)) = _
      unfold cell
      rw [Mir.atI_nat, List.getElem?_map, List.getElem?_eq_getElem h, List.getD_eq_getElem?_getD, List.getElem?_eq_getElem h]
      rfl
    generalize (k : Int) = kk at *
    generalize (ns.length : Int) = n at *
    generalize PyData.list (ns.map .int) = S at *
    exact fn_of (o := .rt (.int (cell ns k), .fz) [.fz S, .fz (.int kk)]) rfl (seq_rt (if_t (tstB (be_lt (ie_var rfl) (cb_ev (rs := [(S, .fz)]) (res := (.int n, false)) rfl ll)) (decide_eq_true c)) (ret_eq (op_ev (r := (.int kk, .fz)) (res := (.int (cell ns k), false)) (sv_fz (var_fz rfl)) (sv_fz (var_fz rfl)) g)))) rfl
  · have c : ¬ (k : Int) < (ns.length : Int) := fun z => h (Int.ofNat_lt.mp z)
    have e : cell ns k = 0 := by
      unfold cell
      rw [List.getD_eq_getElem?_getD, List.getElem?_eq_none (Nat.le_of_not_lt h)]
      rfl
    rw [e]
    generalize (k : Int) = kk at *
    generalize (ns.length : Int) = n at *
    generalize PyData.list (ns.map .int) = S at *
    exact fn_of (o := .rt (.int 0, .fz) [.fz S, .fz (.int kk)]) rfl (seq_nx (ρ1 := [.fz S, .fz (.int kk)]) (if_f (tstB (be_lt (ie_var rfl) (cb_ev (rs := [(S, .fz)]) (res := (.int n, false)) rfl ll)) (decide_eq_false c)) rfl) (ret_eq ie_c)) rfl
theorem op_ro {a b : PM} {ρ ρ1 ρ2 : Rho} {x : D} {r : RV} {res : D × Bool} {g : D → D → Option (D × Bool)} (h1 : sv a ρ = some ((x, .ro), ρ1)) (h2 : sv b ρ1 = some (r, ρ2)) (h3 : g x r.1 = some res) : mOp g a b ρ = some (resK res, ρ2) := by
  unfold mOp; rw [h1, Option.bind_some]; dsimp only; rw [h2, Option.bind_some]; dsimp only [refr, Option.bind_some]; rw [h3, Option.map_some]
theorem call_fz {f : List D → Option (D × Bool)} {m : Rho → Option (List RV × Rho)} {ρ ρ1 : Rho} {rs : List RV} {d : D} {o : Bool} {ds : List D} (h1 : m ρ = some (rs, ρ1)) (h2 : f (rs.map (·.1)) = some (d, o)) (h3 : fzAll rs ρ1 = some (ds, ρ1)) : mCall f m ρ = some (kO d o, ρ1) := by
  unfold mCall; rw [h1, Option.bind_some]; dsimp only; rw [h2, Option.bind_some]
  split
  · rfl
  · rw [h3]; rfl
theorem rep_ints (x : Int) (k : Nat) : (List.replicate k [PyData.int x]).flatten = (List.replicate k x).map .int := by
  induction k with
  | zero => rfl
  | succ k ih => rw [List.replicate_succ, List.flatten_cons, ih, List.replicate_succ, List.map_cons]; rfl
theorem rep_ev {m : Rho → Option (List RV × Rho)} {b : PM} {ρ : Rho} {x k : Int} (h1 : mLst m ρ = some ((.list [.int x], .new), ρ)) (h2 : IE b ρ k) (hk : 0 ≤ k ∧ k ≤ 100000) : mRep m b ρ = some ((.list ((List.replicate k.toNat x).map .int), .new), ρ) := by
  unfold mRep
  rw [h1, Option.bind_some]; dsimp only
  rw [sv_fz h2, Option.bind_some]; dsimp only
  have e : repD (.list [.int x]) (.int k) = some (.list ((List.replicate k.toNat x).map .int)) := by
    dsimp only [repD]
    rw [cIf_pos ⟨by omega, by omega, by rw [List.length_singleton, Nat.one_mul]; exact sz_le (by omega)⟩, rep_ints]
  rw [e]; rfl
theorem sub_ev {i : Nat} {a : PM} {ρ : Rho} {ds : List D} {s : Sl} {k : Int} {j : Nat} {d : D} (h1 : ρ[i]? = some s) (h2 : ownL (some s) = some ds) (h3 : IE a ρ k) (h4 : ixN ds.length k = some j) : mgSub i a d ρ = some (ρ.set i (s.put (.list (ds.set j d)))) := by
  unfold mgSub
  rw [h1, h2, Option.bind_some, sv_fz h3]
  dsimp only [asI, Option.bind_some]
  rw [h1, h2, Option.bind_some, h4]
  unfold Mir.putAt
  rw [h1]; rfl
def tab (n : Nat) (v : Nat → Int) : List D := (List.range n).map fun i => PyData.int (v i)
def nls (l : List Nat) : List D := l.map fun i : Nat => PyData.int (i : Int)
theorem tab_len (n : Nat) (v : Nat → Int) : (tab n v).length = n := by simp [tab]
theorem tab_at (n : Nat) (v : Nat → Int) (i : Nat) (h : i < n) : (tab n v)[i]? = some (.int (v i)) := by simp [tab, h]
theorem tab_ix (n : Nat) (v : Nat → Int) (i : Nat) (h : i < n) : gIx (.list (tab n v)) (.int (i : Int)) = some (.int (v i), false) := by
  show (L2.atI (tab n v) (i : Int)).map (fun d => (d, false)) = _
  rw [Mir.atI_nat, tab_at n v i h]; rfl
theorem tab_set (n : Nat) (v : Nat → Int) (i : Nat) (x : Int) : (tab n v).set i (.int x) = tab n (fun j => if j = i then x else v j) := by
  refine List.ext_getElem? fun j => ?_
  rw [List.getElem?_set]
  by_cases hj : j < n
  · rw [tab_at n _ j hj, tab_at n _ j hj, tab_len]
    by_cases e : i = j
    · subst e; simp [hj]
    · rw [if_neg e, if_neg (fun z => e z.symm)]
  · have e1 : (tab n v)[j]? = none := by rw [List.getElem?_eq_none]; rw [tab_len]; omega
    have e2 : (tab n fun j => if j = i then x else v j)[j]? = none := by rw [List.getElem?_eq_none]; rw [tab_len]; omega
    rw [e1, e2, tab_len]
    split
    · rw [if_neg (by omega)]
    · rfl
theorem tab_congr {n : Nat} {v w : Nat → Int} (h : ∀ i, i < n → v i = w i) : tab n v = tab n w := List.map_congr_left fun i hi => by rw [h i (by simpa using hi)]
theorem nls_len (l : List Nat) : (nls l).length = l.length := by simp [nls]
theorem gLen_any (l : List D) : gLen [.list l] = some (.int (l.length : Int), false) := rfl
theorem fol_own {i : Nat} {ρ : Rho} {ds : List D} (h : ρ[i]? = some (.own (.list ds))) : mFoL (mVar i) ρ = some (ds, ρ.set i (.fz (.list ds))) := by
  unfold mFoL
  rw [sv_at (var_own h), Option.bind_some]
  dsimp only [fzOne]
  rw [h]; rfl
def NIo (s : Sl) : Prop := ∀ d, s ≠ .io d
theorem NIo.no : NIo .no := fun d h => by cases h
theorem NIo.fz (x : D) : NIo (.fz x) := fun d h => by cases h
theorem NIo.own (x : D) : NIo (.own x) := fun d h => by cases h
theorem set_nio {ρ : Rho} {i : Nat} {s : Sl} (q : Sl) (h : ρ[i]? = some s) (hs : NIo s) : setSl ρ i q = some (ρ.set i q) := by
  unfold setSl
  rw [h]
  cases s <;> first | rfl | exact absurd rfl (hs _)
theorem mgN_nio {ρ : Rho} {i : Nat} {s : Sl} {d : D} (h : ρ[i]? = some s) (hs : NIo s) : mgN i d ρ = some (ρ.set i (.fz d)) := set_nio _ h hs
theorem sv_ro {i : Nat} {ρ : Rho} {d : D} (h : ρ[i]? = some (.ro d)) : sv (mVar i) ρ = some ((d, .ro), ρ) := by
  unfold sv mVar
  rw [h]
theorem ie_own {i : Nat} {b : PM} {ρ : Rho} {ds : List D} {k v : Int} (h : ρ[i]? = some (.own (.list ds))) (hb : IE b ρ k) (hx : gIx (.list ds) (.int k) = some (.int v, false)) : IE (mOp gIx (mVar i) b) ρ v := op_at (i := i) (y := .list ds) (r := (.int k, .fz)) (res := (.int v, false)) (sv_at (var_own h)) (sv_fz hb) h hx
def slw (n : Nat) : Nat := if n ≤ 2 then 0 else if n ≤ 3 then 1 else if n ≤ 7 then 2 else if n ≤ 2047 then 3 else 4
theorem slw_lt {n k : Nat} (h : k < slw n) : A k 1 < n := by
  unfold slw at h
  have a0 : A 0 1 = 2 := rfl
  have a1 : A 1 1 = 3 := A1 1
  have a2 := A21
  have a3 := A31
  have hk : k = 0 ∨ k = 1 ∨ k = 2 ∨ k = 3 := by split at h <;> (try split at h) <;> (try split at h) <;> (try split at h) <;> omega
  rcases hk with rfl | rfl | rfl | rfl
  · split at h <;> (try split at h) <;> (try split at h) <;> (try split at h) <;> omega
  · split at h <;> (try split at h) <;> (try split at h) <;> (try split at h) <;> omega
  · split at h <;> (try split at h) <;> (try split at h) <;> (try split at h) <;> omega
  · split at h <;> (try split at h) <;> (try split at h) <;> (try split at h) <;> omega
theorem slw_ge {n : Nat} (hn : n ≤ 4000) : n ≤ A (slw n) 1 := by
  have a0 : A 0 1 = 2 := rfl
  have a1 : A 1 1 = 3 := A1 1
  have a2 := A21
  have a3 := A31
  have a4 := A41
  unfold slw
  split
  · omega
  · split
    · omega
    · split
      · omega
      · split <;> omega
theorem slow_cond (n k : Nat) (hn : n ≤ 4000) (hk : k < 12) : wc1_slow_number [.fz (.int n), .fz (.int k)] = some (decide (A k 1 < n), [.fz (.int n), .fz (.int k)]) := by
  have r := reach k 12 hk 1 n (by omega)
  have r' : m_reach_up 12 [.int k, .int 1, .int n] = some (.int (min (A k 1) n : Nat), false) := r
  clear r
  have e : decide (((min (A k 1) n : Nat) : Int) < (n : Int)) = decide (A k 1 < n) := by
    by_cases h : A k 1 < n
    · rw [decide_eq_true h, decide_eq_true (by omega)]
    · rw [decide_eq_false h, decide_eq_false (by omega)]
  unfold wc1_slow_number
  walk_at "mir"
theorem slow_turn (n k : Nat) : wb1_slow_number [.fz (.int n), .fz (.int k)] = some (.nx [.fz (.int n), .fz (.int ((k + 1 : Nat) : Int))]) := by
  have e : (k : Int) + 1 = ((k + 1 : Nat) : Int) := by omega
  unfold wb1_slow_number
  walk_at "mir"
theorem slow_loop (n : Nat) (hn : n ≤ 4000) : ∀ (d k fuel : Nat), k + d = slw n → d < fuel → mWhile wc1_slow_number wb1_slow_number fuel [.fz (.int n), .fz (.int k)] = some (.nx [.fz (.int n), .fz (.int (slw n))])
  | d, k, 0, _, h => by omega
  | 0, k, fuel + 1, h, _ => by
    have : k = slw n := by omega
    subst this
    have hs : slw n ≤ 4 := by unfold slw; split <;> (try split) <;> (try split) <;> (try split) <;> omega
    refine while_end ((slow_cond n _ hn (by omega)).trans ?_)
    have := slw_ge hn
    rw [decide_eq_false (by omega)]
  | d + 1, k, fuel + 1, h, hf => by
    have hs : slw n ≤ 4 := by unfold slw; split <;> (try split) <;> (try split) <;> (try split) <;> omega
    have := slw_lt (n := n) (k := k) (by omega)
    exact while_go ((slow_cond n k hn (by omega)).trans (by rw [decide_eq_true this])) (slow_turn n k) (slow_loop n hn d (k + 1) fuel (by omega) (by omega))
theorem slow_is (n : Nat) (hn : n ≤ 4000) : m_slow_number [.int n] = some (.int (slw n), false) := by
  have hs : slw n ≤ 4 := by unfold slw; split <;> (try split) <;> (try split) <;> (try split) <;> omega
  have h : mWhile wc1_slow_number wb1_slow_number 1000000 [.fz (.int n), .fz (.int 0)] = _ := slow_loop n hn (slw n) 0 1000000 (by omega) (by omega)
  unfold m_slow_number b_slow_number
  walk_at "mir"
def lev (r ov : Nat) : Nat := if A 2 r ≤ ov then 2 else if A 1 r ≤ ov then 1 else 0
theorem lev_le (r ov : Nat) : lev r ov ≤ 2 := by unfold lev; split <;> (try split) <;> omega
theorem lev_lt {r ov l : Nat} (h : l < lev r ov) : A (l + 1) r ≤ ov := by
  unfold lev at h
  have a12 := A_up 1 r
  split at h
  · rename_i h2
    have : l = 0 ∨ l = 1 := by omega
    rcases this with rfl | rfl
    · exact Nat.le_trans a12 h2
    · exact h2
  · split at h
    · rename_i h1
      have : l = 0 := by omega
      subst this; exact h1
    · omega
theorem lev_gt {r ov : Nat} (hr : 1 ≤ r) (ho : ov < 60) : ov < A (lev r ov + 1) r := by
  have a3 : A 3 1 ≤ A 3 r := A_mono 3 hr
  rw [A31] at a3
  unfold lev
  split
  · show ov < A 3 r; omega
  · split
    · show ov < A 2 r; omega
    · show ov < A 1 r; omega
theorem lev_at {r ov : Nat} (h : r < ov) : A (lev r ov) r ≤ ov := by
  cases e : lev r ov with
  | zero => show r + 1 ≤ ov; exact h
  | succ l => exact lev_lt (by omega)
def cnt (L ov : Nat) : Nat → Nat → Nat
  | 0, _ => 0
  | k + 1, x => if x ≤ ov then cnt L ov k (A L x) + 1 else 0
theorem cnt_le {L ov : Nat} : ∀ k x m, ov < it (A L) m x → cnt L ov k x ≤ m
  | 0, _, _, _ => Nat.zero_le _
  | k + 1, x, m, h => by
    unfold cnt
    split
    · rename_i hx
      cases m with
      | zero => exact absurd h (by show ¬ ov < x; omega)
      | succ m =>
        have := cnt_le k (A L x) m h
        omega
    · exact Nat.zero_le _
theorem cnt_pos {L ov k x : Nat} (h : x ≤ ov) : 1 ≤ cnt L ov (k + 1) x := by
  unfold cnt
  rw [if_pos h]; omega
def Gd (n : Nat) (f g : Nat → Nat) : D := .tuple [.list (tab n fun i => (f i : Int)), .list (tab n fun i => (g i : Int))]
theorem ie_above {n : Nat} {f g : Nat → Nat} {a : Nat} {b : PM} {ρ : Rho} {j : Nat} (h : ρ[a]? = some (.fz (Gd n f g))) (hb : IE b ρ (j : Int)) (hj : j < n) : IE (mOp gIx (mOp gIx (mVar a) (mC (.int 0))) b) ρ (f j : Int) :=
  op_ev (r := (.int (j : Int), .fz)) (res := (.int (f j : Int), false)) (sv_fz (op_ev (r := (.int 0, .fz)) (res := (.list (tab n fun i => (f i : Int)), false)) (sv_fz (var_fz h)) (sv_fz rfl) rfl)) (sv_fz hb) (tab_ix n (fun i => (f i : Int)) j hj)
theorem ie_rank {n : Nat} {f g : Nat → Nat} {a : Nat} {b : PM} {ρ : Rho} {j : Nat} (h : ρ[a]? = some (.fz (Gd n f g))) (hb : IE b ρ (j : Int)) (hj : j < n) : IE (mOp gIx (mOp gIx (mVar a) (mC (.int 1))) b) ρ (g j : Int) :=
  op_ev (r := (.int (j : Int), .fz)) (res := (.int (g j : Int), false)) (sv_fz (op_ev (r := (.int 1, .fz)) (res := (.list (tab n fun i => (g i : Int)), false)) (sv_fz (var_fz h)) (sv_fz rfl) rfl)) (sv_fz hb) (tab_ix n (fun i => (g i : Int)) j hj)
theorem aug_ev {i : Nat} {f : Int → Int → Int} {a : PM} {ρ ρ1 : Rho} {x y : Int} (h1 : ρ[i]? = some (.fz (.int x))) (h2 : IE a ρ y) (h3 : setSl ρ i (.fz (.int (f x y))) = some ρ1) : mAug i f a ρ = some (.nx ρ1) := by
  unfold mAug
  rw [h1]
  dsimp only
  rw [sv_fz h2, Option.bind_some]
  dsimp only [asI, Option.bind_some, Option.map_some]
  rw [h3]; rfl
theorem ra_is (n : Nat) (f g : Nat → Nat) (i : Nat) (hi : i < n) (hf : f i < n) : m_rank_above [Gd n f g, .int (i : Int)] = some (.int (g (f i) : Int), false) :=
  fn_of (o := .rt (.int (g (f i) : Int), .fz) [.fz (Gd n f g), .fz (.int (i : Int))]) rfl (ret_eq (ie_rank rfl (ie_above rfl (ie_var rfl) hi) hf)) rfl
theorem rch (k r ov : Nat) (hk : k < 12) (ho : ov < 90000) : m_reach_up 12 [.int (k : Int), .int (r : Int), .int ((ov : Int) + 1)] = some (.int ((min (A k r) (ov + 1) : Nat) : Int), false) := reach k 12 hk r (ov + 1) (by omega)
theorem level_loop (Y : D) (i r ov : Nat) (hr : 1 ≤ r) (ho : ov < 60) : ∀ (m l fuel : Nat), l + m = lev r ov → m < fuel → mWhile wc1_level_of wb1_level_of fuel [.fz Y, .fz (.int (i : Int)), .fz (.int (r : Int)), .fz (.int (ov : Int)), .fz (.int (l : Int))] = some (.nx [.fz Y, .fz (.int (i : Int)), .fz (.int (r : Int)), .fz (.int (ov : Int)), .fz (.int (lev r ov : Int))])
  | m, l, 0, _, h => by omega
  | m, l, fuel + 1, h, hf => by
    have ll := lev_le r ov
    have rr := rch (l + 1) r ov (by omega) (by omega)
    have c : wc1_level_of [.fz Y, .fz (.int (i : Int)), .fz (.int (r : Int)), .fz (.int (ov : Int)), .fz (.int (l : Int))] = some (decide (((min (A (l + 1) r) (ov + 1) : Nat) : Int) ≤ (ov : Int)), [.fz Y, .fz (.int (i : Int)), .fz (.int (r : Int)), .fz (.int (ov : Int)), .fz (.int (l : Int))]) :=
      (be_le (ie_call (rs := [(.int ((l : Int) + 1), .fz), (.int (r : Int), .fz), (.int ((ov : Int) + 1), .fz)]) (consI (ie_add (ie_var rfl) ie_c) (consI (ie_var rfl) (consI (ie_add (ie_var rfl) ie_c) nil_ev))) rr) (ie_var rfl)).t
    cases m with
    | zero =>
      have e : l = lev r ov := by omega
      subst e
      have := lev_gt hr ho
      rw [decide_eq_false (by omega)] at c
      exact while_end c
    | succ m =>
      have := lev_lt (r := r) (ov := ov) (l := l) (by omega)
      rw [decide_eq_true (by omega)] at c
      exact while_go c (aug_ev (x := (l : Int)) rfl ie_c rfl) (level_loop Y i r ov hr ho m (l + 1) fuel (by omega) (by omega))
theorem level_is (n : Nat) (f g : Nat → Nat) (i : Nat) (hi : i < n) (hf : f i < n) (hr : 1 ≤ g i) (ho : g (f i) < 60) : m_level_of [Gd n f g, .int (i : Int)] = some (.int (lev (g i) (g (f i)) : Int), false) := by
  have ra := ra_is n f g i hi hf
  have ll := lev_le (g i) (g (f i))
  have lp := level_loop (Gd n f g) i (g i) (g (f i)) hr ho (lev (g i) (g (f i))) 0 1000000 (by omega) (by omega)
  refine fn_of (o := .rt (.int (lev (g i) (g (f i)) : Int), .fz) [.fz (Gd n f g), .fz (.int (i : Int)), .fz (.int (g i : Int)), .fz (.int (g (f i) : Int)), .fz (.int (lev (g i) (g (f i)) : Int))]) rfl ?_ rfl
  refine seq_nx (ρ1 := [.fz (Gd n f g), .fz (.int (i : Int)), .fz (.int (g i : Int)), .no, .no]) (asgI (ie_rank rfl (ie_var rfl) hi) rfl) ?_
  refine seq_nx (ρ1 := [.fz (Gd n f g), .fz (.int (i : Int)), .fz (.int (g i : Int)), .fz (.int (g (f i) : Int)), .no]) (asgI (ie_call (rs := [(Gd n f g, .fz), (.int (i : Int), .fz)]) rfl ra) rfl) ?_
  refine seq_nx (ρ1 := [.fz (Gd n f g), .fz (.int (i : Int)), .fz (.int (g i : Int)), .fz (.int (g (f i) : Int)), .fz (.int 0)]) (asgI ie_c rfl) ?_
  exact seq_nx lp (ret_eq (ie_var rfl))
theorem times_loop (Y : D) (i L ov : Nat) (hL : L ≤ 2) (ho : ov < 60) : ∀ (k x t fuel : Nat), ov < x + k → k < fuel → mWhile wc1_times_of wb1_times_of fuel [.fz Y, .fz (.int (i : Int)), .fz (.int (L : Int)), .fz (.int (ov : Int)), .fz (.int (t : Int)), .fz (.int ((min x (ov + 1) : Nat) : Int))] = some (.nx [.fz Y, .fz (.int (i : Int)), .fz (.int (L : Int)), .fz (.int (ov : Int)), .fz (.int ((t + cnt L ov k x : Nat) : Int)), .fz (.int ((ov + 1 : Nat) : Int))])
  | k, x, t, 0, _, h => by omega
  | 0, x, t, fuel + 1, h, _ => by
    have e : min x (ov + 1) = ov + 1 := by omega
    rw [e]
    refine while_end (tstB (be_le (ie_var rfl) (ie_var rfl)) (decide_eq_false (by omega)))
  | k + 1, x, t, fuel + 1, h, hf => by
    by_cases hx : x ≤ ov
    · have e : min x (ov + 1) = x := by omega
      have g1 := A_gt L x
      have rr := rch L x ov (by omega) (by omega)
      have ih := times_loop Y i L ov hL ho k (A L x) (t + 1) fuel (by omega) (by omega)
      rw [e]
      have ec : t + cnt L ov (k + 1) x = t + 1 + cnt L ov k (A L x) := by
        show t + (if x ≤ ov then cnt L ov k (A L x) + 1 else 0) = _
        rw [if_pos hx]; omega
      rw [ec]
      refine while_go (tstB (be_le (ie_var rfl) (ie_var rfl)) (decide_eq_true (by omega))) (seq_nx (ρ1 := [.fz Y, .fz (.int (i : Int)), .fz (.int (L : Int)), .fz (.int (ov : Int)), .fz (.int ((t + 1 : Nat) : Int)), .fz (.int (x : Int))]) (aug_ev (x := (t : Int)) rfl ie_c rfl) (asgI (ie_call (rs := [(.int (L : Int), .fz), (.int (x : Int), .fz), (.int ((ov : Int) + 1), .fz)]) (consI (ie_var rfl) (consI (ie_var rfl) (consI (ie_add (ie_var rfl) ie_c) nil_ev))) rr) rfl)) ih
    · have e : min x (ov + 1) = ov + 1 := by omega
      have ec : cnt L ov (k + 1) x = 0 := by
        show (if x ≤ ov then cnt L ov k (A L x) + 1 else 0) = _
        rw [if_neg hx]
      rw [e, ec]
      exact while_end (tstB (be_le (ie_var rfl) (ie_var rfl)) (decide_eq_false (by omega)))
def many (r ov : Nat) : Nat := cnt (lev r ov) ov 60 (A (lev r ov) r)
theorem times_is (n : Nat) (f g : Nat → Nat) (i : Nat) (hi : i < n) (hf : f i < n) (hr : 1 ≤ g i) (ho : g (f i) < 60) : m_times_of [Gd n f g, .int (i : Int)] = some (.int (many (g i) (g (f i)) : Int), false) := by
  have ra := ra_is n f g i hi hf
  have lv := level_is n f g i hi hf hr ho
  have ll := lev_le (g i) (g (f i))
  have rr := rch (lev (g i) (g (f i))) (g i) (g (f i)) (by omega) (by omega)
  have lp := times_loop (Gd n f g) i (lev (g i) (g (f i))) (g (f i)) ll ho 60 (A (lev (g i) (g (f i))) (g i)) 0 1000000 (by omega) (by omega)
  rw [Nat.zero_add] at lp
  refine fn_of (o := .rt (.int (many (g i) (g (f i)) : Int), .fz) [.fz (Gd n f g), .fz (.int (i : Int)), .fz (.int (lev (g i) (g (f i)) : Int)), .fz (.int (g (f i) : Int)), .fz (.int (many (g i) (g (f i)) : Int)), .fz (.int ((g (f i) + 1 : Nat) : Int))]) rfl ?_ rfl
  refine seq_nx (ρ1 := [.fz (Gd n f g), .fz (.int (i : Int)), .fz (.int (lev (g i) (g (f i)) : Int)), .no, .no, .no]) (asgI (ie_call (rs := [(Gd n f g, .fz), (.int (i : Int), .fz)]) rfl lv) rfl) ?_
  refine seq_nx (ρ1 := [.fz (Gd n f g), .fz (.int (i : Int)), .fz (.int (lev (g i) (g (f i)) : Int)), .fz (.int (g (f i) : Int)), .no, .no]) (asgI (ie_call (rs := [(Gd n f g, .fz), (.int (i : Int), .fz)]) rfl ra) rfl) ?_
  refine seq_nx (ρ1 := [.fz (Gd n f g), .fz (.int (i : Int)), .fz (.int (lev (g i) (g (f i)) : Int)), .fz (.int (g (f i) : Int)), .fz (.int 0), .no]) (asgI ie_c rfl) ?_
  refine seq_nx (ρ1 := [.fz (Gd n f g), .fz (.int (i : Int)), .fz (.int (lev (g i) (g (f i)) : Int)), .fz (.int (g (f i) : Int)), .fz (.int 0), .fz (.int ((min (A (lev (g i) (g (f i))) (g i)) (g (f i) + 1) : Nat) : Int))]) (asgI (ie_call (rs := [(.int (lev (g i) (g (f i)) : Int), .fz), (.int (g i : Int), .fz), (.int ((g (f i) : Int) + 1), .fz)]) (consI (ie_var rfl) (consI (ie_rank rfl (ie_var rfl) hi) (consI (ie_add (ie_var rfl) ie_c) nil_ev))) rr) rfl) ?_
  exact seq_nx lp (ret_eq (ie_var rfl))
theorem lev_slow {n r ov : Nat} (hr : 1 ≤ r) (h : r < ov) (ho : ov < n) : lev r ov < slw n := by
  have la := lev_at h
  have ll := lev_le r ov
  have lm := A_mono (lev r ov) hr
  have a0 : A 0 1 = 2 := rfl
  have a1 : A 1 1 = 3 := A1 1
  have a2 := A21
  have : lev r ov = 0 ∨ lev r ov = 1 ∨ lev r ov = 2 := by omega
  unfold slw
  rcases this with e | e | e <;> rw [e] at la lm ⊢ <;> split <;> (try split) <;> (try split) <;> (try split) <;> omega
theorem tab_ints (n : Nat) (v : Nat → Int) : tab n v = ((List.range n).map v).map .int := by unfold tab; rw [List.map_map]; rfl
structure Gok (n : Nat) (f g : Nat → Nat) : Prop where
  n40 : n ≤ 60
  fn : ∀ i, i < n → f i < n
  gn : ∀ i, i < n → g i < n
  up : ∀ i, i < n → f i = i ∨ g i < g (f i)
def crd (sl : Nat) (f g : Nat → Nat) (i : Nat) : Int := if g i = 0 ∨ f i = i then (sl : Int) * (g i : Int) else ((sl : Int) - (lev (g i) (g (f i)) : Int)) * (g i : Int) - (many (g i) (g (f i)) : Int)
theorem bits_small {x : Int} (h : -2 ≤ x) (h2 : x ≤ 4) : Builtin.Int.intBits x ≤ 64 := by
  have : x = -2 ∨ x = -1 ∨ x = 0 ∨ x = 1 ∨ x = 2 ∨ x = 3 ∨ x = 4 := by omega
  rcases this with rfl | rfl | rfl | rfl | rfl | rfl | rfl <;> decide
theorem slw_le (n : Nat) : slw n ≤ 4 := by unfold slw; split <;> (try split) <;> (try split) <;> (try split) <;> omega
theorem many_le {r ov : Nat} (hr : 1 ≤ r) (ho : ov < 60) : many r ov ≤ r := cnt_le 60 _ r (lev_gt hr ho)
theorem many_pos {r ov : Nat} (h : r < ov) : 1 ≤ many r ov := cnt_pos (k := 59) (lev_at h)
theorem creditby_is (n : Nat) (f g : Nat → Nat) (ok : Gok n f g) (sl : Nat) (hs : sl ≤ 4) (i : Nat) (hi : i < n) : m_credit_by [Gd n f g, .int (i : Int), .int (sl : Int)] = some (.int (crd sl f g i), false) := by
  have hf := ok.fn i hi
  have hg := ok.gn (f i) hf
  have n40 := ok.n40
  have e3 : ∀ {ρ : Rho}, IE (mOp gIx (mOp gIx (mVar 0) (mC (.int 1))) (mVar 1)) (.fz (Gd n f g) :: .fz (.int (i : Int)) :: ρ) (g i : Int) := fun {ρ} => ie_rank rfl (ie_var rfl) hi
  have e4 : ∀ {ρ : Rho}, IE (mOp gIx (mOp gIx (mVar 0) (mC (.int 0))) (mVar 1)) (.fz (Gd n f g) :: .fz (.int (i : Int)) :: ρ) (f i : Int) := fun {ρ} => ie_above rfl (ie_var rfl) hi
  have a3 : mAsg 3 (mOp gIx (mOp gIx (mVar 0) (mC (.int 1))) (mVar 1)) [.fz (Gd n f g), .fz (.int (i : Int)), .fz (.int (sl : Int)), .no] = some (.nx [.fz (Gd n f g), .fz (.int (i : Int)), .fz (.int (sl : Int)), .fz (.int (g i : Int))]) := asgI e3 rfl
  unfold crd
  by_cases h0 : g i = 0
  · rw [if_pos (.inl h0)]
    exact fn_of (o := .rt (.int ((sl : Int) * (g i : Int)), .fz) [.fz (Gd n f g), .fz (.int (i : Int)), .fz (.int (sl : Int)), .fz (.int (g i : Int))]) rfl (seq_nx a3 (seq_rt (if_t (or_t (tEq (ie_var rfl) ie_c (by omega))) (ret_eq (ie_mul (ie_var rfl) (ie_var rfl) (IntMulOk.of_left (bits_small (by omega) (by omega)))))))) rfl
  · have t0 : mTest (mOp gEq (mVar 3) (mC (.int 0))) [.fz (Gd n f g), .fz (.int (i : Int)), .fz (.int (sl : Int)), .fz (.int (g i : Int))] = some (false, [.fz (Gd n f g), .fz (.int (i : Int)), .fz (.int (sl : Int)), .fz (.int (g i : Int))]) := tNe (ie_var rfl) ie_c (by omega)
    by_cases h1 : f i = i
    · rw [if_pos (.inr h1)]
      exact fn_of (o := .rt (.int ((sl : Int) * (g i : Int)), .fz) [.fz (Gd n f g), .fz (.int (i : Int)), .fz (.int (sl : Int)), .fz (.int (g i : Int))]) rfl (seq_nx a3 (seq_rt (if_t (or_f t0 (tEq e4 (ie_var rfl) (by omega))) (ret_eq (ie_mul (ie_var rfl) (ie_var rfl) (IntMulOk.of_left (bits_small (by omega) (by omega)))))))) rfl
    · rw [if_neg (fun z => z.elim h0 h1)]
      have lv := level_is n f g i hi hf (by omega) (by omega)
      have tm := times_is n f g i hi hf (by omega) (by omega)
      have ll := lev_le (g i) (g (f i))
      refine fn_of (o := .rt (.int (((sl : Int) - (lev (g i) (g (f i)) : Int)) * (g i : Int) - (many (g i) (g (f i)) : Int)), .fz) [.fz (Gd n f g), .fz (.int (i : Int)), .fz (.int (sl : Int)), .fz (.int (g i : Int))]) rfl (seq_nx a3 (seq_nx (if_f (or_f t0 (tNe e4 (ie_var rfl) (by omega))) rfl) (ret_eq ?_))) rfl
      exact ie_sub (ie_mul (ie_sub (ie_var rfl) (ie_call (rs := [(Gd n f g, .fz), (.int (i : Int), .fz)]) rfl lv)) (ie_var rfl) (IntMulOk.of_left (bits_small (by omega) (by omega)))) (ie_call (rs := [(Gd n f g, .fz), (.int (i : Int), .fz)]) rfl tm)
theorem crd_nn {n : Nat} {f g : Nat → Nat} (ok : Gok n f g) {i : Nat} (hi : i < n) : 0 ≤ crd (slw n) f g i ∧ (f i ≠ i → 1 ≤ g i → crd (slw n) f g i < (slw n : Int) * (g i : Int)) := by
  unfold crd
  by_cases h : g i = 0 ∨ f i = i
  · rw [if_pos h]
    refine ⟨Int.mul_nonneg (by omega) (by omega), fun h1 h2 => ?_⟩
    rcases h with h | h
    · omega
    · exact absurd h h1
  · rw [if_neg h]
    have h0 : 1 ≤ g i := by have : ¬ g i = 0 := fun z => h (.inl z); omega
    have h1 : f i ≠ i := fun z => h (.inr z)
    have hf := ok.fn i hi
    have hlt := (ok.up i hi).resolve_left h1
    have hg := ok.gn (f i) hf
    have n40 := ok.n40
    have ls := lev_slow h0 hlt hg
    have m1 := many_le h0 (show g (f i) < 60 by omega)
    have m2 := many_pos hlt
    generalize lev (g i) (g (f i)) = L at *
    generalize many (g i) (g (f i)) = M at *
    generalize slw n = s at *
    generalize g i = r at *
    have p1 : (1 : Int) * (r : Int) ≤ ((s : Int) - (L : Int)) * (r : Int) := Int.mul_le_mul_of_nonneg_right (by omega) (by omega)
    have p2 : ((s : Int) - (L : Int)) * (r : Int) ≤ (s : Int) * (r : Int) := Int.mul_le_mul_of_nonneg_right (by omega) (by omega)
    refine ⟨by omega, fun _ _ => by omega⟩
theorem gSum_tab (n : Nat) (v : Nat → Int) : gSum [.list (tab n v)] = some (.int ((List.range n).map v).sum, false) := by rw [tab_ints]; exact gSum_ints _
theorem len_G {n : Nat} {f g : Nat → Nat} {a : Nat} {ρ : Rho} (h : ρ[a]? = some (.fz (Gd n f g))) : IE (mCB gLen (mCons (mOp gIx (mVar a) (mC (.int 0))) mNil)) ρ (n : Int) :=
  cb_ev (rs := [(.list (tab n fun i => (f i : Int)), .fz)]) (res := (.int (n : Int), false)) (cons_fz (sv_fz (op_ev (r := (.int 0, .fz)) (res := (.list (tab n fun i => (f i : Int)), false)) (sv_fz (var_fz h)) (sv_fz rfl) rfl)) nil_ev) (by show gLen [.list (tab n fun i => (f i : Int))] = _; rw [gLen_any, tab_len])
theorem gcredit_is (n : Nat) (f g : Nat → Nat) (ok : Gok n f g) : m_groups_credit [Gd n f g] = some (.int ((List.range n).map (crd (slw n) f g)).sum, false) := by
  have sl := slow_is n (by have := ok.n40; omega)
  have sw := slw_le n
  have n40 := ok.n40
  have cl : compL mYes ce1_groups_credit [.fz (Gd n f g), .fz (.int (slw n : Int))] (nls (List.range n)) = some (tab n (crd (slw n) f g)) := compL_map (f := fun i : Nat => PyData.int (i : Int)) (List.range n) fun x hx => ⟨[.fz (.int (x : Int)), .fz (Gd n f g), .fz (.int (slw n : Int))], sv_fz (ie_call (rs := [(Gd n f g, .fz), (.int (x : Int), .fz), (.int (slw n : Int), .fz)]) rfl (creditby_is n f g ok (slw n) sw x (by simpa using hx)))⟩
  have sm := gSum_tab n (crd (slw n) f g)
  refine fn_of (o := .rt (.int ((List.range n).map (crd (slw n) f g)).sum, .fz) [.fz (Gd n f g), .fz (.int (n : Int)), .fz (.int (slw n : Int))]) rfl ?_ rfl
  refine seq_nx (ρ1 := [.fz (Gd n f g), .fz (.int (n : Int)), .no]) (asgI (len_G rfl) rfl) ?_
  refine seq_nx (ρ1 := [.fz (Gd n f g), .fz (.int (n : Int)), .fz (.int (slw n : Int))]) (asgI (ie_call (rs := [(.int (n : Int), .fz)]) rfl sl) rfl) ?_
  refine ret_eq (cb_ev (rs := [(.list (tab n (crd (slw n) f g)), .fz)]) (res := (.int _, false)) (cons_fz (sv_new (lc_ev (rg1_eq (j := (n : Int)) (consI (ie_var rfl) nil_ev) ⟨by omega, by omega⟩) ?_ (by rw [tab_len]; omega))) nil_ev) sm)
  rw [Int.toNat_natCast, rngD_map]; exact cl
theorem sum_zero : ∀ l : List Nat, (l.map fun _ => (0 : Int)).sum = 0
  | [] => rfl
  | _ :: l => by rw [List.map_cons, List.sum_cons, sum_zero l]; rfl
theorem cnt_ge {L ov : Nat} : ∀ k x m, ov < x + k → it (A L) m x ≤ ov → m + 1 ≤ cnt L ov k x
  | 0, x, m, h, h2 => by have := it_ge (A_gt L) m x; omega
  | k + 1, x, m, h, h2 => by
    have h3 := it_ge (A_gt L) m x
    have h4 := A_gt L x
    unfold cnt
    rw [if_pos (by omega)]
    cases m with
    | zero => omega
    | succ m =>
      have := cnt_ge k (A L x) m (by omega) h2
      omega
theorem lev_mono {r ov ov' : Nat} (h : ov ≤ ov') : lev r ov ≤ lev r ov' := by
  unfold lev
  split <;> (try split) <;> (try split) <;> (try split) <;> omega
theorem many_it {r ov : Nat} (h : r < ov) : it (A (lev r ov)) (many r ov) r ≤ ov := by
  have m1 := many_pos h
  obtain ⟨m, e⟩ : ∃ m, many r ov = m + 1 := ⟨many r ov - 1, by omega⟩
  rw [e]
  refine Nat.le_of_not_lt fun z => ?_
  have := cnt_le (L := lev r ov) 60 (A (lev r ov) r) m z
  unfold many at e
  omega
def cc (s r ov : Nat) : Int := ((s : Int) - (lev r ov : Int)) * (r : Int) - (many r ov : Int)
theorem cc_le {s r ov ov' : Nat} (hr : 1 ≤ r) (h : r < ov) (h' : ov ≤ ov') (ho : ov' < 60) : cc s r ov' ≤ cc s r ov ∧ (it (A (lev r ov)) (many r ov + 1) r ≤ ov' → cc s r ov' < cc s r ov) := by
  have hl := lev_mono (r := r) h'
  have m1 := many_pos h
  have m1' := many_pos (Nat.lt_of_lt_of_le h h')
  have m2 := many_le hr (show ov < 60 by omega)
  have hit := many_it h
  by_cases e : lev r ov' = lev r ov
  · have g1 := A_gt (lev r ov) r
    have em : many r ov' = cnt (lev r ov) ov' 60 (A (lev r ov) r) := by unfold many; rw [e]
    obtain ⟨m, eM⟩ : ∃ m, many r ov = m + 1 := ⟨many r ov - 1, by omega⟩
    rw [eM] at hit
    have c1 : m + 1 ≤ many r ov' := by rw [em]; exact cnt_ge 60 _ m (by omega) (Nat.le_trans hit h')
    unfold cc
    rw [e, eM]
    refine ⟨by omega, fun z => ?_⟩
    have c2 : m + 1 + 1 ≤ many r ov' := by rw [em]; exact cnt_ge 60 _ (m + 1) (by omega) z
    omega
  · have p : ((s : Int) - (lev r ov' : Int)) * (r : Int) ≤ ((s : Int) - (lev r ov : Int) - 1) * (r : Int) := Int.mul_le_mul_of_nonneg_right (by omega) (by omega)
    rw [Int.sub_mul _ 1, Int.one_mul] at p
    unfold cc
    refine ⟨by omega, fun _ => by omega⟩
theorem crd_cc {sl : Nat} {f g : Nat → Nat} {i : Nat} (h : f i ≠ i) (h2 : 1 ≤ g i) : crd sl f g i = cc sl (g i) (g (f i)) := by
  unfold crd cc
  rw [if_neg (fun z => z.elim (fun z => by omega) h)]
def path (f : Nat → Nat) : Nat → Nat → List Nat
  | 0, x => [x]
  | k + 1, x => if f x = x then [x] else x :: path f k (f x)
def topOf (f : Nat → Nat) : Nat → Nat → Nat
  | 0, x => x
  | k + 1, x => if f x = x then x else topOf f k (f x)
theorem topOf_is {n : Nat} {f g : Nat → Nat} (ok : Gok n f g) : ∀ k x, x < n → n ≤ g x + k → f (topOf f k x) = topOf f k x ∧ topOf f k x < n ∧ g x ≤ g (topOf f k x) ∧ (f x ≠ x → g (f x) ≤ g (topOf f k x))
  | 0, x, hx, h => by have := ok.gn x hx; omega
  | k + 1, x, hx, h => by
    unfold topOf
    by_cases e : f x = x
    · rw [if_pos e]; exact ⟨e, hx, Nat.le_refl _, fun z => absurd e z⟩
    · rw [if_neg e]
      have hlt := (ok.up x hx).resolve_left e
      obtain ⟨h1, h2, h3, _⟩ := topOf_is ok k (f x) (ok.fn x hx) (by omega)
      exact ⟨h1, h2, by omega, fun _ => h3⟩
theorem path_mem {n : Nat} {f g : Nat → Nat} (ok : Gok n f g) : ∀ k x, x < n → n ≤ g x + k → ∀ y ∈ path f k x, y < n ∧ g x ≤ g y ∧ (f y = y → y = topOf f k x) ∧ (f y ≠ y → g (f y) ≤ g (topOf f k x))
  | 0, x, hx, h, y, hy => by have := ok.gn x hx; omega
  | k + 1, x, hx, h, y, hy => by
    have tp := topOf_is ok (k + 1) x hx h
    unfold path at hy
    unfold topOf at tp ⊢
    by_cases e : f x = x
    · rw [if_pos e] at hy
      rw [if_pos e]
      rw [List.mem_singleton.mp hy]
      exact ⟨hx, Nat.le_refl _, fun _ => rfl, fun z => absurd e z⟩
    · rw [if_neg e] at hy tp
      rw [if_neg e]
      have hlt := (ok.up x hx).resolve_left e
      rcases List.mem_cons.mp hy with rfl | hy
      · exact ⟨hx, Nat.le_refl _, fun z => absurd z e, tp.2.2.2⟩
      · obtain ⟨h1, h2, h3, h4⟩ := path_mem ok k (f x) (ok.fn x hx) (by omega) y hy
        exact ⟨h1, by omega, h3, h4⟩
theorem path_nodup {n : Nat} {f g : Nat → Nat} (ok : Gok n f g) : ∀ k x, x < n → n ≤ g x + k → (path f k x).Nodup
  | 0, x, hx, h => by have := ok.gn x hx; omega
  | k + 1, x, hx, h => by
    unfold path
    by_cases e : f x = x
    · rw [if_pos e]; simp
    · rw [if_neg e]
      have hlt := (ok.up x hx).resolve_left e
      refine List.nodup_cons.mpr ⟨fun z => ?_, path_nodup ok k (f x) (ok.fn x hx) (by omega)⟩
      have := (path_mem ok k (f x) (ok.fn x hx) (by omega) x z).2.1
      omega
def nrm (f g : Nat → Nat) (y : Nat) : Bool := decide (f y ≠ y ∧ 1 ≤ g y)
def lvl (f g : Nat → Nat) (y : Nat) : Nat := lev (g y) (g (f y))
def hasL (f g : Nat → Nat) (w : List Nat) (l : Nat) : Bool := w.any fun y => nrm f g y && decide (lvl f g y = l)
theorem hasL_iff {f g : Nat → Nat} {w : List Nat} {l : Nat} : hasL f g w l = true ↔ ∃ y ∈ w, (f y ≠ y ∧ 1 ≤ g y) ∧ lvl f g y = l := by simp [hasL, nrm]
theorem pays {n : Nat} {f g : Nat → Nat} (ok : Gok n f g) {s k x : Nat} (hx : x < n) (e : f x ≠ x) (hr : 1 ≤ g x) (hk : n ≤ g (f x) + k) (h : hasL f g (path f k (f x)) (lvl f g x) = true) : cc s (g x) (g (topOf f k (f x))) < cc s (g x) (g (f x)) := by
  obtain ⟨y, hy, ⟨e1, h1⟩, hl⟩ := hasL_iff.mp h
  have hlt := (ok.up x hx).resolve_left e
  have hf := ok.fn x hx
  obtain ⟨yn, hg, _, ht⟩ := path_mem ok k (f x) hf hk y hy
  have tp := topOf_is ok k (f x) hf hk
  have gt := ok.gn _ tp.2.1
  have n40 := ok.n40
  have ylt := (ok.up y yn).resolve_left e1
  refine (cc_le hr hlt tp.2.2.1 (by omega)).2 ?_
  have a1 := lev_at ylt
  have a2 := many_it hlt
  unfold lvl at hl
  rw [hl] at a1
  rw [it_succ]
  have a3 := A_mono (lev (g x) (g (f x))) (Nat.le_trans a2 hg)
  exact Nat.le_trans a3 (Nat.le_trans a1 (ht e1))
theorem countP_up {s : Nat} {p q : Nat → Bool} (h : ∀ l, p l = true → q l = true) : (List.range s).countP p ≤ (List.range s).countP q := List.countP_mono_left fun l _ => h l
theorem countP_new {p q : Nat → Bool} {x : Nat} (h : ∀ l, p l = true → q l = true) (h1 : p x = false) (h2 : q x = true) : ∀ s, x < s → (List.range s).countP p + 1 ≤ (List.range s).countP q
  | 0, hs => by omega
  | s + 1, hs => by
    rw [List.range_succ, List.countP_append, List.countP_append]
    by_cases e : x = s
    · subst e
      have := countP_up (s := x) h
      rw [List.countP_singleton, List.countP_singleton, h1, h2]
      simp; omega
    · have ih := countP_new h h1 h2 s (by omega)
      have : [s].countP p ≤ [s].countP q := List.countP_mono_left fun l _ => h l
      omega
theorem nd_le {n : Nat} {f g : Nat → Nat} (ok : Gok n f g) {t : Nat} {c' : Nat → Int} : ∀ k x, x < n → n ≤ g x + k → topOf f k x = t → (∀ y ∈ path f k x, f y ≠ y → 1 ≤ g y → c' y = cc (slw n) (g y) (g t)) →
    ((path f k x).filter fun y => decide (crd (slw n) f g y ≤ c' y)).length ≤ 1 + (List.range (slw n)).countP (hasL f g (path f k x)) + (if g x = 0 ∧ f x ≠ x then 1 else 0)
  | 0, x, hx, h, _, _ => by have := ok.gn x hx; omega
  | k + 1, x, hx, h, ht, hc => by
    have tp := topOf_is ok (k + 1) x hx h
    unfold path at hc ⊢
    unfold topOf at ht
    by_cases e : f x = x
    · rw [if_pos e]
      have := List.length_filter_le (fun y => decide (crd (slw n) f g y ≤ c' y)) [x]
      simp only [List.length_singleton] at this
      omega
    · rw [if_neg e] at hc ht ⊢
      have hlt := (ok.up x hx).resolve_left e
      have hf := ok.fn x hx
      have ih := nd_le ok k (f x) hf (by omega) ht fun y hy => hc y (List.mem_cons_of_mem _ hy)
      rw [if_neg (show ¬ (g (f x) = 0 ∧ f (f x) ≠ f x) by omega)] at ih
      have up : ∀ l, hasL f g (path f k (f x)) l = true → hasL f g (x :: path f k (f x)) l = true := fun l hl => by
        obtain ⟨y, hy, q⟩ := hasL_iff.mp hl
        exact hasL_iff.mpr ⟨y, List.mem_cons_of_mem _ hy, q⟩
      have cu := countP_up (s := slw n) up
      by_cases h0 : g x = 0
      · rw [if_pos ⟨h0, e⟩, List.filter_cons]
        split
        · rw [List.length_cons]; omega
        · omega
      · rw [if_neg (fun z => h0 z.1)]
        have ex := hc x List.mem_cons_self e (by omega)
        cases hh : hasL f g (path f k (f x)) (lvl f g x) with
        | true =>
          have pp := pays ok (s := slw n) hx e (by omega) (by omega) hh
          rw [ht, ← ex, ← crd_cc e (by omega)] at pp
          rw [List.filter_cons, if_neg (by simp; omega)]
          omega
        | false =>
          have tp2 := topOf_is ok k (f x) hf (by omega)
          have gt := ok.gn _ hf
          have ls := lev_slow (n := n) (show 1 ≤ g x by omega) hlt gt
          have nw := countP_new up hh (hasL_iff.mpr ⟨x, List.mem_cons_self, ⟨e, by omega⟩, rfl⟩) (slw n) ls
          rw [List.filter_cons]
          split
          · rw [List.length_cons]; omega
          · omega
theorem nd_all {n : Nat} {f g : Nat → Nat} (ok : Gok n f g) {k x : Nat} (hx : x < n) (h : n ≤ g x + k) {c' : Nat → Int} (hc : ∀ y ∈ path f k x, f y ≠ y → 1 ≤ g y → c' y = cc (slw n) (g y) (g (topOf f k x))) :
    ((path f k x).filter fun y => decide (crd (slw n) f g y ≤ c' y)).length ≤ slw n + 2 := by
  have h1 := nd_le ok k x hx h rfl hc
  have h2 := List.countP_le_length (p := hasL f g (path f k x)) (l := List.range (slw n))
  rw [List.length_range] at h2
  split at h1 <;> omega
def squ (f : Nat → Nat) (k x : Nat) (y : Nat) : Nat := if y ∈ path f k x then topOf f k x else f y
theorem squ_ok {n : Nat} {f g : Nat → Nat} (ok : Gok n f g) {k x : Nat} (hx : x < n) (h : n ≤ g x + k) : Gok n (squ f k x) g := by
  have tp := topOf_is ok k x hx h
  refine ⟨ok.n40, fun i hi => ?_, ok.gn, fun i hi => ?_⟩
  · unfold squ; split
    · exact tp.2.1
    · exact ok.fn i hi
  · unfold squ; split
    · rename_i hm
      obtain ⟨_, _, h3, h4⟩ := path_mem ok k x hx h i hm
      by_cases e : f i = i
      · exact .inl (h3 e).symm
      · have := (ok.up i hi).resolve_left e
        have := h4 e
        exact .inr (by omega)
    · exact ok.up i hi
theorem squ_crd {n : Nat} {f g : Nat → Nat} (ok : Gok n f g) {k x s : Nat} (hx : x < n) (h : n ≤ g x + k) : ∀ y, y < n → crd s (squ f k x) g y ≤ crd s f g y ∧ (y ∈ path f k x → f y ≠ y → 1 ≤ g y → crd s (squ f k x) g y = cc s (g y) (g (topOf f k x))) := by
  intro y hy
  have tp := topOf_is ok k x hx h
  by_cases hm : y ∈ path f k x
  · have es : squ f k x y = topOf f k x := by unfold squ; rw [if_pos hm]
    obtain ⟨_, _, h3, h4⟩ := path_mem ok k x hx h y hm
    by_cases e : f y = y
    · have : squ f k x y = f y := by rw [es, e]; exact (h3 e).symm
      refine ⟨?_, fun _ z => absurd e z⟩
      unfold crd
      rw [this]
      exact Int.le_refl _
    · have hlt := (ok.up y hy).resolve_left e
      have h4 := h4 e
      have gt := ok.gn _ tp.2.1
      have n40 := ok.n40
      have ne : squ f k x y ≠ y := by
        rw [es]; intro z
        have : g y = g (topOf f k x) := by rw [z]
        omega
      by_cases h0 : g y = 0
      · refine ⟨?_, fun _ _ z => by omega⟩
        unfold crd
        rw [if_pos (.inl h0), if_pos (.inl h0)]
        exact Int.le_refl _
      · have c1 := crd_cc (sl := s) (f := squ f k x) (g := g) ne (by omega)
        rw [es] at c1
        refine ⟨?_, fun _ _ _ => c1⟩
        rw [c1, crd_cc e (by omega)]
        exact (cc_le (by omega) hlt h4 (by omega)).1
  · have es : squ f k x y = f y := by unfold squ; rw [if_neg hm]
    refine ⟨?_, fun z => absurd z hm⟩
    unfold crd
    rw [es]
    exact Int.le_refl _
theorem sum_upd (h : Nat → Int) (x : Nat) : ∀ n, x < n → ((List.range n).map h).sum = h x + ((List.range n).map fun i => if i = x then 0 else h i).sum
  | 0, hx => by omega
  | n + 1, hx => by
    rw [List.range_succ, List.map_append, List.map_append, List.sum_append, List.sum_append]
    by_cases e : x = n
    · subst e
      have : (List.range x).map (fun i => if i = x then 0 else h i) = (List.range x).map h := List.map_congr_left fun i hi => by
        have : i < x := by simpa using hi
        rw [if_neg (by omega)]
      rw [this]
      simp; omega
    · have ih := sum_upd h x n (by omega)
      rw [ih]
      simp only [List.map_cons, List.map_nil, if_neg (show ¬ n = x by omega)]
      omega
theorem sum_nn (h : Nat → Int) (hn : ∀ i, 0 ≤ h i) : ∀ l : List Nat, 0 ≤ (l.map h).sum
  | [] => Int.le_refl _
  | x :: l => by
    rw [List.map_cons, List.sum_cons]
    have := sum_nn h hn l
    have := hn x
    omega
theorem sum_part (n : Nat) : ∀ (w : List Nat) (h : Nat → Int), (∀ i, 0 ≤ h i) → w.Nodup → (∀ y ∈ w, y < n) → (w.map h).sum ≤ ((List.range n).map h).sum
  | [], h, hn, _, _ => sum_nn h hn _
  | x :: w, h, hn, hd, hw => by
    obtain ⟨hx, hd⟩ := List.nodup_cons.mp hd
    have ih := sum_part n w (fun i => if i = x then 0 else h i) (fun i => by
      show 0 ≤ (if i = x then 0 else h i)
      split
      · exact Int.le_refl _
      · exact hn i) hd fun y hy => hw y (List.mem_cons_of_mem _ hy)
    have e : w.map (fun i => if i = x then 0 else h i) = w.map h := List.map_congr_left fun i hi => by rw [if_neg (fun z : i = x => hx (z ▸ hi))]
    rw [e] at ih
    rw [List.map_cons, List.sum_cons, sum_upd h x n (hw x List.mem_cons_self)]
    omega
theorem sum_gone : ∀ (w : List Nat) (a b : Nat → Int), (∀ y ∈ w, b y ≤ a y) → (w.length : Int) ≤ (w.map fun y => a y - b y).sum + ((w.filter fun y => decide (a y ≤ b y)).length : Int)
  | [], a, b, _ => by simp
  | x :: w, a, b, h => by
    have ih := sum_gone w a b fun y hy => h y (List.mem_cons_of_mem _ hy)
    have hx := h x List.mem_cons_self
    rw [List.map_cons, List.sum_cons, List.filter_cons, List.length_cons]
    split
    · rw [List.length_cons]; omega
    · rename_i e
      have : ¬ a x ≤ b x := by simpa using e
      omega
theorem sum_diff (a b : Nat → Int) : ∀ l : List Nat, (l.map fun y => a y - b y).sum = (l.map a).sum - (l.map b).sum
  | [] => rfl
  | x :: l => by
    rw [List.map_cons, List.map_cons, List.map_cons, List.sum_cons, List.sum_cons, List.sum_cons, sum_diff a b l]
    omega
theorem way_paid {n : Nat} {f g : Nat → Nat} (ok : Gok n f g) {k x : Nat} (hx : x < n) (h : n ≤ g x + k) :
    ((path f k x).length : Int) + ((List.range n).map (crd (slw n) (squ f k x) g)).sum ≤ ((List.range n).map (crd (slw n) f g)).sum + (slw n : Int) + 2 := by
  have pm := path_mem ok k x hx h
  have sc := squ_crd (s := slw n) ok hx h
  have nd := nd_all ok hx h (c' := crd (slw n) (squ f k x) g) fun y hy e1 e2 => (sc y (pm y hy).1).2 hy e1 e2
  have s1 := sum_gone (path f k x) (crd (slw n) f g) (crd (slw n) (squ f k x) g) fun y hy => (sc y (pm y hy).1).1
  have s2 := sum_part n (path f k x) (fun i => if i < n then crd (slw n) f g i - crd (slw n) (squ f k x) g i else 0) (fun i => by
    show 0 ≤ (if i < n then _ else _)
    split
    · rename_i hi
      have := (sc i hi).1
      omega
    · exact Int.le_refl _) (path_nodup ok k x hx h) fun y hy => (pm y hy).1
  have e1 : (path f k x).map (fun i => if i < n then crd (slw n) f g i - crd (slw n) (squ f k x) g i else 0) = (path f k x).map fun i => crd (slw n) f g i - crd (slw n) (squ f k x) g i := List.map_congr_left fun i hi => if_pos (pm i hi).1
  have e2 : (List.range n).map (fun i => if i < n then crd (slw n) f g i - crd (slw n) (squ f k x) g i else 0) = (List.range n).map fun i => crd (slw n) f g i - crd (slw n) (squ f k x) g i := List.map_congr_left fun i hi => if_pos (by simpa using hi)
  rw [e1, e2, sum_diff _ _ (List.range n)] at s2
  omega
theorem gs_cons {g : D → Rho → Option Rho} {gs : List D → Rho → Option Rho} {d : D} {ds : List D} {ρ ρ1 ρ2 : Rho} (h1 : g d ρ = some ρ1) (h2 : gs ds ρ1 = some ρ2) : mgsCons g gs (d :: ds) ρ = some ρ2 := by
  show (g d ρ).bind _ = _
  rw [h1]; exact h2
theorem gs_tup {n : Nat} {gs : List D → Rho → Option Rho} {ds : List D} {ρ ρ1 : Rho} (hl : ds.length = n) (h : gs ds ρ = some ρ1) : mgU n gs (.tuple ds) ρ = some ρ1 := by
  show (if ds.length = n then gs ds ρ else none) = _
  rw [if_pos hl]; exact h
theorem nls_ints (l : List Nat) : nls l = (l.map fun i : Nat => (i : Int)).map .int := by unfold nls; rw [List.map_map]; rfl
theorem nls_pure (l : List Nat) : pureDs (nls l) = true := by rw [nls_ints]; exact pureDs_ints _
theorem nls_last (l : List Nat) (y : Nat) (h : l.getLast? = some y) : gIx (.list (nls l)) (.int (-1)) = some (.int (y : Int), false) := by
  show (L2.atI (nls l) (-1)).map (fun d => (d, false)) = _
  rw [Mir.atI_last]
  unfold nls
  rw [List.getLast?_map, h]; rfl
theorem nls_app (l : List Nat) (y : Nat) : nls l ++ [.int (y : Int)] = nls (l ++ [y]) := by simp [nls]
theorem path_last {f : Nat → Nat} : ∀ k x, (path f k x).getLast? = some (topOf f k x)
  | 0, x => rfl
  | k + 1, x => by
    unfold path topOf
    by_cases e : f x = x
    · rw [if_pos e, if_pos e]; rfl
    · rw [if_neg e, if_neg e]
      have ih := path_last k (f x) (f := f)
      cases h : path f k (f x) with
      | nil => rw [h] at ih; cases ih
      | cons a l => rw [h] at ih; rw [List.getLast?_cons_cons]; exact ih
theorem way_loop {n : Nat} {f g : Nat → Nat} (ok : Gok n f g) (X : D) : ∀ (k y : Nat) (p : List Nat) (fuel : Nat), y < n → n ≤ g y + k → k < fuel → p.length + k ≤ 90000 → mWhile wc1_way_up wb1_way_up fuel [.fz (.list (tab n fun i => (f i : Int))), .fz X, .own (.list (nls (p ++ [y])))] = some (.nx [.fz (.list (tab n fun i => (f i : Int))), .fz X, .own (.list (nls (p ++ path f k y)))])
  | k, y, p, 0, _, _, h, _ => by omega
  | 0, y, p, fuel + 1, hy, h, _, _ => by have := ok.gn y hy; omega
  | k + 1, y, p, fuel + 1, hy, h, hf, hz => by
    have gl := nls_last (p ++ [y]) y (by simp)
    have e1 : IE (mOp gIx (mVar 2) (mUn gNeg (mC (.int 1)))) [.fz (.list (tab n fun i => (f i : Int))), .fz X, .own (.list (nls (p ++ [y])))] (y : Int) := ie_own rfl (ie_neg ie_c) gl
    have e2 : IE (mOp gIx (mVar 0) (mOp gIx (mVar 2) (mUn gNeg (mC (.int 1))))) [.fz (.list (tab n fun i => (f i : Int))), .fz X, .own (.list (nls (p ++ [y])))] (f y : Int) := op_ev (r := (.int (y : Int), .fz)) (res := (.int (f y : Int), false)) (sv_fz (var_fz rfl)) (sv_fz e1) (tab_ix n (fun i => (f i : Int)) y hy)
    unfold path
    by_cases e : f y = y
    · rw [if_pos e]
      exact while_end (tstB (be_ne e2 e1) (by simp [e]))
    · rw [if_neg e]
      have hlt := (ok.up y hy).resolve_left e
      have ih := way_loop ok X k (f y) (p ++ [y]) fuel (ok.fn y hy) (by omega) (by omega) (by rw [List.length_append, List.length_singleton]; omega)
      rw [List.append_assoc p [y] (path f k (f y)), List.singleton_append] at ih
      refine while_go (tstB (be_ne e2 e1) (by rw [decide_eq_false (by omega)]; rfl)) ?_ ih
      rw [← nls_app (p ++ [y]) (f y)]
      exact app_ev (.int (f y : Int)) (nls (p ++ [y])) rfl (consI e2 nil_ev) rfl rfl (by rw [nls_len, List.length_append, List.length_singleton]; omega) rfl
theorem wayup_is {n : Nat} {f g : Nat → Nat} (ok : Gok n f g) (x : Nat) (hx : x < n) : m_way_up [.list (tab n fun i => (f i : Int)), .int (x : Int)] = some (.list (nls (path f n x)), true) := by
  have n40 := ok.n40
  have lp := way_loop ok (.int (x : Int)) n x [] 1000000 hx (by omega) (by omega) (by simp; omega)
  refine fn_of (o := .rt (.list (nls (path f n x)), .at 2) [.fz (.list (tab n fun i => (f i : Int))), .fz (.int (x : Int)), .own (.list (nls (path f n x)))]) rfl ?_ rfl
  refine seq_nx (ρ1 := [.fz (.list (tab n fun i => (f i : Int))), .fz (.int (x : Int)), .own (.list (nls [x]))]) (asg_new (lst_ev (rs := [(.int (x : Int), .fz)]) rfl rfl (by simp)) rfl) ?_
  exact seq_nx lp (ret_eq (var_own rfl))
theorem count_is (i : Nat) : m_is_count [.int (i : Int)] = some (.bool true, false) :=
  fn_of (o := .rt (.bool true, .fz) [.fz (.int (i : Int))]) rfl (ret_eq (be_and (u := true) (isi_ev (sv_fz (var_fz rfl)) (isi_int_int _)) (fun _ => be_and (u := true) (be_not (u := false) (isi_ev (sv_fz (var_fz rfl)) (isi_int_bool _))) (fun _ => (be_ge (ie_var rfl) ie_c).is (decide_eq_true (by omega))) (fun h => by cases h)) (fun h => by cases h))) rfl
theorem press_loop (Y X W : D) (n t : Nat) : ∀ (q : List Nat) (f : Nat → Nat) (s : Sl), NIo s → (∀ y ∈ q, y < n) → ∃ s', forL (mgN 5) lb1_find_top (nls q) [.fz Y, .fz X, .fz W, .fz (.int (t : Int)), .own (.list (tab n fun i => (f i : Int))), s] = some (.nx [.fz Y, .fz X, .fz W, .fz (.int (t : Int)), .own (.list (tab n fun i => ((if i ∈ q then t else f i : Nat) : Int))), s'])
  | [], f, s, hs, _ => ⟨s, by simp only [List.not_mem_nil, if_false]; rfl⟩
  | x :: q, f, s, hs, hq => by
    have xn := hq x List.mem_cons_self
    obtain ⟨s', ih⟩ := press_loop Y X W n t q (fun i => if i = x then t else f i) (.fz (.int (x : Int))) (NIo.fz _) fun y hy => hq y (List.mem_cons_of_mem _ hy)
    refine ⟨s', ?_⟩
    have st := tab_set n (fun i => (f i : Int)) x (t : Int)
    have sg : (tab n fun j => if j = x then (t : Int) else (f j : Int)) = tab n fun i => ((if i = x then t else f i : Nat) : Int) := tab_congr fun i _ => by
      by_cases e : i = x
      · rw [if_pos e, if_pos e]
      · rw [if_neg e, if_neg e]
    rw [sg] at st
    have ef : (tab n fun i => ((if i ∈ q then t else (if i = x then t else f i) : Nat) : Int)) = tab n fun i => ((if i ∈ x :: q then t else f i : Nat) : Int) := tab_congr fun i _ => by
      by_cases e : i ∈ q
      · rw [if_pos e, if_pos (List.mem_cons_of_mem _ e)]
      · rw [if_neg e]
        by_cases e2 : i = x
        · rw [if_pos e2, if_pos (by rw [e2]; exact List.mem_cons_self)]
        · rw [if_neg e2, if_neg (fun z => by rcases List.mem_cons.mp z with z | z; exact e2 z; exact e z)]
    rw [ef] at ih
    have ix : ixN (tab n fun i => (f i : Int)).length (x : Int) = some x := ixN_nat (by rw [tab_len]; exact xn)
    refine forL_cons (mgN_nio (i := 5) rfl hs) (asgG_fz (d := .int (t : Int)) (ie_var rfl) ((sub_ev (s := .own (.list (tab n fun i => (f i : Int)))) rfl rfl (ie_var rfl) ix).trans (by rw [st]; rfl))) ih
theorem findtop_is {n : Nat} {f g : Nat → Nat} (ok : Gok n f g) (x : Nat) (hx : x < n) : m_find_top [Gd n f g, .int (x : Int)] = some (.tuple [.int (topOf f n x : Int), Gd n (squ f n x) g, .list (nls (path f n x))], false) := by
  have wu := wayup_is ok x hx
  have wc := count_is x
  have pm := path_mem ok n x hx (by omega)
  obtain ⟨s5, lp⟩ := press_loop (Gd n f g) (.int (x : Int)) (.list (nls (path f n x))) n (topOf f n x) (path f n x) f .no NIo.no fun y hy => (pm y hy).1
  have gl := nls_last (path f n x) _ (path_last n x)
  have e0 : ∀ {ρ : Rho}, mOp gIx (mVar 0) (mC (.int 0)) (.fz (Gd n f g) :: ρ) = some ((.list (tab n fun i => (f i : Int)), .fz), .fz (Gd n f g) :: ρ) := fun {ρ} => op_ev (r := (.int 0, .fz)) (res := (.list (tab n fun i => (f i : Int)), false)) (sv_fz (var_fz rfl)) (sv_fz rfl) rfl
  have e1 : ∀ {ρ : Rho}, mOp gIx (mVar 0) (mC (.int 1)) (.fz (Gd n f g) :: ρ) = some ((.list (tab n fun i => (g i : Int)), .fz), .fz (Gd n f g) :: ρ) := fun {ρ} => op_ev (r := (.int 1, .fz)) (res := (.list (tab n fun i => (g i : Int)), false)) (sv_fz (var_fz rfl)) (sv_fz rfl) rfl
  have pu := nls_pure (path f n x)
  generalize hG : Gd n f g = G at *
  refine fn_of (o := .rt (.tuple [.int (topOf f n x : Int), Gd n (squ f n x) g, .list (nls (path f n x))], .fz) [.fz G, .fz (.int (x : Int)), .fz (.list (nls (path f n x))), .fz (.int (topOf f n x : Int)), .fz (.list (tab n fun i => (squ f n x i : Int))), s5]) rfl ?_ rfl
  refine seq_nx (ρ1 := [.fz G, .fz (.int (x : Int)), .no, .no, .no, .no]) (if_f (or_f (not_ev (v := true) (be_call (rs := [(.int (x : Int), .fz)]) rfl wc).t) (tstB (be_ge (ie_var rfl) (by rw [← hG]; exact len_G rfl)) (decide_eq_false (by omega)))) rfl) ?_
  refine seq_nx (ρ1 := [.fz G, .fz (.int (x : Int)), .own (.list (nls (path f n x))), .no, .no, .no]) (asg_new (call_pure (rs := [(.list (tab n fun i => (f i : Int)), .fz), (.int (x : Int), .fz)]) (cons_fz (sv_fz e0) (consI (ie_var rfl) nil_ev)) wu pu) rfl) ?_
  refine seq_nx (ρ1 := [.fz G, .fz (.int (x : Int)), .own (.list (nls (path f n x))), .fz (.int (topOf f n x : Int)), .no, .no]) (asgI (ie_own rfl (ie_neg ie_c) gl) rfl) ?_
  refine seq_nx (ρ1 := [.fz G, .fz (.int (x : Int)), .own (.list (nls (path f n x))), .fz (.int (topOf f n x : Int)), .own (.list (tab n fun i => (f i : Int))), .no]) (asg_new (cb_ev (rs := [(.list (tab n fun i => (f i : Int)), .fz)]) (res := (.list (tab n fun i => (f i : Int)), true)) (cons_fz (sv_fz e0) nil_ev) rfl) rfl) ?_
  refine seq_nx (for_eq (fol_own rfl) lp) ?_
  have ei : mTup (mCons (mVar 4) (mCons (mCB gList (mCons (mOp gIx (mVar 0) (mC (.int 1))) mNil)) mNil)) [.fz G, .fz (.int (x : Int)), .fz (.list (nls (path f n x))), .fz (.int (topOf f n x : Int)), .own (.list (tab n fun i => (squ f n x i : Int))), s5] = some ((Gd n (squ f n x) g, .fz), [.fz G, .fz (.int (x : Int)), .fz (.list (nls (path f n x))), .fz (.int (topOf f n x : Int)), .fz (.list (tab n fun i => (squ f n x i : Int))), s5]) :=
    tup_ev (rs := [(.list (tab n fun i => (squ f n x i : Int)), .at 4), (.list (tab n fun i => (g i : Int)), .fz)]) (cons_at (sv_at (var_own rfl)) (cons_fz (sv_new (cb_ev (rs := [(.list (tab n fun i => (g i : Int)), .fz)]) (res := (.list (tab n fun i => (g i : Int)), true)) (cons_fz (sv_fz e1) nil_ev) rfl)) nil_ev) rfl) rfl (by simp)
  exact ret_eq (tup_ev (rs := [(.int (topOf f n x : Int), .fz), (Gd n (squ f n x) g, .fz), (.list (nls (path f n x)), .fz)]) (cons_fz (sv_fz (var_fz rfl)) (cons_fz (sv_fz ei) (cons_fz (sv_fz (var_fz rfl)) nil_ev))) rfl (by simp))
def lnkF (f : Nat → Nat) (a b : Nat) (j : Nat) : Nat := if j = b then a else f j
def lnkG (g : Nat → Nat) (a b : Nat) (j : Nat) : Nat := if g a = g b ∧ j = a then g a + 1 else g j
structure Lk (n : Nat) (f g : Nat → Nat) (a b : Nat) : Prop where
  ok : Gok n f g
  an : a < n
  bn : b < n
  ne : a ≠ b
  fa : f a = a
  fb : f b = b
  le : g b ≤ g a
  sz : g a = g b → g a + 1 < n
theorem lnkG_ge (g : Nat → Nat) (a b j : Nat) : g j ≤ lnkG g a b j := by
  unfold lnkG; split
  · rename_i h; rw [h.2]; omega
  · omega
theorem lnkG_le (g : Nat → Nat) (a b j : Nat) : lnkG g a b j ≤ g j + 1 := by
  unfold lnkG; split
  · rename_i h; rw [h.2]; omega
  · omega
theorem lnkG_ne {g : Nat → Nat} {a b j : Nat} (h : j ≠ a) : lnkG g a b j = g j := if_neg fun z => h z.2
theorem lnkF_ne {f : Nat → Nat} {a b j : Nat} (h : j ≠ b) : lnkF f a b j = f j := if_neg h
theorem lnkF_b (f : Nat → Nat) (a b : Nat) : lnkF f a b b = a := if_pos rfl
theorem Lk.lt {n : Nat} {f g : Nat → Nat} {a b : Nat} (k : Lk n f g a b) : g b < lnkG g a b a := by
  have := k.le
  unfold lnkG
  by_cases e : g a = g b
  · rw [if_pos ⟨e, rfl⟩]; omega
  · rw [if_neg (fun z => e z.1)]; omega
theorem Lk.gok {n : Nat} {f g : Nat → Nat} {a b : Nat} (k : Lk n f g a b) : Gok n (lnkF f a b) (lnkG g a b) := by
  refine ⟨k.ok.n40, fun i hi => ?_, fun i hi => ?_, fun i hi => ?_⟩
  · by_cases e : i = b
    · rw [e, lnkF_b]; exact k.an
    · rw [lnkF_ne e]; exact k.ok.fn i hi
  · unfold lnkG
    split
    · rename_i h; exact k.sz h.1
    · exact k.ok.gn i hi
  · by_cases e : i = b
    · subst e
      rw [lnkF_b, lnkG_ne k.ne.symm]
      exact .inr k.lt
    · rw [lnkF_ne e]
      by_cases e2 : f i = i
      · exact .inl e2
      · have := (k.ok.up i hi).resolve_left e2
        have ia : i ≠ a := fun z => e2 (by rw [z]; exact k.fa)
        rw [lnkG_ne ia]
        exact .inr (Nat.lt_of_lt_of_le this (lnkG_ge ..))
theorem Lk.cred {n : Nat} {f g : Nat → Nat} {a b : Nat} (k : Lk n f g a b) (i : Nat) (hi : i < n) : crd (slw n) (lnkF f a b) (lnkG g a b) i ≤ crd (slw n) f g i + (if i = a then (slw n : Int) else 0) := by
  have ok' := k.gok
  have n40 := k.ok.n40
  by_cases ea : i = a
  · subst ea
    rw [if_pos rfl]
    have h1 : crd (slw n) (lnkF f i b) (lnkG g i b) i = (slw n : Int) * (lnkG g i b i : Int) := if_pos (.inr (by rw [lnkF_ne k.ne]; exact k.fa))
    have h2 : crd (slw n) f g i = (slw n : Int) * (g i : Int) := if_pos (.inr k.fa)
    have h3 := lnkG_le g i b i
    have h4 : (slw n : Int) * (lnkG g i b i : Int) ≤ (slw n : Int) * ((g i : Int) + 1) := Int.mul_le_mul_of_nonneg_left (by omega) (by omega)
    rw [Int.mul_add, Int.mul_one] at h4
    omega
  · rw [if_neg ea, Int.add_zero]
    by_cases eb : i = b
    · subst eb
      have h2 : crd (slw n) f g i = (slw n : Int) * (g i : Int) := if_pos (.inr k.fb)
      by_cases e0 : g i = 0
      · have h1 : crd (slw n) (lnkF f a i) (lnkG g a i) i = (slw n : Int) * (lnkG g a i i : Int) := if_pos (.inl (by rw [lnkG_ne ea]; exact e0))
        rw [h1, h2, lnkG_ne ea]; exact Int.le_refl _
      · have := (crd_nn ok' hi).2 (by rw [lnkF_b]; exact k.ne) (by rw [lnkG_ne ea]; omega)
        rw [lnkG_ne ea] at this
        omega
    · by_cases e : g i = 0 ∨ f i = i
      · have h1 : crd (slw n) (lnkF f a b) (lnkG g a b) i = (slw n : Int) * (lnkG g a b i : Int) := if_pos (by rw [lnkG_ne ea, lnkF_ne eb]; exact e)
        have h2 : crd (slw n) f g i = (slw n : Int) * (g i : Int) := if_pos e
        rw [h1, h2, lnkG_ne ea]; exact Int.le_refl _
      · have e1 : f i ≠ i := fun z => e (.inr z)
        have e2 : 1 ≤ g i := by have : ¬ g i = 0 := fun z => e (.inl z); omega
        have up := (k.ok.up i hi).resolve_left e1
        have gn' := ok'.gn (f i) (k.ok.fn i hi)
        rw [crd_cc e1 e2, crd_cc (by rw [lnkF_ne eb]; exact e1) (by rw [lnkG_ne ea]; exact e2), lnkG_ne ea, lnkF_ne eb]
        exact (cc_le e2 up (lnkG_ge ..) (by omega)).1
theorem sum_more {h h' : Nat → Int} {a : Nat} {s : Int} (hs : 0 ≤ s) : ∀ n, (∀ i, i < n → h' i ≤ h i + (if i = a then s else 0)) → ((List.range n).map h').sum ≤ ((List.range n).map h).sum + (if a < n then s else 0)
  | 0, _ => by simp
  | n + 1, hh => by
    have ih := sum_more hs n fun i hi => hh i (by omega)
    have hn := hh n (by omega)
    rw [List.range_succ, List.map_append, List.map_append, List.sum_append, List.sum_append]
    simp only [List.map_cons, List.map_nil, List.sum_cons, List.sum_nil, Int.add_zero]
    by_cases e : n = a
    · subst e
      rw [if_pos rfl] at hn
      rw [if_neg (by omega)] at ih
      rw [if_pos (by omega)]
      omega
    · rw [if_neg e] at hn
      by_cases e2 : a < n
      · rw [if_pos e2] at ih; rw [if_pos (by omega)]; omega
      · rw [if_neg e2] at ih; rw [if_neg (by omega)]; omega
theorem Lk.sum {n : Nat} {f g : Nat → Nat} {a b : Nat} (k : Lk n f g a b) : ((List.range n).map (crd (slw n) (lnkF f a b) (lnkG g a b))).sum ≤ ((List.range n).map (crd (slw n) f g)).sum + (slw n : Int) := by
  have := sum_more (h := crd (slw n) f g) (h' := crd (slw n) (lnkF f a b) (lnkG g a b)) (a := a) (s := (slw n : Int)) (by omega) n fun i hi => k.cred i hi
  rw [if_pos k.an] at this
  exact this
theorem topOf_top {f : Nat → Nat} {x : Nat} (h : f x = x) : ∀ k, topOf f k x = x
  | 0 => rfl
  | k + 1 => if_pos h
theorem Lk.top {n : Nat} {f g : Nat → Nat} {a b : Nat} (L : Lk n f g a b) : ∀ (k x k' : Nat), x < n → n ≤ g x + k → n ≤ lnkG g a b x + k' → topOf (lnkF f a b) k' x = if topOf f k x = b then a else topOf f k x
  | 0, x, k', hx, h, _ => by have := L.ok.gn x hx; omega
  | k + 1, x, k', hx, h, h' => by
    have gn' := L.gok.gn x hx
    obtain ⟨j, rfl⟩ : ∃ j, k' = j + 1 := ⟨k' - 1, by omega⟩
    have fa' : lnkF f a b a = a := by rw [lnkF_ne L.ne]; exact L.fa
    by_cases e : f x = x
    · rw [topOf_top e]
      by_cases eb : x = b
      · subst eb
        rw [if_pos rfl]
        have : topOf (lnkF f a x) (j + 1) x = topOf (lnkF f a x) j a := by
          show (if lnkF f a x x = x then x else topOf (lnkF f a x) j (lnkF f a x x)) = _
          rw [lnkF_b, if_neg L.ne]
        rw [this, topOf_top fa']
      · rw [if_neg eb, topOf_top (by rw [lnkF_ne eb]; exact e)]
    · have eb : x ≠ b := fun z => e (by rw [z]; exact L.fb)
      have up := (L.ok.up x hx).resolve_left e
      have xa : x ≠ a := fun z => e (by rw [z]; exact L.fa)
      have e1 : topOf f (k + 1) x = topOf f k (f x) := if_neg e
      have e2 : topOf (lnkF f a b) (j + 1) x = topOf (lnkF f a b) j (f x) := by
        show (if lnkF f a b x = x then x else topOf (lnkF f a b) j (lnkF f a b x)) = _
        rw [lnkF_ne eb, if_neg e]
      rw [e1, e2]
      refine Lk.top L k (f x) j (L.ok.fn x hx) (by omega) ?_
      have := lnkG_ge g a b (f x)
      rw [lnkG_ne xa] at h'
      omega
def cntT (f : Nat → Nat) (n h : Nat) : Nat := (List.range n).countP fun x => decide (topOf f n x = h)
theorem countP_or {p q : Nat → Bool} (h : ∀ x, p x = true → q x = false) : ∀ l : List Nat, l.countP (fun x => p x || q x) = l.countP p + l.countP q
  | [] => rfl
  | x :: l => by
    rw [List.countP_cons, List.countP_cons, List.countP_cons, countP_or h l]
    have := h x
    cases hp : p x <;> cases hq : q x <;> simp_all <;> omega
theorem Lk.cnt {n : Nat} {f g : Nat → Nat} {a b : Nat} (L : Lk n f g a b) (hs : ∀ h, h < n → f h = h → g h < cntT f n h) (h : Nat) (hn : h < n) (fh : lnkF f a b h = h) : lnkG g a b h < cntT (lnkF f a b) n h := by
  have hb : h ≠ b := fun z => by rw [z, lnkF_b] at fh; exact L.ne fh
  have f0 : f h = h := by rw [lnkF_ne hb] at fh; exact fh
  have tp : ∀ x, x < n → topOf (lnkF f a b) n x = if topOf f n x = b then a else topOf f n x := fun x hx => L.top n x n hx (by omega) (by omega)
  by_cases ha : h = a
  · subst ha
    have e : cntT (lnkF f h b) n h = cntT f n h + cntT f n b := by
      unfold cntT
      rw [← countP_or (p := fun x => decide (topOf f n x = h)) (q := fun x => decide (topOf f n x = b)) (fun x z => by
        have z' : topOf f n x = h := by simpa using z
        exact decide_eq_false (by rw [z']; exact L.ne))]
      refine List.countP_congr fun x hx => ?_
      rw [tp x (by simpa using hx)]
      by_cases e1 : topOf f n x = b
      · simp [e1]
      · simp [e1]
    have h1 := hs h hn f0
    have h2 := hs b L.bn L.fb
    have h3 := lnkG_le g h b h
    rw [e]
    omega
  · have e : cntT (lnkF f a b) n h = cntT f n h := by
      unfold cntT
      refine List.countP_congr fun x hx => ?_
      rw [tp x (by simpa using hx)]
      by_cases e1 : topOf f n x = b
      · rw [if_pos e1, e1]
        simp [Ne.symm ha, Ne.symm hb]
      · rw [if_neg e1]
    rw [e, lnkG_ne ha]
    exact hs h hn f0
theorem augS_ev {i : Nat} {k a : PM} {f : Int → Int → Int} {ρ : Rho} {ds : List D} {j : Nat} {x z : Int} (h0 : ρ[i]? = some (.own (.list ds))) (hk : IE k ρ (j : Int)) (hx : ds[j]? = some (.int x)) (ha : IE a ρ z) : mAugS' i k a f ρ = some (.nx (ρ.set i (.own (.list (ds.set j (.int (f x z))))))) := by
  have hl : j < ds.length := (List.getElem?_eq_some_iff.mp hx).1
  unfold mAugS'
  rw [h0]
  dsimp only [ownL, Option.bind_some]
  rw [sv_fz hk]
  dsimp only [asI, Option.bind_some]
  rw [h0]
  dsimp only [Option.bind_some]
  rw [if_pos (by omega), Int.toNat_natCast, hx]
  dsimp only
  rw [sv_fz ha]
  dsimp only [asI, Option.bind_some]
  rw [h0]
  dsimp only [Option.bind_some]
  rw [if_pos hl]
  unfold Mir.putAt
  rw [h0]; rfl
def win (g : Nat → Nat) (x y : Nat) : Nat := if g x < g y then y else x
def los (g : Nat → Nat) (x y : Nat) : Nat := if g x < g y then x else y
theorem tabF (n : Nat) (f : Nat → Nat) (a b : Nat) : (tab n fun i => (f i : Int)).set b (.int (a : Int)) = tab n fun i => (lnkF f a b i : Int) := by
  rw [tab_set]
  refine tab_congr fun i _ => ?_
  unfold lnkF
  split <;> rfl
theorem tabG (n : Nat) (g : Nat → Nat) (a b : Nat) (h : g a = g b) : (tab n fun i => (g i : Int)).set a (.int ((g a : Int) + 1)) = tab n fun i => (lnkG g a b i : Int) := by
  rw [tab_set]
  refine tab_congr fun i _ => ?_
  unfold lnkG
  by_cases e : i = a
  · rw [if_pos e, if_pos ⟨h, e⟩]; rfl
  · rw [if_neg e, if_neg (fun z => e z.2)]
theorem lnkG_id (n : Nat) (g : Nat → Nat) (a b : Nat) (h : g a ≠ g b) : (tab n fun i => (lnkG g a b i : Int)) = tab n fun i => (g i : Int) := tab_congr fun i _ => by rw [show lnkG g a b i = g i from if_neg fun z => h z.1]
theorem from_loop {n : Nat} {f g : Nat → Nat} (ok : Gok n f g) (X : D) : ∀ (m k y : Nat) (s : Sl), NIo s → y < n → n ≤ g y + m → ∃ ρ', forL (mgN 3) lb1_top_from (nls (List.range' k m)) [.fz (.list (tab n fun i => (f i : Int))), .fz X, .fz (.int (y : Int)), s] = some (.rt (.int (topOf f m y : Int), .fz) ρ')
  | 0, k, y, s, _, hy, h => by have := ok.gn y hy; omega
  | m + 1, k, y, s, hs, hy, h => by
    rw [List.range'_succ]
    have ea : ∀ {s3 : Sl}, IE (mOp gIx (mVar 0) (mVar 2)) [.fz (.list (tab n fun i => (f i : Int))), .fz X, .fz (.int (y : Int)), s3] (f y : Int) := fun {s3} => op_ev (r := (.int (y : Int), .fz)) (res := (.int (f y : Int), false)) (sv_fz (var_fz rfl)) (sv_fz (var_fz rfl)) (tab_ix n _ y hy)
    have t1 : mTest (mOp gLt (mVar 2) (mC (.int 0))) [.fz (.list (tab n fun i => (f i : Int))), .fz X, .fz (.int (y : Int)), .fz (.int (k : Int))] = some (false, [.fz (.list (tab n fun i => (f i : Int))), .fz X, .fz (.int (y : Int)), .fz (.int (k : Int))]) := tstB (be_lt (ie_var rfl) ie_c) (decide_eq_false (by omega))
    have t2 : mTest (mOp gGe (mVar 2) (mCB gLen (mCons (mVar 0) mNil))) [.fz (.list (tab n fun i => (f i : Int))), .fz X, .fz (.int (y : Int)), .fz (.int (k : Int))] = some (false, [.fz (.list (tab n fun i => (f i : Int))), .fz X, .fz (.int (y : Int)), .fz (.int (k : Int))]) := tstB (be_ge (ie_var rfl) (cb_ev (rs := [(.list (tab n fun i => (f i : Int)), .fz)]) (res := (.int (n : Int), false)) (cons_fz (sv_fz (var_fz rfl)) nil_ev) (by show gLen [.list (tab n fun i => (f i : Int))] = _; rw [gLen_any, tab_len]))) (decide_eq_false (by omega))
    by_cases e : f y = y
    · refine ⟨[.fz (.list (tab n fun i => (f i : Int))), .fz X, .fz (.int (y : Int)), .fz (.int (k : Int))], forL_rt (mgN_nio (i := 3) rfl hs) ?_⟩
      rw [topOf_top e]
      exact seq_nx (if_f (or_f t1 t2) rfl) (seq_rt (if_t (tEq ea (ie_var rfl) (by omega)) (ret_eq (var_fz rfl))))
    · have up := (ok.up y hy).resolve_left e
      obtain ⟨ρ', ih⟩ := from_loop ok X m (k + 1) (f y) (.fz (.int (k : Int))) (NIo.fz _) (ok.fn y hy) (by omega)
      rw [show topOf f (m + 1) y = topOf f m (f y) from if_neg e]
      exact ⟨ρ', forL_cons (mgN_nio (i := 3) rfl hs) (seq_nx (if_f (or_f t1 t2) rfl) (seq_nx (if_f (tNe ea (ie_var rfl) (by omega)) rfl) (asgI ea rfl))) ih⟩
theorem topfrom_is {n : Nat} {f g : Nat → Nat} (ok : Gok n f g) (x : Nat) (hx : x < n) : m_top_from [.list (tab n fun i => (f i : Int)), .int (x : Int)] = some (.int (topOf f n x : Int), false) := by
  have n40 := ok.n40
  obtain ⟨ρ', lp⟩ := from_loop ok (.int (x : Int)) n 0 x .no NIo.no hx (by omega)
  rw [← List.range_eq_range'] at lp
  refine fn_of (o := .rt (.int (topOf f n x : Int), .fz) ρ') rfl ?_ rfl
  refine seq_nx (ρ1 := [.fz (.list (tab n fun i => (f i : Int))), .fz (.int (x : Int)), .fz (.int (x : Int)), .no]) (asgI (ie_var rfl) rfl) ?_
  refine seq_rt (for_eq (rg1_eq (j := (n : Int)) (k := .fz) (consI (cb_ev (rs := [(.list (tab n fun i => (f i : Int)), .fz)]) (res := (.int (n : Int), false)) (cons_fz (sv_fz (var_fz rfl)) nil_ev) (by show gLen [.list (tab n fun i => (f i : Int))] = _; rw [gLen_any, tab_len])) nil_ev) ⟨by omega, by omega⟩) (by rw [Int.toNat_natCast, rngD_map]; exact lp))
theorem flat_tab (n : Nat) (v : Nat → Int) : (tab n v).all flatD = true := by
  unfold tab
  rw [List.all_map]
  exact List.all_eq_true.mpr fun i _ => rfl
theorem none_tab (n : Nat) (v : Nat → Int) : gIn .none (.list (tab n v)) = some (.bool false, false) := by
  show (if flatD .none = true ∧ (tab n v).all flatD = true then some (PyData.bool (inD .none (tab n v)), false) else none) = _
  rw [if_pos ⟨rfl, flat_tab n v⟩]
  have : inD .none (tab n v) = false := by
    unfold inD tab
    rw [List.any_map]
    exact List.any_eq_false.mpr fun i _ => by simp [PyData.eqv]
  rw [this]
theorem count_tab (n : Nat) (v : Nat → Nat) (h : Nat) : gCount (.list (tab n fun i => (v i : Int))) [.int (h : Int)] = some (.int (((List.range n).countP fun i => decide (v i = h) : Nat) : Int), false) := by
  rw [tab_ints, gCount_ints, List.countP_map]
  congr 4
  refine List.countP_congr fun i _ => ?_
  simp
  omega
abbrev fst4 (n : Nat) (f g : Nat → Nat) (s : Sl) : Rho := [.fz (.list (tab n fun i => (f i : Int))), .fz (.list (tab n fun i => (g i : Int))), .own (.list (tab n fun i => (topOf f n i : Int))), s]
theorem form_loop {n : Nat} {f g : Nat → Nat} (ok : Gok n f g) (hs : ∀ h, h < n → f h = h → g h < cntT f n h) : ∀ (m k : Nat) (s : Sl), NIo s → k + m = n → ∃ s', forL (mgN 3) lb1_groups_in_form (nls (List.range' k m)) (fst4 n f g s) = some (.nx (fst4 n f g s'))
  | 0, k, s, _, _ => ⟨s, rfl⟩
  | m + 1, k, s, hn, h => by
    obtain ⟨s', ih⟩ := form_loop ok hs m (k + 1) (.fz (.int (k : Int))) (NIo.fz _) (by omega)
    rw [List.range'_succ]
    refine ⟨s', forL_cons (mgN_nio (i := 3) rfl hn) ?_ ih⟩
    have kn : k < n := by omega
    have ea : IE (mOp gIx (mVar 0) (mVar 3)) (fst4 n f g (.fz (.int (k : Int)))) (f k : Int) := op_ev (r := (.int (k : Int), .fz)) (res := (.int (f k : Int), false)) (sv_fz (var_fz rfl)) (sv_fz (var_fz rfl)) (tab_ix n _ k kn)
    have eg : IE (mOp gIx (mVar 1) (mVar 3)) (fst4 n f g (.fz (.int (k : Int)))) (g k : Int) := op_ev (r := (.int (k : Int), .fz)) (res := (.int (g k : Int), false)) (sv_fz (var_fz rfl)) (sv_fz (var_fz rfl)) (tab_ix n _ k kn)
    have eo : IE (mOp gIx (mVar 1) (mOp gIx (mVar 0) (mVar 3))) (fst4 n f g (.fz (.int (k : Int)))) (g (f k) : Int) := op_ev (r := (.int (f k : Int), .fz)) (res := (.int (g (f k) : Int), false)) (sv_fz (var_fz rfl)) (sv_fz ea) (tab_ix n _ (f k) (ok.fn k kn))
    refine seq_nx (if_f (tstB (be_lt eg ie_c) (decide_eq_false (by omega))) rfl) ?_
    by_cases e : f k = k
    · have hc := hs k kn e
      have ct := count_tab n (fun i => topOf f n i) k
      have ec : IE (mBM gCount (mVar 2) (mCons (mVar 3) mNil)) (fst4 n f g (.fz (.int (k : Int)))) (cntT f n k : Int) := by
        unfold IE
        show (mBM gCount (mVar 2) (mCons (mVar 3) mNil)) _ = _
        simp only [mBM, sv, mVar, mCons, mNil, mC, refr, List.map_cons, List.map_nil, List.getElem?_cons_zero, List.getElem?_cons_succ, Option.bind_some, Option.map_some, ct, resK_f]
        rfl
      exact if_t (tEq ea (ie_var rfl) (by omega)) (if_f (tstB (be_ge eg ec) (decide_eq_false (by omega))) rfl)
    · have up := (ok.up k kn).resolve_left e
      exact if_f (tNe ea (ie_var rfl) (by omega)) (if_f (tstB (be_ge eg eo) (decide_eq_false (by omega))) rfl)
theorem form_is {n : Nat} {f g : Nat → Nat} (ok : Gok n f g) (hs : ∀ h, h < n → f h = h → g h < cntT f n h) : m_groups_in_form [.list (tab n fun i => (f i : Int)), .list (tab n fun i => (g i : Int))] = some (.bool true, false) := by
  have n40 := ok.n40
  obtain ⟨s', lp⟩ := form_loop ok hs n 0 .no NIo.no (by omega)
  rw [← List.range_eq_range'] at lp
  have c4 : compL mYes ce1_groups_in_form [.fz (.list (tab n fun i => (f i : Int)))] (nls (List.range n)) = some (tab n fun i => (topOf f n i : Int)) := compL_map (f := fun i : Nat => PyData.int (i : Int)) (List.range n) fun y hy => ⟨[.fz (.int (y : Int)), .fz (.list (tab n fun i => (f i : Int)))], sv_fz (ie_call (rs := [(.list (tab n fun i => (f i : Int)), .fz), (.int (y : Int), .fz)]) rfl (topfrom_is ok y (by simpa using hy)))⟩
  have ln : ∀ {s2 s3 : Sl}, IE (mCB gLen (mCons (mVar 0) mNil)) [.fz (.list (tab n fun i => (f i : Int))), .fz (.list (tab n fun i => (g i : Int))), s2, s3] (n : Int) := fun {s2 s3} => cb_ev (rs := [(.list (tab n fun i => (f i : Int)), .fz)]) (res := (.int (n : Int), false)) (cons_fz (sv_fz (var_fz rfl)) nil_ev) (by show gLen [.list (tab n fun i => (f i : Int))] = _; rw [gLen_any, tab_len])
  refine fn_of (o := .rt (.bool true, .fz) (fst4 n f g s')) rfl ?_ rfl
  refine seq_nx (ρ1 := fst4 n f g .no) (asg_new (lc_ev (rg1_eq (j := (n : Int)) (k := .fz) (consI ln nil_ev) ⟨by omega, by omega⟩) (by rw [Int.toNat_natCast, rngD_map]; exact c4) (by rw [tab_len]; omega)) rfl) ?_
  have t0 : mTest (mOp gIn (mC .none) (mVar 2)) (fst4 n f g .no) = some (false, fst4 n f g .no) := by
    refine test_ev (k := .fz) ?_
    unfold mOp
    rw [sv_fz (show mC PyData.none (fst4 n f g .no) = some ((.none, .fz), fst4 n f g .no) from rfl), Option.bind_some]
    dsimp only
    rw [sv_at (show mVar 2 (fst4 n f g .no) = some ((.list (tab n fun i => (topOf f n i : Int)), .at 2), fst4 n f g .no) from var_own rfl), Option.bind_some]
    show ((gIn .none (.list (tab n fun i => (topOf f n i : Int)))).map fun res => (resK res, fst4 n f g .no)) = _
    rw [none_tab]; rfl
  refine seq_nx (if_f t0 rfl) ?_
  exact seq_nx (for_eq (rg1_eq (j := (n : Int)) (k := .fz) (consI ln nil_ev) ⟨by omega, by omega⟩) (by rw [Int.toNat_natCast, rngD_map]; exact lp)) (ret_eq rfl)
theorem two_tops {n : Nat} {f g : Nat → Nat} (hs : ∀ h, h < n → f h = h → g h < cntT f n h) {i j : Nat} (hi : i < n) (hj : j < n) (fi : f i = i) (fj : f j = j) (ne : i ≠ j) : g i + g j + 2 ≤ n := by
  have h1 := hs i hi fi
  have h2 := hs j hj fj
  have e := countP_or (p := fun x => decide (topOf f n x = i)) (q := fun x => decide (topOf f n x = j)) (fun x z => by
    have z' : topOf f n x = i := by simpa using z
    exact decide_eq_false (by rw [z']; exact ne)) (List.range n)
  have l := List.countP_le_length (l := List.range n) (p := fun x => decide (topOf f n x = i) || decide (topOf f n x = j))
  rw [e, List.length_range] at l
  unfold cntT at h1 h2
  omega
theorem lk_of {n : Nat} {f g : Nat → Nat} (ok : Gok n f g) {x y : Nat} (hx : x < n) (hy : y < n) (fx : f x = x) (fy : f y = y) (ne : x ≠ y) (h2 : g x + g y + 2 ≤ n) : Lk n f g (win g x y) (los g x y) := by
  unfold win los
  by_cases h : g x < g y
  · rw [if_pos h, if_pos h]
    exact ⟨ok, hy, hx, ne.symm, fy, fx, by omega, fun z => by omega⟩
  · rw [if_neg h, if_neg h]
    exact ⟨ok, hx, hy, ne, fx, fy, by omega, fun z => by omega⟩
theorem squ_top {n : Nat} {f g : Nat → Nat} (ok : Gok n f g) {x t : Nat} (hx : x < n) (h : f t = t) : squ f n x t = t := by
  unfold squ
  by_cases e : t ∈ path f n x
  · rw [if_pos e]; exact ((path_mem ok n x hx (by omega) t e).2.2.1 h).symm
  · rw [if_neg e]; exact h
theorem top_squ {n : Nat} {f g : Nat → Nat} (ok : Gok n f g) {x t : Nat} (hx : x < n) (h : squ f n x t = t) : f t = t := by
  unfold squ at h
  by_cases e : t ∈ path f n x
  · rw [if_pos e] at h; rw [← h]; exact (topOf_is ok n x hx (by omega)).1
  · rw [if_neg e] at h; exact h
theorem mod_nat (c : Int) (n : Nat) (h : 0 < n) : ∃ a : Nat, c % (n : Int) = (a : Int) ∧ a < n := by
  have h1 := Int.emod_nonneg c (show (n : Int) ≠ 0 by omega)
  have h2 := Int.emod_lt_of_pos c (show (0 : Int) < (n : Int) by omega)
  exact ⟨(c % (n : Int)).toNat, by omega, by omega⟩
theorem topOf_fuel {n : Nat} {f g : Nat → Nat} (ok : Gok n f g) : ∀ (k y k' : Nat), y < n → n ≤ g y + k → n ≤ g y + k' → topOf f k' y = topOf f k y
  | 0, y, k', hy, h, _ => by have := ok.gn y hy; omega
  | k + 1, y, k', hy, h, h' => by
    have gn := ok.gn y hy
    obtain ⟨j, rfl⟩ : ∃ j, k' = j + 1 := ⟨k' - 1, by omega⟩
    by_cases e : f y = y
    · rw [topOf_top e, topOf_top e]
    · have up := (ok.up y hy).resolve_left e
      rw [show topOf f (k + 1) y = topOf f k (f y) from if_neg e, show topOf f (j + 1) y = topOf f j (f y) from if_neg e]
      exact topOf_fuel ok k (f y) j (ok.fn y hy) (by omega) (by omega)
theorem path_top {n : Nat} {f g : Nat → Nat} (ok : Gok n f g) : ∀ (k x : Nat), x < n → n ≤ g x + k → ∀ y ∈ path f k x, ∀ k', n ≤ g y + k' → topOf f k' y = topOf f k x
  | 0, x, hx, h => by have := ok.gn x hx; omega
  | k + 1, x, hx, h => fun y hy k' h' => by
    by_cases e : f x = x
    · rw [show path f (k + 1) x = [x] from if_pos e] at hy
      obtain rfl := List.mem_singleton.mp hy
      exact topOf_fuel ok (k + 1) y k' hx h h'
    · rw [show path f (k + 1) x = x :: path f k (f x) from if_neg e] at hy
      have up := (ok.up x hx).resolve_left e
      rcases List.mem_cons.mp hy with rfl | hy
      · exact topOf_fuel ok (k + 1) y k' hx h h'
      · rw [show topOf f (k + 1) x = topOf f k (f x) from if_neg e]
        exact path_top ok k (f x) (ok.fn x hx) (by omega) y hy k' h'
theorem topOf_squ {n : Nat} {f g : Nat → Nat} (ok : Gok n f g) {x : Nat} (hx : x < n) : ∀ (m y : Nat), y < n → n ≤ g y + m → topOf (squ f n x) m y = topOf f m y
  | 0, y, hy, h => by have := ok.gn y hy; omega
  | m + 1, y, hy, h => by
    have tx := topOf_is ok n x hx (by omega)
    have st : squ f n x (topOf f n x) = topOf f n x := squ_top ok hx tx.1
    by_cases hp : y ∈ path f n x
    · have e1 : squ f n x y = topOf f n x := if_pos hp
      have e2 := path_top ok n x hx (by omega) y hp (m + 1) h
      by_cases e : squ f n x y = y
      · rw [topOf_top e, e2, ← e1, e]
      · rw [show topOf (squ f n x) (m + 1) y = topOf (squ f n x) m (squ f n x y) from if_neg e, e1, topOf_top st, e2]
    · have e1 : squ f n x y = f y := if_neg hp
      by_cases e : f y = y
      · rw [topOf_top e, topOf_top (e1.trans e)]
      · have up := (ok.up y hy).resolve_left e
        rw [show topOf f (m + 1) y = topOf f m (f y) from if_neg e, show topOf (squ f n x) (m + 1) y = topOf (squ f n x) m (squ f n x y) from if_neg (by rw [e1]; exact e), e1]
        exact topOf_squ ok hx m (f y) (ok.fn y hy) (by omega)
theorem siz_squ {n : Nat} {f g : Nat → Nat} (ok : Gok n f g) {x : Nat} (hx : x < n) (hs : ∀ h, h < n → f h = h → g h < cntT f n h) : ∀ h, h < n → squ f n x h = h → g h < cntT (squ f n x) n h := fun h hn fh => by
  have := hs h hn (top_squ ok hx fh)
  have e : cntT (squ f n x) n h = cntT f n h := by
    unfold cntT
    refine List.countP_congr fun y hy => ?_
    rw [topOf_squ ok hx n y (by simpa using hy) (by omega)]
  rw [e]; exact this
theorem link_is {n : Nat} {f g : Nat → Nat} (x y : Nat) (hx : x < n) (hy : y < n) (n40 : n ≤ 60) : m_link_tops [Gd n f g, .int (x : Int), .int (y : Int)] = some (Gd n (lnkF f (win g x y) (los g x y)) (lnkG g (win g x y) (los g x y)), false) := by
  generalize hG : Gd n f g = G
  have e0 : ∀ {ρ : Rho}, mOp gIx (mVar 0) (mC (.int 0)) (.fz G :: ρ) = some ((.list (tab n fun i => (f i : Int)), .fz), .fz G :: ρ) := fun {ρ} => op_ev (r := (.int 0, .fz)) (res := (.list (tab n fun i => (f i : Int)), false)) (sv_fz (var_fz rfl)) (sv_fz rfl) (by rw [← hG]; rfl)
  have e1 : ∀ {ρ : Rho}, mOp gIx (mVar 0) (mC (.int 1)) (.fz G :: ρ) = some ((.list (tab n fun i => (g i : Int)), .fz), .fz G :: ρ) := fun {ρ} => op_ev (r := (.int 1, .fz)) (res := (.list (tab n fun i => (g i : Int)), false)) (sv_fz (var_fz rfl)) (sv_fz rfl) (by rw [← hG]; rfl)
  have fin : ∀ F' G' : Nat → Nat, mIfS (mTest (mOp gLt (mOp gIx (mVar 4) (mVar 1)) (mOp gIx (mVar 4) (mVar 2)))) (mAsgG (mVar 2) (mgSub 3 (mVar 1))) (mSeq (mAsgG (mVar 1) (mgSub 3 (mVar 2))) (mIfS (mTest (mOp gEq (mOp gIx (mVar 4) (mVar 1)) (mOp gIx (mVar 4) (mVar 2)))) (mAugS' 4 (mVar 1) (mC (.int 1)) (fun i j => i + j)) mPass)) [.fz G, .fz (.int (x : Int)), .fz (.int (y : Int)), .own (.list (tab n fun i => (f i : Int))), .own (.list (tab n fun i => (g i : Int)))] = some (.nx [.fz G, .fz (.int (x : Int)), .fz (.int (y : Int)), .own (.list (tab n fun i => (F' i : Int))), .own (.list (tab n fun i => (G' i : Int)))]) → m_link_tops [G, .int (x : Int), .int (y : Int)] = some (Gd n F' G', false) := fun F' G' h => by
    refine fn_of (o := .rt (Gd n F' G', .fz) [.fz G, .fz (.int (x : Int)), .fz (.int (y : Int)), .fz (.list (tab n fun i => (F' i : Int))), .fz (.list (tab n fun i => (G' i : Int)))]) rfl ?_ rfl
    refine seq_nx (ρ1 := [.fz G, .fz (.int (x : Int)), .fz (.int (y : Int)), .own (.list (tab n fun i => (f i : Int))), .no]) (asg_new (cb_ev (rs := [(.list (tab n fun i => (f i : Int)), .fz)]) (res := (.list (tab n fun i => (f i : Int)), true)) (cons_fz (sv_fz e0) nil_ev) rfl) rfl) ?_
    refine seq_nx (ρ1 := [.fz G, .fz (.int (x : Int)), .fz (.int (y : Int)), .own (.list (tab n fun i => (f i : Int))), .own (.list (tab n fun i => (g i : Int)))]) (asg_new (cb_ev (rs := [(.list (tab n fun i => (g i : Int)), .fz)]) (res := (.list (tab n fun i => (g i : Int)), true)) (cons_fz (sv_fz e1) nil_ev) rfl) rfl) ?_
    refine seq_nx h ?_
    exact ret_eq (tup_ev (rs := [(.list (tab n fun i => (F' i : Int)), .at 3), (.list (tab n fun i => (G' i : Int)), .at 4)]) (cons_at (sv_at (var_own rfl)) (cons_at (sv_at (var_own rfl)) nil_ev rfl) rfl) rfl (by simp))
  have rx : ∀ {F : List D}, IE (mOp gIx (mVar 4) (mVar 1)) [.fz G, .fz (.int (x : Int)), .fz (.int (y : Int)), .own (.list F), .own (.list (tab n fun i => (g i : Int)))] (g x : Int) := fun {F} => ie_own rfl (ie_var rfl) (tab_ix n _ x hx)
  have ry : ∀ {F : List D}, IE (mOp gIx (mVar 4) (mVar 2)) [.fz G, .fz (.int (x : Int)), .fz (.int (y : Int)), .own (.list F), .own (.list (tab n fun i => (g i : Int)))] (g y : Int) := fun {F} => ie_own rfl (ie_var rfl) (tab_ix n _ y hy)
  refine fin _ _ ?_
  have ix1 : ixN (tab n fun i => (f i : Int)).length (x : Int) = some x := ixN_nat (by rw [tab_len]; exact hx)
  have ix2 : ixN (tab n fun i => (f i : Int)).length (y : Int) = some y := ixN_nat (by rw [tab_len]; exact hy)
  unfold win los
  by_cases h : g x < g y
  · rw [if_pos h, if_pos h, lnkG_id n g y x (by omega)]
    exact if_t (tstB (be_lt rx ry) (decide_eq_true (by omega))) (asgG_fz (d := .int (y : Int)) (ie_var rfl) ((sub_ev (s := .own (.list (tab n fun i => (f i : Int)))) rfl rfl (ie_var rfl) ix1).trans (by rw [tabF]; rfl)))
  · rw [if_neg h, if_neg h]
    refine if_f (tstB (be_lt rx ry) (decide_eq_false (by omega))) ?_
    refine seq_nx (ρ1 := [.fz G, .fz (.int (x : Int)), .fz (.int (y : Int)), .own (.list (tab n fun i => (lnkF f x y i : Int))), .own (.list (tab n fun i => (g i : Int)))]) (asgG_fz (d := .int (x : Int)) (ie_var rfl) ((sub_ev (s := .own (.list (tab n fun i => (f i : Int)))) rfl rfl (ie_var rfl) ix2).trans (by rw [tabF]; rfl))) ?_
    by_cases e : g x = g y
    · refine if_t (tEq rx ry (by omega)) ((augS_ev (i := 4) (x := (g x : Int)) (z := 1) rfl (ie_var rfl) (tab_at n _ x hx) ie_c).trans ?_)
      rw [← tabG n g x y e]; rfl
    · rw [lnkG_id n g x y e]
      exact if_f (tNe rx ry (by omega)) rfl
abbrev J4 (b : Bool) (n : Nat) (f g : Nat → Nat) (p q : List Nat) : D := .tuple [.bool b, Gd n f g, .list (nls p), .list (nls q)]
theorem join_is {n : Nat} {f g : Nat → Nat} (ok : Gok n f g) (x y : Nat) (hx : x < n) (hy : y < n) (f1 : Nat → Nat) (hf : squ f n x = f1) :
    (topOf f n x = topOf f1 n y → m_join_groups [Gd n f g, .int (x : Int), .int (y : Int)] = some (J4 false n (squ f1 n y) g (path f n x) (path f1 n y), false)) ∧
    (∀ F G : Nat → Nat, topOf f n x ≠ topOf f1 n y → m_link_tops [Gd n (squ f1 n y) g, .int (topOf f n x : Int), .int (topOf f1 n y : Int)] = some (Gd n F G, false) → m_join_groups [Gd n f g, .int (x : Int), .int (y : Int)] = some (J4 true n F G (path f n x) (path f1 n y), false)) := by
  have ok1 := squ_ok ok hx (show n ≤ g x + n by omega)
  rw [hf] at ok1
  have t1 := findtop_is ok x hx
  rw [hf] at t1
  have t2 := findtop_is ok1 y hy
  generalize hA : PyData.tuple [.int (topOf f n x : Int), Gd n f1 g, .list (nls (path f n x))] = A at t1
  generalize hB : PyData.tuple [.int (topOf f1 n y : Int), Gd n (squ f1 n y) g, .list (nls (path f1 n y))] = B at t2
  generalize hG : Gd n f g = G0 at *
  have a0 : ∀ {ρ : Rho}, ρ[3]? = some (.fz A) → IE (mOp gIx (mVar 3) (mC (.int 0))) ρ (topOf f n x : Int) := fun {ρ} h0 => op_ev (r := (.int 0, .fz)) (res := (.int (topOf f n x : Int), false)) (sv_fz (var_fz h0)) (sv_fz rfl) (by rw [← hA]; rfl)
  have a1 : ∀ {ρ : Rho}, ρ[3]? = some (.fz A) → mOp gIx (mVar 3) (mC (.int 1)) ρ = some ((Gd n f1 g, .fz), ρ) := fun {ρ} h0 => op_ev (r := (.int 1, .fz)) (res := (Gd n f1 g, false)) (sv_fz (var_fz h0)) (sv_fz rfl) (by rw [← hA]; rfl)
  have b0 : ∀ {ρ : Rho}, ρ[4]? = some (.fz B) → IE (mOp gIx (mVar 4) (mC (.int 0))) ρ (topOf f1 n y : Int) := fun {ρ} h0 => op_ev (r := (.int 0, .fz)) (res := (.int (topOf f1 n y : Int), false)) (sv_fz (var_fz h0)) (sv_fz rfl) (by rw [← hB]; rfl)
  have b1 : ∀ {ρ : Rho}, ρ[4]? = some (.fz B) → mOp gIx (mVar 4) (mC (.int 1)) ρ = some ((Gd n (squ f1 n y) g, .fz), ρ) := fun {ρ} h0 => op_ev (r := (.int 1, .fz)) (res := (Gd n (squ f1 n y) g, false)) (sv_fz (var_fz h0)) (sv_fz rfl) (by rw [← hB]; rfl)
  have a2 : ∀ {ρ : Rho}, ρ[3]? = some (.fz A) → mOp gIx (mVar 3) (mC (.int 2)) ρ = some ((.list (nls (path f n x)), .fz), ρ) := fun {ρ} h0 => op_ev (r := (.int 2, .fz)) (res := (.list (nls (path f n x)), false)) (sv_fz (var_fz h0)) (sv_fz rfl) (by rw [← hA]; rfl)
  have b2 : ∀ {ρ : Rho}, ρ[4]? = some (.fz B) → mOp gIx (mVar 4) (mC (.int 2)) ρ = some ((.list (nls (path f1 n y)), .fz), ρ) := fun {ρ} h0 => op_ev (r := (.int 2, .fz)) (res := (.list (nls (path f1 n y)), false)) (sv_fz (var_fz h0)) (sv_fz rfl) (by rw [← hB]; rfl)
  have hd : ∀ (k : SM) (o : Option Out), k [.fz G0, .fz (.int (x : Int)), .fz (.int (y : Int)), .fz A, .fz B] = o → mSeq (mAsg 3 (mCall m_find_top (mCons (mVar 0) (mCons (mVar 1) mNil)))) (mSeq (mAsg 4 (mCall m_find_top (mCons (mOp gIx (mVar 3) (mC (.int 1))) (mCons (mVar 2) mNil)))) k) [.fz G0, .fz (.int (x : Int)), .fz (.int (y : Int)), .no, .no] = o := fun k o h => by
    refine seq_nx (ρ1 := [.fz G0, .fz (.int (x : Int)), .fz (.int (y : Int)), .fz A, .no]) (asg_fz (call_fz (rs := [(G0, .fz), (.int (x : Int), .fz)]) (cons_fz (sv_fz (var_fz rfl)) (consI (ie_var rfl) nil_ev)) t1 rfl) rfl) ?_
    exact seq_nx (ρ1 := [.fz G0, .fz (.int (x : Int)), .fz (.int (y : Int)), .fz A, .fz B]) (asg_fz (call_fz (rs := [(Gd n f1 g, .fz), (.int (y : Int), .fz)]) (cons_fz (sv_fz (a1 rfl)) (consI (ie_var rfl) nil_ev)) t2 rfl) rfl) h
  refine ⟨fun e => ?_, fun F G e li => ?_⟩
  · refine fn_of (o := .rt (J4 false n (squ f1 n y) g (path f n x) (path f1 n y), .fz) [.fz G0, .fz (.int (x : Int)), .fz (.int (y : Int)), .fz A, .fz B]) rfl (hd _ _ (seq_rt (if_t (tEq (a0 rfl) (b0 rfl) (by omega)) ?_))) rfl
    exact ret_eq (tup_ev (rs := [(.bool false, .fz), (Gd n (squ f1 n y) g, .fz), (.list (nls (path f n x)), .fz), (.list (nls (path f1 n y)), .fz)]) (cons_fz (sv_fz rfl) (cons_fz (sv_fz (b1 rfl)) (cons_fz (sv_fz (a2 rfl)) (cons_fz (sv_fz (b2 rfl)) nil_ev)))) rfl (by simp))
  · refine fn_of (o := .rt (J4 true n F G (path f n x) (path f1 n y), .fz) [.fz G0, .fz (.int (x : Int)), .fz (.int (y : Int)), .fz A, .fz B]) rfl (hd _ _ (seq_nx (ρ1 := [.fz G0, .fz (.int (x : Int)), .fz (.int (y : Int)), .fz A, .fz B]) (if_f (tNe (a0 rfl) (b0 rfl) (by omega)) rfl) ?_)) rfl
    have cl : mCall m_link_tops (mCons (mOp gIx (mVar 4) (mC (.int 1))) (mCons (mOp gIx (mVar 3) (mC (.int 0))) (mCons (mOp gIx (mVar 4) (mC (.int 0))) mNil))) [.fz G0, .fz (.int (x : Int)), .fz (.int (y : Int)), .fz A, .fz B] = some ((Gd n F G, .fz), [.fz G0, .fz (.int (x : Int)), .fz (.int (y : Int)), .fz A, .fz B]) := call_fz (rs := [(Gd n (squ f1 n y) g, .fz), (.int (topOf f n x : Int), .fz), (.int (topOf f1 n y : Int), .fz)]) (cons_fz (sv_fz (b1 rfl)) (consI (a0 rfl) (consI (b0 rfl) nil_ev))) li rfl
    exact ret_eq (tup_ev (rs := [(.bool true, .fz), (Gd n F G, .fz), (.list (nls (path f n x)), .fz), (.list (nls (path f1 n y)), .fz)]) (cons_fz (sv_fz rfl) (cons_fz (sv_fz cl) (cons_fz (sv_fz (a2 rfl)) (cons_fz (sv_fz (b2 rfl)) nil_ev)))) rfl (by simp))
structure I49 (n : Nat) (f g mk : Nat → Nat) (bal : Int) : Prop where
  ok : Gok n f g
  hs : ∀ h, h < n → f h = h → g h < cntT f n h
  mks : ∀ i j, i < n → j < n → (mk i = mk j ↔ topOf f n i = topOf f n j)
  cr : ((List.range n).map (crd (slw n) f g)).sum ≤ bal
theorem I49.find {n : Nat} {f g mk : Nat → Nat} {bal : Int} (h : I49 n f g mk bal) {x : Nat} (hx : x < n) : I49 n (squ f n x) g mk (bal + ((slw n : Int) + 2) - ((path f n x).length : Int)) := by
  refine ⟨squ_ok h.ok hx (by omega), siz_squ h.ok hx h.hs, fun i j hi hj => ?_, ?_⟩
  · rw [topOf_squ h.ok hx n i hi (by omega), topOf_squ h.ok hx n j hj (by omega)]
    exact h.mks i j hi hj
  · have := way_paid h.ok hx (show n ≤ g x + n by omega)
    have := h.cr
    omega
theorem merge {n : Nat} {mk T : Nat → Nat} (h : ∀ i j, i < n → j < n → (mk i = mk j ↔ T i = T j)) {x y : Nat} (hx : x < n) (hy : y < n) {a b : Nat} (hab : (a = T x ∧ b = T y) ∨ (a = T y ∧ b = T x)) (ne : T x ≠ T y) :
    ∀ i j, i < n → j < n → ((if mk i = mk y then mk x else mk i) = (if mk j = mk y then mk x else mk j) ↔ (if T i = b then a else T i) = (if T j = b then a else T j)) := by
  intro i j hi hj
  have h1 := h i y hi hy
  have h2 := h j y hj hy
  have h3 := h i x hi hx
  have h4 := h j x hj hx
  have h5 := h i j hi hj
  have h6 := h x y hx hy
  rcases hab with ⟨rfl, rfl⟩ | ⟨rfl, rfl⟩ <;> (repeat' split) <;> omega
theorem top_lt {n : Nat} {f g : Nat → Nat} (ok : Gok n f g) {x : Nat} (hx : x < n) : f (topOf f n x) = topOf f n x ∧ topOf f n x < n := ⟨(topOf_is ok n x hx (by omega)).1, (topOf_is ok n x hx (by omega)).2.1⟩
theorem win_los (g : Nat → Nat) (x y : Nat) : (win g x y = x ∧ los g x y = y) ∨ (win g x y = y ∧ los g x y = x) := by
  unfold win los
  split
  · exact .inr ⟨rfl, rfl⟩
  · exact .inl ⟨rfl, rfl⟩
theorem I49.link {n : Nat} {f g mk : Nat → Nat} {bal : Int} (h : I49 n f g mk bal) {x y : Nat} (hx : x < n) (hy : y < n) (ne : topOf f n x ≠ topOf f n y) :
    I49 n (lnkF f (win g (topOf f n x) (topOf f n y)) (los g (topOf f n x) (topOf f n y))) (lnkG g (win g (topOf f n x) (topOf f n y)) (los g (topOf f n x) (topOf f n y))) (fun i => if mk i = mk y then mk x else mk i) (bal + (slw n : Int)) := by
  obtain ⟨fx, lx⟩ := top_lt h.ok hx
  obtain ⟨fy, ly⟩ := top_lt h.ok hy
  have L := lk_of h.ok lx ly fx fy ne (two_tops h.hs lx ly fx fy ne)
  refine ⟨L.gok, L.cnt h.hs, fun i j hi hj => ?_, ?_⟩
  · rw [L.top n i n hi (by omega) (by omega), L.top n j n hj (by omega) (by omega)]
    exact merge (T := topOf f n) h.mks hx hy (win_los g _ _) ne i j hi hj
  · have := L.sum
    have := h.cr
    omega
theorem ie_io {i : Nat} {b : PM} {ρ : Rho} {ds : List D} {k v : Int} (h : ρ[i]? = some (.io (.list ds))) (hb : IE b ρ k) (hx : gIx (.list ds) (.int k) = some (.int v, false)) : IE (mOp gIx (mVar i) b) ρ v := op_io (i := i) (r := (.int k, .fz)) (res := (.int v, false)) (sv_at (var_io h)) (sv_fz hb) h hx
def mkA (mk : Nat → Nat) (x y k : Nat) : Nat → Nat := fun i => if i < k ∧ mk i = mk y then mk x else mk i
theorem mkA_x (mk : Nat → Nat) (x y k : Nat) : mkA mk x y k x = mk x := by unfold mkA; split <;> rfl
theorem mkA_k (mk : Nat → Nat) (x y k : Nat) : mkA mk x y k k = mk k := if_neg fun h => Nat.lt_irrefl _ h.1
theorem join_loop (n : Nat) (mk : Nat → Nat) (x y : Nat) (hx : x < n) : ∀ (m k : Nat) (s : Sl), NIo s → k + m = n → ∃ s', forL (mgN 4) lb1_law_joined (nls (List.range' k m)) [.io (.list (tab n fun i => (mkA mk x y k i : Int))), .fz (.int (x : Int)), .fz (.int (y : Int)), .fz (.int (mk y : Int)), s] = some (.nx [.io (.list (tab n fun i => (mkA mk x y n i : Int))), .fz (.int (x : Int)), .fz (.int (y : Int)), .fz (.int (mk y : Int)), s'])
  | 0, k, s, hs, h => ⟨s, by rw [show k = n by omega]; rfl⟩
  | m + 1, k, s, hs, h => by
    obtain ⟨s', ih⟩ := join_loop n mk x y hx m (k + 1) (.fz (.int (k : Int))) (NIo.fz _) (by omega)
    refine ⟨s', ?_⟩
    show forL _ _ (PyData.int (k : Int) :: nls (List.range' (k + 1) m)) _ = _
    refine forL_cons (mgN_nio (i := 4) rfl hs) ?_ ih
    have e1 : IE (mOp gIx (mVar 0) (mVar 4)) [.io (.list (tab n fun i => (mkA mk x y k i : Int))), .fz (.int (x : Int)), .fz (.int (y : Int)), .fz (.int (mk y : Int)), .fz (.int (k : Int))] (mk k : Int) := ie_io rfl (ie_var rfl) (by rw [tab_ix n _ k (by omega), mkA_k])
    have e2 : IE (mOp gIx (mVar 0) (mVar 1)) [.io (.list (tab n fun i => (mkA mk x y k i : Int))), .fz (.int (x : Int)), .fz (.int (y : Int)), .fz (.int (mk y : Int)), .fz (.int (k : Int))] (mk x : Int) := ie_io rfl (ie_var rfl) (by rw [tab_ix n _ x hx, mkA_x])
    have ix1 : ixN (tab n fun i => (mkA mk x y k i : Int)).length (k : Int) = some k := ixN_nat (by rw [tab_len]; omega)
    by_cases e : mk k = mk y
    · refine if_t (tEq e1 (ie_var rfl) (by omega)) (asgG_fz (d := .int (mk x : Int)) e2 ((sub_ev (s := .io (.list (tab n fun i => (mkA mk x y k i : Int)))) rfl rfl (ie_var rfl) ix1).trans ?_))
      rw [tab_set]
      have : (tab n fun j => if j = k then (mk x : Int) else (mkA mk x y k j : Int)) = tab n fun i => (mkA mk x y (k + 1) i : Int) := tab_congr fun i hi => by
        unfold mkA
        by_cases z : i = k
        · subst z; rw [if_pos rfl, if_pos ⟨by omega, e⟩]
        · rw [if_neg z]
          by_cases w : i < k ∧ mk i = mk y
          · rw [if_pos w, if_pos ⟨by omega, w.2⟩]
          · rw [if_neg w, if_neg fun q => w ⟨by omega, q.2⟩]
      rw [this]; rfl
    · refine if_f (tNe e1 (ie_var rfl) (by omega)) ?_
      have : (tab n fun i => (mkA mk x y (k + 1) i : Int)) = tab n fun i => (mkA mk x y k i : Int) := tab_congr fun i hi => by
        unfold mkA
        by_cases z : i = k
        · subst z; rw [if_neg fun q => e q.2, if_neg fun q => e q.2]
        · by_cases w : i < k ∧ mk i = mk y
          · rw [if_pos w, if_pos ⟨by omega, w.2⟩]
          · rw [if_neg w, if_neg fun q => w ⟨by omega, q.2⟩]
      rw [this]; rfl
theorem joinedM_is (n : Nat) (hn : n ≤ 60) (mk : Nat → Nat) (x y : Nat) (hx : x < n) (hy : y < n) : m_law_joined [.list (tab n fun i => (mk i : Int)), .int (x : Int), .int (y : Int)] = some ((.none, false), .list (tab n fun i => ((if mk i = mk y then mk x else mk i : Nat) : Int))) := by
  obtain ⟨s', lp⟩ := join_loop n mk x y hx n 0 .no NIo.no (by omega)
  have e0 : (tab n fun i => (mkA mk x y 0 i : Int)) = tab n fun i => (mk i : Int) := tab_congr fun i _ => by unfold mkA; rw [if_neg (by omega)]
  have en : (tab n fun i => (mkA mk x y n i : Int)) = tab n fun i => ((if mk i = mk y then mk x else mk i : Nat) : Int) := tab_congr fun i hi => by
    unfold mkA
    by_cases w : mk i = mk y
    · rw [if_pos ⟨hi, w⟩, if_pos w]
    · rw [if_neg fun q => w q.2, if_neg w]
  rw [e0, en] at lp
  refine fnI_of (o := .nx [.io (.list (tab n fun i => ((if mk i = mk y then mk x else mk i : Nat) : Int))), .fz (.int (x : Int)), .fz (.int (y : Int)), .fz (.int (mk y : Int)), s']) rfl ?_ rfl rfl
  refine seq_nx (ρ1 := [.io (.list (tab n fun i => (mk i : Int))), .fz (.int (x : Int)), .fz (.int (y : Int)), .fz (.int (mk y : Int)), .no]) (asgI (ie_io rfl (ie_var rfl) (tab_ix n _ y hy)) rfl) ?_
  refine for_eq (rg1_eq (j := (n : Int)) (k := .fz) (consI (cb_ev (rs := [(.list (tab n fun i => (mk i : Int)), .at 0)]) (res := (.int (n : Int), false)) rfl (by show gLen [.list (tab n fun i => (mk i : Int))] = _; rw [gLen_any, tab_len])) nil_ev) ⟨by omega, by omega⟩) (by rw [Int.toNat_natCast, rngD_map, List.range_eq_range']; exact lp)
theorem climb {n : Nat} {f g : Nat → Nat} (ok : Gok n f g) (M : D) (s2 s3 : Sl) : ∀ (m y fuel : Nat), y < n → n ≤ g y + m → m < fuel → mWhile wc1_law_one_top wb1_law_one_top fuel [.fz (Gd n f g), .fz M, s2, s3, .fz (.int (y : Int))] = some (.nx [.fz (Gd n f g), .fz M, s2, s3, .fz (.int (topOf f m y : Int))])
  | m, y, 0, _, _, h => by omega
  | 0, y, fuel + 1, hy, h, _ => by have := ok.gn y hy; omega
  | m + 1, y, fuel + 1, hy, h, hf => by
    have e2 : IE (mOp gIx (mOp gIx (mVar 0) (mC (.int 0))) (mVar 4)) [.fz (Gd n f g), .fz M, s2, s3, .fz (.int (y : Int))] (f y : Int) := ie_above rfl (ie_var rfl) hy
    unfold topOf
    by_cases e : f y = y
    · rw [if_pos e]
      exact while_end (tstB (be_ne e2 (ie_var rfl)) (by simp [e]))
    · rw [if_neg e]
      have hlt := (ok.up y hy).resolve_left e
      have ih := climb ok M s2 s3 m (f y) fuel (ok.fn y hy) (by omega) (by omega)
      exact while_go (tstB (be_ne e2 (ie_var rfl)) (by rw [decide_eq_false (by omega)]; rfl)) (asgI e2 rfl) ih
def es (mk T : Nat → Nat) (L : List Nat) : List (D × D) := L.map fun i => (PyData.int (mk i : Int), PyData.int (T i : Int))
theorem look_yes {mk T : Nat → Nat} {k t : Nat} : ∀ {L : List Nat}, (∃ j ∈ L, mk j = mk k) → (∀ j ∈ L, mk j = mk k → T j = t) → lookD (es mk T L) (mk k : Int) = some (.int (t : Int))
  | [], h, _ => by obtain ⟨j, h, _⟩ := h; cases h
  | a :: L, h, ht => by
    show (if (mk a : Int) = (mk k : Int) then some (PyData.int (T a : Int)) else lookD (es mk T L) (mk k : Int)) = _
    by_cases e : mk a = mk k
    · rw [if_pos (by omega), ht a List.mem_cons_self e]
    · rw [if_neg (by omega)]
      obtain ⟨j, hj, h1⟩ := h
      rcases List.mem_cons.mp hj with rfl | hj
      · exact absurd h1 e
      · exact look_yes ⟨j, hj, h1⟩ fun j hj => ht j (List.mem_cons_of_mem _ hj)
theorem look_no {mk T : Nat → Nat} {k : Nat} : ∀ {L : List Nat}, (∀ j ∈ L, mk j ≠ mk k) → lookD (es mk T L) (mk k : Int) = none
  | [], _ => rfl
  | a :: L, h => by
    show (if (mk a : Int) = (mk k : Int) then some (PyData.int (T a : Int)) else lookD (es mk T L) (mk k : Int)) = _
    rw [if_neg (by have := h a List.mem_cons_self; omega)]
    exact look_no fun j hj => h j (List.mem_cons_of_mem _ hj)
theorem es_ints (mk T : Nat → Nat) : ∀ L : List Nat, intsD (es mk T L) = some (L.map fun i => (T i : Int))
  | [] => rfl
  | a :: L => by
    show (intsD (es mk T L)).map _ = _
    rw [es_ints mk T L]; rfl
theorem setd_ev {i : Nat} {m : Rho → Option (List RV × Rho)} {ρ : Rho} {rs : List RV} {ds : List D} {e : List (D × D)} {w : List (D × D) × D} (h0 : ρ[i]? = some (.own (.dict e))) (h1 : m ρ = some (rs, ρ)) (h2 : fzAll rs ρ = some (ds, ρ)) (h3 : fSetd e ds = some w) : mSetd i m ρ = some ((w.2, .fz), ρ.set i (.own (.dict w.1))) := by
  unfold mSetd
  rw [h0]
  show (m ρ).bind _ = _
  rw [h1, Option.bind_some]
  dsimp only
  rw [h2, Option.bind_some]
  dsimp only
  rw [h0]
  show (fSetd e ds).map _ = _
  rw [h3]
  unfold Mir.putAt
  rw [Option.map_some, h0]; rfl
theorem dedup_nodup : ∀ (ns acc : List Int), (acc ++ ns).Nodup → ns.foldl PyProof.Rows.step_dedup acc = acc ++ ns
  | [], acc, _ => by simp
  | a :: ns, acc, h => by
    have hn : (acc.any (· == a)) = false := by
      rw [List.any_eq_false]
      intro b hb z
      have : b = a := by simpa using z
      subst this
      have := (List.nodup_append.mp h).2.2 b hb b List.mem_cons_self
      exact this rfl
    have : PyProof.Rows.step_dedup acc a = acc ++ [a] := by unfold PyProof.Rows.step_dedup; rw [hn]; rfl
    rw [List.foldl_cons, this, dedup_nodup ns (acc ++ [a]) (by simpa using h)]
    simp
theorem diff_nodup {ns : List Int} (h : ns.Nodup) : diff ns = ns.length := by
  have e : (List.range ns.length).map (fun i => ns.getD i 0) = ns := by
    apply List.ext_getElem
    · simp
    · intro i h1 h2
      simp at h1
      simp [h1]
  unfold diff PyProof.Rows.firstMet
  rw [e, dedup_nodup ns [] (by simpa using h), List.nil_append]
theorem ones {n : Nat} {f g mk : Nat → Nat} (ok : Gok n f g) (hm : ∀ i j, i < n → j < n → (mk i = mk j ↔ topOf f n i = topOf f n j)) : ∀ (m k : Nat) (L : List Nat) (s3 s4 : Sl), NIo s3 → NIo s4 → k + m = n → L.length ≤ k → (∀ i ∈ L, i < k) → (∀ i, i < k → ∃ j ∈ L, mk j = mk i) → (L.Pairwise fun a b => mk a ≠ mk b) →
    ∃ (L' : List Nat) (t3 t4 : Sl), L'.length ≤ n ∧ (∀ i ∈ L', i < n) ∧ (L'.Pairwise fun a b => mk a ≠ mk b) ∧ forL (mgN 3) lb1_law_one_top (nls (List.range' k m)) [.fz (Gd n f g), .fz (.list (tab n fun i => (mk i : Int))), .own (.dict (es mk (topOf f n) L)), s3, s4] = some (.nx [.fz (Gd n f g), .fz (.list (tab n fun i => (mk i : Int))), .own (.dict (es mk (topOf f n) L')), t3, t4])
  | 0, k, L, s3, s4, _, _, hk, hl, h1, h2, h3 => ⟨L, s3, s4, by omega, fun i hi => by have := h1 i hi; omega, h3, rfl⟩
  | m + 1, k, L, s3, s4, n3, n4, hk, hl, h1, h2, h3 => by
    have n40 := ok.n40
    have hkn : k < n := by omega
    have cl := climb ok (.list (tab n fun i => (mk i : Int))) (.own (.dict (es mk (topOf f n) L))) (.fz (.int (k : Int))) n k 1000000 hkn (by omega) (by omega)
    have em : IE (mOp gIx (mVar 1) (mVar 3)) [.fz (Gd n f g), .fz (.list (tab n fun i => (mk i : Int))), .own (.dict (es mk (topOf f n) L)), .fz (.int (k : Int)), .fz (.int (topOf f n k : Int))] (mk k : Int) := op_ev (r := (.int (k : Int), .fz)) (res := (.int (mk k : Int), false)) (sv_fz (var_fz rfl)) (sv_fz (var_fz rfl)) (tab_ix n _ k hkn)
    have hlen : (es mk (topOf f n) L).length < 100000 := by
      unfold es
      rw [List.length_map]; omega
    have body : ∀ L' : List Nat, fSetd (es mk (topOf f n) L) [.int (mk k : Int), .int (topOf f n k : Int)] = some (es mk (topOf f n) L', .int (topOf f n k : Int)) → lb1_law_one_top [.fz (Gd n f g), .fz (.list (tab n fun i => (mk i : Int))), .own (.dict (es mk (topOf f n) L)), .fz (.int (k : Int)), s4] = some (.nx [.fz (Gd n f g), .fz (.list (tab n fun i => (mk i : Int))), .own (.dict (es mk (topOf f n) L')), .fz (.int (k : Int)), .fz (.int (topOf f n k : Int))]) := fun L' hf => by
      refine seq_nx (ρ1 := [.fz (Gd n f g), .fz (.list (tab n fun i => (mk i : Int))), .own (.dict (es mk (topOf f n) L)), .fz (.int (k : Int)), .fz (.int (k : Int))]) (asgI (ie_var rfl) (set_nio _ rfl n4)) ?_
      refine seq_nx cl ?_
      refine if_f (test_ev (k := .fz) (op_ev (r := (.int (topOf f n k : Int), .fz)) (res := (.bool false, false)) (sv_fz (setd_ev (i := 2) (rs := [(.int (mk k : Int), .fz), (.int (topOf f n k : Int), .fz)]) rfl (consI em (consI (ie_var rfl) nil_ev)) rfl hf)) (sv_fz (var_fz rfl)) ?_)) rfl
      rw [gNe_int, decide_eq_true rfl]; rfl
    by_cases hx : ∃ j ∈ L, mk j = mk k
    · have lk : lookD (es mk (topOf f n) L) (mk k : Int) = some (.int (topOf f n k : Int)) := look_yes hx fun j hj e => (hm j k (by have := h1 j hj; omega) hkn).mp e
      obtain ⟨L', t3, t4, g0, g1, g2, g3⟩ := ones ok hm m (k + 1) L (.fz (.int (k : Int))) (.fz (.int (topOf f n k : Int))) (NIo.fz _) (NIo.fz _) (by omega) (by omega) (fun i hi => by have := h1 i hi; omega) (fun i hi => by
        by_cases z : i = k
        · rw [z]; exact hx
        · exact h2 i (by omega)) h3
      refine ⟨L', t3, t4, g0, g1, g2, ?_⟩
      show forL _ _ (PyData.int (k : Int) :: nls (List.range' (k + 1) m)) _ = _
      refine forL_cons (mgN_nio (i := 3) rfl n3) (body L ?_) g3
      show cIf _ _ _ = _
      rw [cIf_pos hlen, lk]
    · have lk : lookD (es mk (topOf f n) L) (mk k : Int) = none := look_no fun j hj e => hx ⟨j, hj, e⟩
      obtain ⟨L', t3, t4, g0, g1, g2, g3⟩ := ones ok hm m (k + 1) (L ++ [k]) (.fz (.int (k : Int))) (.fz (.int (topOf f n k : Int))) (NIo.fz _) (NIo.fz _) (by omega) (by rw [List.length_append, List.length_singleton]; omega) (fun i hi => by
        rcases List.mem_append.mp hi with hi | hi
        · have := h1 i hi; omega
        · rw [List.mem_singleton.mp hi]; omega) (fun i hi => by
        by_cases z : i = k
        · exact ⟨k, by simp, by rw [z]⟩
        · obtain ⟨j, hj, e⟩ := h2 i (by omega)
          exact ⟨j, by simp [hj], e⟩) (List.pairwise_append.mpr ⟨h3, by simp, fun a ha b hb => by rw [List.mem_singleton.mp hb]; exact fun e => hx ⟨a, ha, e⟩⟩)
      refine ⟨L', t3, t4, g0, g1, g2, ?_⟩
      show forL _ _ (PyData.int (k : Int) :: nls (List.range' (k + 1) m)) _ = _
      refine forL_cons (mgN_nio (i := 3) rfl n3) (body (L ++ [k]) ?_) g3
      show cIf _ _ _ = _
      rw [cIf_pos hlen, lk]
      unfold es
      rw [List.map_append]; rfl
theorem onetop_is {n : Nat} {f g mk : Nat → Nat} (ok : Gok n f g) (hm : ∀ i j, i < n → j < n → (mk i = mk j ↔ topOf f n i = topOf f n j)) : m_law_one_top [Gd n f g, .list (tab n fun i => (mk i : Int))] = some (.bool true, false) := by
  have n40 := ok.n40
  obtain ⟨L, t3, t4, hll, g1, g2, lp⟩ := ones ok hm n 0 [] .no .no NIo.no NIo.no (by omega) (by simp) (fun i hi => by cases hi) (fun i hi => by omega) .nil
  have nd : (L.map fun i => (topOf f n i : Int)).Nodup := by
    rw [List.Nodup, List.pairwise_map]
    exact g2.imp_of_mem fun {a b} ha hb h e => h ((hm a b (g1 a ha) (g1 b hb)).mpr (by omega))
  refine fn_of (o := .rt (.bool true, .fz) [.fz (Gd n f g), .fz (.list (tab n fun i => (mk i : Int))), .own (.dict (es mk (topOf f n) L)), t3, t4]) rfl ?_ rfl
  refine seq_nx (ρ1 := [.fz (Gd n f g), .fz (.list (tab n fun i => (mk i : Int))), .own (.dict []), .no, .no]) rfl ?_
  refine seq_nx (for_eq (rg1_eq (j := (n : Int)) (k := .fz) (consI (cb_ev (rs := [(.list (tab n fun i => (mk i : Int)), .fz)]) (res := (.int (n : Int), false)) (cons_fz (sv_fz (var_fz rfl)) nil_ev) (by show gLen [.list (tab n fun i => (mk i : Int))] = _; rw [gLen_any, tab_len])) nil_ev) ⟨by omega, by omega⟩) (by rw [Int.toNat_natCast, rngD_map, List.range_eq_range']; exact lp)) ?_
  have d1 : IE (mDiffD 2) [.fz (Gd n f g), .fz (.list (tab n fun i => (mk i : Int))), .own (.dict (es mk (topOf f n) L)), t3, t4] (L.length : Int) := by
    show (intsD (es mk (topOf f n) L)).bind _ = _
    rw [es_ints, Option.bind_some, cIf_pos (by rw [List.length_map]; omega), diff_nodup nd, List.length_map]
  have d2 : IE (mLenD 2) [.fz (Gd n f g), .fz (.list (tab n fun i => (mk i : Int))), .own (.dict (es mk (topOf f n) L)), t3, t4] (L.length : Int) := by
    show some ((PyData.int ((es mk (topOf f n) L).length : Int), Kd.fz), _) = _
    unfold es
    rw [List.length_map]
  have := be_eq d1 d2
  rw [decide_eq_true rfl] at this
  exact ret_eq this
abbrev st (X : D) (n : Nat) (G : D) (mk : Nat → Nat) (bal : Int) (s5 s6 s7 s8 s9 s10 s11 s12 : Sl) : Rho := [.fz X, .fz (.int (n : Int)), .fz G, .own (.list (tab n fun i => (mk i : Int))), .fz (.int bal), s5, s6, s7, s8, s9, s10, s11, s12]
theorem fprice_is (n : Nat) (hn : n ≤ 4000) : m_find_price [.int (n : Int)] = some (.int ((slw n : Int) + 2), false) :=
  fn_of (o := .rt (.int ((slw n : Int) + 2), .fz) [.fz (.int (n : Int))]) rfl (ret_eq (ie_add (ie_call (rs := [(.int (n : Int), .fz)]) (consI (ie_var rfl) nil_ev) (slow_is n hn)) ie_c)) rfl
theorem jprice_is (n : Nat) (hn : n ≤ 4000) : m_join_price [.int (n : Int)] = some (.int (2 * ((slw n : Int) + 2) + (slw n : Int) + 1), false) :=
  fn_of (o := .rt (.int (2 * ((slw n : Int) + 2) + (slw n : Int) + 1), .fz) [.fz (.int (n : Int))]) rfl (ret_eq (ie_add (ie_add (ie_mul ie_c (ie_call (rs := [(.int (n : Int), .fz)]) (consI (ie_var rfl) nil_ev) (fprice_is n hn)) (IntMulOk.of_left (by decide))) (ie_call (rs := [(.int (n : Int), .fz)]) (consI (ie_var rfl) nil_ev) (slow_is n hn))) ie_c)) rfl
theorem sum_pos (v : Nat → Int) : ∀ l : List Nat, (∀ i ∈ l, 0 ≤ v i) → 0 ≤ (l.map v).sum
  | [], _ => by simp
  | a :: l, h => by
    rw [List.map_cons, List.sum_cons]
    have := h a List.mem_cons_self
    have := sum_pos v l fun i hi => h i (List.mem_cons_of_mem _ hi)
    omega
theorem gs_nil (ρ : Rho) : mgsNil [] ρ = some ρ := rfl
theorem nls_lenE {i : Nat} {ρ : Rho} {p : List Nat} (h : ρ[i]? = some (.fz (.list (nls p)))) : IE (mCB gLen (mCons (mVar i) mNil)) ρ (p.length : Int) := cb_ev (rs := [(.list (nls p), .fz)]) (res := (.int (p.length : Int), false)) (cons_fz (sv_fz (var_fz h)) nil_ev) (by show gLen [.list (nls p)] = _; rw [gLen_any, nls_len])
theorem tail_ok {X : D} {n : Nat} {f g mk : Nat → Nat} {bal : Int} (h : I49 n f g mk bal) (s5 s6 s7 s8 s9 s10 s11 s12 : Sl) (n12 : NIo s12) :
    mSeq (mAsg 12 (mCall m_groups_credit (mCons (mVar 2) mNil))) (mIfS (mOr (mTest (mOp gLt (mVar 12) (mC (.int 0)))) (mOr (mTest (mOp gGt (mVar 12) (mVar 4))) (mNot (mTest (mCall m_groups_in_form (mCons (mOp gIx (mVar 2) (mC (.int 0))) (mCons (mOp gIx (mVar 2) (mC (.int 1))) mNil))))))) (mRet (mC (.bool false))) mPass) (st X n (Gd n f g) mk bal s5 s6 s7 s8 s9 s10 s11 s12) = some (.nx (st X n (Gd n f g) mk bal s5 s6 s7 s8 s9 s10 s11 (.fz (.int ((List.range n).map (crd (slw n) f g)).sum)))) := by
  have gc := gcredit_is n f g h.ok
  have fo := form_is h.ok h.hs
  have cr := h.cr
  have c0 : 0 ≤ ((List.range n).map (crd (slw n) f g)).sum := sum_pos _ _ fun i hi => (crd_nn h.ok (by simpa using hi)).1
  have e0 : ∀ {ρ : Rho}, ρ[2]? = some (.fz (Gd n f g)) → mOp gIx (mVar 2) (mC (.int 0)) ρ = some ((.list (tab n fun i => (f i : Int)), .fz), ρ) := fun {ρ} h => op_ev (r := (.int 0, .fz)) (res := (.list (tab n fun i => (f i : Int)), false)) (sv_fz (var_fz h)) (sv_fz rfl) rfl
  have e1 : ∀ {ρ : Rho}, ρ[2]? = some (.fz (Gd n f g)) → mOp gIx (mVar 2) (mC (.int 1)) ρ = some ((.list (tab n fun i => (g i : Int)), .fz), ρ) := fun {ρ} h => op_ev (r := (.int 1, .fz)) (res := (.list (tab n fun i => (g i : Int)), false)) (sv_fz (var_fz h)) (sv_fz rfl) rfl
  refine seq_nx (ρ1 := st X n (Gd n f g) mk bal s5 s6 s7 s8 s9 s10 s11 (.fz (.int ((List.range n).map (crd (slw n) f g)).sum))) (asgI (ie_call (rs := [(Gd n f g, .fz)]) (cons_fz (sv_fz (var_fz rfl)) nil_ev) gc) (set_nio _ rfl n12)) ?_
  exact if_f (or_f (tstB (be_lt (ie_var rfl) ie_c) (decide_eq_false (by omega))) (or_f (tstB (be_gt (ie_var rfl) (ie_var rfl)) (decide_eq_false (by omega))) (not_ev (v := true) (be_call (rs := [(.list (tab n fun i => (f i : Int)), .fz), (.list (tab n fun i => (g i : Int)), .fz)]) (cons_fz (sv_fz (e0 rfl)) (cons_fz (sv_fz (e1 rfl)) nil_ev)) fo).t))) rfl
theorem I49.le {n : Nat} {f g mk : Nat → Nat} {a b : Int} (h : I49 n f g mk a) (e : a ≤ b) : I49 n f g mk b := ⟨h.ok, h.hs, h.mks, by have := h.cr; omega⟩
theorem I49.marks {n : Nat} {f g mk mk' : Nat → Nat} {a : Int} (h : I49 n f g mk a) (e : ∀ i, mk' i = mk i) : I49 n f g mk' a := by
  have : mk' = mk := funext e
  rw [this]; exact h
theorem deed {X : D} {n : Nat} (n1 : 1 ≤ n) {f g mk : Nat → Nat} {bal : Int} (h : I49 n f g mk bal) (c : Int) (s6 s7 s8 s9 s10 s11 s12 : Sl) (n6 : NIo s6) (n7 : NIo s7) (n8 : NIo s8) (n9 : NIo s9) (n10 : NIo s10) (n11 : NIo s11) (n12 : NIo s12) :
    ∃ (f' g' mk' : Nat → Nat) (bal' : Int) (t6 t7 t8 t9 t10 t11 t12 : Sl), I49 n f' g' mk' bal' ∧ NIo t6 ∧ NIo t7 ∧ NIo t8 ∧ NIo t9 ∧ NIo t10 ∧ NIo t11 ∧ NIo t12 ∧ lb1_law (st X n (Gd n f g) mk bal (.fz (.int c)) s6 s7 s8 s9 s10 s11 s12) = some (.nx (st X n (Gd n f' g') mk' bal' (.fz (.int c)) t6 t7 t8 t9 t10 t11 t12)) := by
  have n60 := h.ok.n40
  obtain ⟨x, hxe, hx⟩ := mod_nat (c / 4) n (by omega)
  obtain ⟨y, hye, hy⟩ := mod_nat (c / 4 / n) n (by omega)
  have fp := fprice_is n (by omega)
  have jp := jprice_is n (by omega)
  have d4 : ∀ {ρ : Rho}, ρ[5]? = some (.fz (.int c)) → IE (mOp gDiv (mVar 5) (mC (.int 4))) ρ (c / 4) := fun {ρ} h => ie_div (ie_var h) ie_c ⟨by decide, by decide⟩
  have head : ∀ (k : SM) (o : Option Out), k (st X n (Gd n f g) mk bal (.fz (.int c)) (.fz (.int (x : Int))) (.fz (.int (y : Int))) s8 s9 s10 s11 s12) = o → mSeq (mAsg 6 (mOp gMod (mOp gDiv (mVar 5) (mC (.int 4))) (mVar 1))) (mSeq (mAsg 7 (mOp gMod (mOp gDiv (mOp gDiv (mVar 5) (mC (.int 4))) (mVar 1)) (mVar 1))) k) (st X n (Gd n f g) mk bal (.fz (.int c)) s6 s7 s8 s9 s10 s11 s12) = o := fun k o hk => by
    refine seq_nx (ρ1 := st X n (Gd n f g) mk bal (.fz (.int c)) (.fz (.int (x : Int))) s7 s8 s9 s10 s11 s12) (by rw [← hxe]; exact asgI (ie_mod (d4 rfl) (ie_var rfl) (by omega)) (set_nio _ rfl n6)) ?_
    exact seq_nx (ρ1 := st X n (Gd n f g) mk bal (.fz (.int c)) (.fz (.int (x : Int))) (.fz (.int (y : Int))) s8 s9 s10 s11 s12) (by rw [← hye]; exact asgI (ie_mod (ie_div (d4 rfl) (ie_var rfl) ⟨by omega, by omega⟩) (ie_var rfl) (by omega)) (set_nio _ rfl n7)) hk
  have em : ∀ {ρ : Rho}, ρ[5]? = some (.fz (.int c)) → IE (mOp gMod (mVar 5) (mC (.int 4))) ρ (c % 4) := fun {ρ} h => ie_mod (ie_var h) ie_c (by decide)
  have mkE : ∀ {ρ : Rho} {i z : Nat} {mk : Nat → Nat}, ρ[3]? = some (.own (.list (tab n fun i => (mk i : Int)))) → ρ[i]? = some (.fz (.int (z : Int))) → z < n → IE (mOp gIx (mVar 3) (mVar i)) ρ (mk z : Int) := fun {ρ i z mk} h1 h2 hz => ie_own h1 (ie_var h2) (tab_ix n _ z hz)
  by_cases c3 : c % 4 = 3
  · have ft := findtop_is h.ok x hx
    obtain ⟨tf, tl⟩ := top_lt h.ok hx
    have h' := h.find hx
    have mt : mk (topOf f n x) = mk x := (h.mks _ _ tl hx).mpr (topOf_top tf n)
    refine ⟨squ f n x, g, mk, _, .fz (.int (x : Int)), .fz (.int (y : Int)), .fz (.int (topOf f n x : Int)), (.fz (.list (nls (path f n x)))), s10, s11, .fz (.int ((List.range n).map (crd (slw n) (squ f n x) g)).sum), h', NIo.fz _, NIo.fz _, NIo.fz _, NIo.fz _, n10, n11, NIo.fz _, head _ _ ?_⟩
    refine seq_nx (ρ1 := st X n (Gd n (squ f n x) g) mk (bal + ((slw n : Int) + 2) - ((path f n x).length : Int)) (.fz (.int c)) (.fz (.int (x : Int))) (.fz (.int (y : Int))) (.fz (.int (topOf f n x : Int))) (.fz (.list (nls (path f n x)))) s10 s11 s12) (if_t (tEq (em rfl) ie_c c3) ?_) (tail_ok h' _ _ _ _ _ _ _ s12 n12)
    refine seq_nx (ρ1 := st X n (Gd n (squ f n x) g) mk bal (.fz (.int c)) (.fz (.int (x : Int))) (.fz (.int (y : Int))) (.fz (.int (topOf f n x : Int))) (.fz (.list (nls (path f n x)))) s10 s11 s12) (asgG_fz (call_fz (rs := [(Gd n f g, .fz), (.int (x : Int), .fz)]) (cons_fz (sv_fz (var_fz rfl)) (consI (ie_var rfl) nil_ev)) ft rfl) (gs_tup rfl (gs_cons (mgN_nio (i := 8) rfl n8) (gs_cons (mgN_nio (i := 2) rfl (NIo.fz _)) (gs_cons (mgN_nio (i := 9) rfl n9) (gs_nil _)))))) ?_
    refine seq_nx (ρ1 := st X n (Gd n (squ f n x) g) mk bal (.fz (.int c)) (.fz (.int (x : Int))) (.fz (.int (y : Int))) (.fz (.int (topOf f n x : Int))) (.fz (.list (nls (path f n x)))) s10 s11 s12) (if_f (tstB (be_ne (mkE rfl rfl tl) (mkE rfl rfl hx)) (by rw [mt, decide_eq_true rfl]; rfl)) rfl) ?_
    exact asgI (ie_sub (ie_add (ie_var rfl) (ie_call (rs := [(.int (n : Int), .fz)]) (consI (ie_var rfl) nil_ev) fp)) (nls_lenE rfl)) rfl
  · have h1 := h.find hx
    have h2 := h1.find hy
    obtain ⟨jy, jn⟩ := join_is h.ok x y hx hy (squ f n x) rfl
    have ty : topOf (squ f n x) n y = topOf f n y := topOf_squ h.ok hx n y hy (by omega)
    have jm := joinedM_is n n60 mk x y hx hy
    have go : ∀ (b : Bool) (F G : Nat → Nat) (p q : List Nat), m_join_groups [Gd n f g, .int (x : Int), .int (y : Int)] = some (J4 b n F G p q, false) → (b = !decide (mk x = mk y)) → I49 n F G (fun i => if mk i = mk y then mk x else mk i) (bal + (2 * ((slw n : Int) + 2) + (slw n : Int) + 1) - (p.length : Int) - (q.length : Int) - (if b = true then 1 else 0)) →
        ∃ (f' g' mk' : Nat → Nat) (bal' : Int) (t6 t7 t8 t9 t10 t11 t12 : Sl), I49 n f' g' mk' bal' ∧ NIo t6 ∧ NIo t7 ∧ NIo t8 ∧ NIo t9 ∧ NIo t10 ∧ NIo t11 ∧ NIo t12 ∧ lb1_law (st X n (Gd n f g) mk bal (.fz (.int c)) s6 s7 s8 s9 s10 s11 s12) = some (.nx (st X n (Gd n f' g') mk' bal' (.fz (.int c)) t6 t7 t8 t9 t10 t11 t12)) := fun b F G p q hj hbb h' => by
      refine ⟨F, G, _, _, .fz (.int (x : Int)), .fz (.int (y : Int)), s8, .fz (.list (nls p)), .fz (.bool b), .fz (.list (nls q)), .fz (.int ((List.range n).map (crd (slw n) F G)).sum), h', NIo.fz _, NIo.fz _, n8, NIo.fz _, NIo.fz _, NIo.fz _, NIo.fz _, head _ _ ?_⟩
      refine seq_nx (ρ1 := st X n (Gd n F G) (fun i => if mk i = mk y then mk x else mk i) (bal + (2 * ((slw n : Int) + 2) + (slw n : Int) + 1) - (p.length : Int) - (q.length : Int) - (if b = true then 1 else 0)) (.fz (.int c)) (.fz (.int (x : Int))) (.fz (.int (y : Int))) s8 (.fz (.list (nls p))) (.fz (.bool b)) (.fz (.list (nls q))) s12) (if_f (tNe (em rfl) ie_c c3) ?_) (tail_ok h' _ _ _ _ _ _ _ s12 n12)
      refine seq_nx (ρ1 := st X n (Gd n F G) mk bal (.fz (.int c)) (.fz (.int (x : Int))) (.fz (.int (y : Int))) s8 (.fz (.list (nls p))) (.fz (.bool b)) (.fz (.list (nls q))) s12) (asgG_fz (call_fz (rs := [(Gd n f g, .fz), (.int (x : Int), .fz), (.int (y : Int), .fz)]) (cons_fz (sv_fz (var_fz rfl)) (consI (ie_var rfl) (consI (ie_var rfl) nil_ev))) hj rfl) (gs_tup rfl (gs_cons (mgN_nio (i := 10) rfl n10) (gs_cons (mgN_nio (i := 2) rfl (NIo.fz _)) (gs_cons (mgN_nio (i := 9) rfl n9) (gs_cons (mgN_nio (i := 11) rfl n11) (gs_nil _))))))) ?_
      have ne : BE (mOp gNe (mOp gIx (mVar 3) (mVar 6)) (mOp gIx (mVar 3) (mVar 7))) (st X n (Gd n F G) mk bal (.fz (.int c)) (.fz (.int (x : Int))) (.fz (.int (y : Int))) s8 (.fz (.list (nls p))) (.fz (.bool b)) (.fz (.list (nls q))) s12) b := by
        have := be_ne (mkE (ρ := st X n (Gd n F G) mk bal (.fz (.int c)) (.fz (.int (x : Int))) (.fz (.int (y : Int))) s8 (.fz (.list (nls p))) (.fz (.bool b)) (.fz (.list (nls q))) s12) (i := 6) rfl rfl hx) (mkE (i := 7) rfl rfl hy)
        have e : decide ((mk x : Int) = (mk y : Int)) = decide (mk x = mk y) := decide_eq_decide.mpr (by omega)
        rw [e, ← hbb] at this
        exact this
      refine seq_nx (ρ1 := st X n (Gd n F G) mk bal (.fz (.int c)) (.fz (.int (x : Int))) (.fz (.int (y : Int))) s8 (.fz (.list (nls p))) (.fz (.bool b)) (.fz (.list (nls q))) s12) (if_f (test_ev (k := .fz) (op_ev (r := (.bool b, .fz)) (res := (.bool false, false)) (sv_fz (var_fz rfl)) (sv_fz ne) (by rw [gNe_bool]; cases b <;> rfl))) rfl) ?_
      refine seq_nx (ρ1 := st X n (Gd n F G) (fun i => if mk i = mk y then mk x else mk i) bal (.fz (.int c)) (.fz (.int (x : Int))) (.fz (.int (y : Int))) s8 (.fz (.list (nls p))) (.fz (.bool b)) (.fz (.list (nls q))) s12) (drop_ev (callI_ev (i := 3) (d0 := .none) (ρ := st X n (Gd n F G) mk bal (.fz (.int c)) (.fz (.int (x : Int))) (.fz (.int (y : Int))) s8 (.fz (.list (nls p))) (.fz (.bool b)) (.fz (.list (nls q))) s12) (ρ1 := st X n (Gd n F G) mk bal (.fz (.int c)) (.fz (.int (x : Int))) (.fz (.int (y : Int))) s8 (.fz (.list (nls p))) (.fz (.bool b)) (.fz (.list (nls q))) s12) (ρ2 := st X n (Gd n F G) mk bal (.fz (.int c)) (.fz (.int (x : Int))) (.fz (.int (y : Int))) s8 (.fz (.list (nls p))) (.fz (.bool b)) (.fz (.list (nls q))) s12) (s := .own (.list (tab n fun i => (mk i : Int)))) (s' := .own (.list (tab n fun i => (mk i : Int)))) (rs := [(.int (x : Int), .fz), (.int (y : Int), .fz)]) (ds := [.int (x : Int), .int (y : Int)]) rfl (consI (ie_var rfl) (consI (ie_var rfl) nil_ev)) rfl rfl jm)) ?_
      have ei : IE (mCB gInt (mCons (mVar 10) mNil)) (st X n (Gd n F G) (fun i => if mk i = mk y then mk x else mk i) bal (.fz (.int c)) (.fz (.int (x : Int))) (.fz (.int (y : Int))) s8 (.fz (.list (nls p))) (.fz (.bool b)) (.fz (.list (nls q))) s12) (if b = true then 1 else 0) := cb_ev (rs := [(.bool b, .fz)]) (res := (.int (if b = true then 1 else 0), false)) (cons_fz (sv_fz (var_fz rfl)) nil_ev) (by cases b <;> rfl)
      exact asgI (ie_sub (ie_sub (ie_sub (ie_add (ie_var rfl) (ie_call (rs := [(.int (n : Int), .fz)]) (consI (ie_var rfl) nil_ev) jp)) (nls_lenE rfl)) (nls_lenE rfl)) ei) rfl
    by_cases e : topOf f n x = topOf f n y
    · have mm : mk x = mk y := (h.mks x y hx hy).mpr e
      refine go false _ _ _ _ (jy (by rw [ty]; exact e)) (by rw [decide_eq_true mm]; rfl) ?_
      refine (I49.marks (h2.le ?_) fun i => ?_)
      · rw [if_neg Bool.false_ne_true]; omega
      · split
        · rename_i w; rw [w, mm]
        · rfl
    · have mm : mk x ≠ mk y := fun z => e ((h.mks x y hx hy).mp z)
      have t2x : topOf (squ (squ f n x) n y) n x = topOf f n x := by rw [topOf_squ h1.ok hy n x hx (by omega), topOf_squ h.ok hx n x hx (by omega)]
      have t2y : topOf (squ (squ f n x) n y) n y = topOf f n y := by rw [topOf_squ h1.ok hy n y hy (by omega), ty]
      have l := h2.link hx hy (by rw [t2x, t2y]; exact e)
      rw [t2x, t2y] at l
      obtain ⟨_, lx⟩ := top_lt h.ok hx
      obtain ⟨_, ly⟩ := top_lt h.ok hy
      have li := link_is (n := n) (f := squ (squ f n x) n y) (g := g) (topOf f n x) (topOf f n y) lx ly n60
      refine go true _ _ _ _ (jn _ _ (by rw [ty]; exact e) (by rw [ty]; exact li)) (by rw [decide_eq_false mm]; rfl) (l.le ?_)
      rw [if_pos rfl]; omega
theorem deeds {X : D} {n : Nat} (n1 : 1 ≤ n) : ∀ (ms : List Int) (f g mk : Nat → Nat) (bal : Int) (s5 s6 s7 s8 s9 s10 s11 s12 : Sl), I49 n f g mk bal → NIo s5 → NIo s6 → NIo s7 → NIo s8 → NIo s9 → NIo s10 → NIo s11 → NIo s12 →
    ∃ (f' g' mk' : Nat → Nat) (bal' : Int) (t5 t6 t7 t8 t9 t10 t11 t12 : Sl), I49 n f' g' mk' bal' ∧ forL (mgN 5) lb1_law (ms.map .int) (st X n (Gd n f g) mk bal s5 s6 s7 s8 s9 s10 s11 s12) = some (.nx (st X n (Gd n f' g') mk' bal' t5 t6 t7 t8 t9 t10 t11 t12))
  | [], f, g, mk, bal, s5, s6, s7, s8, s9, s10, s11, s12, h, _, _, _, _, _, _, _, _ => ⟨f, g, mk, bal, s5, s6, s7, s8, s9, s10, s11, s12, h, rfl⟩
  | c :: ms, f, g, mk, bal, s5, s6, s7, s8, s9, s10, s11, s12, h, n5, n6, n7, n8, n9, n10, n11, n12 => by
    obtain ⟨f1, g1, mk1, bal1, t6, t7, t8, t9, t10, t11, t12, h1, i6, i7, i8, i9, i10, i11, i12, e1⟩ := deed (X := X) n1 h c s6 s7 s8 s9 s10 s11 s12 n6 n7 n8 n9 n10 n11 n12
    obtain ⟨f2, g2, mk2, bal2, u5, u6, u7, u8, u9, u10, u11, u12, h2, e2⟩ := deeds (X := X) n1 ms f1 g1 mk1 bal1 (.fz (.int c)) t6 t7 t8 t9 t10 t11 t12 h1 (NIo.fz _) i6 i7 i8 i9 i10 i11 i12
    refine ⟨f2, g2, mk2, bal2, u5, u6, u7, u8, u9, u10, u11, u12, h2, ?_⟩
    rw [List.map_cons]
    exact forL_cons (mgN_nio (i := 5) rfl n5) e1 e2
theorem topOf_id (k x : Nat) : topOf (fun i => i) k x = x := topOf_top rfl k
theorem begin_ok {n : Nat} (n1 : 1 ≤ n) (n60 : n ≤ 60) : I49 n (fun i => i) (fun _ => 0) (fun i => i) 0 := by
  refine ⟨⟨n60, fun i hi => hi, fun i hi => by omega, fun i hi => .inl rfl⟩, fun h hn _ => ?_, fun i j _ _ => by rw [topOf_id, topOf_id], ?_⟩
  · show 0 < cntT _ n h
    unfold cntT
    rw [List.countP_pos_iff]
    exact ⟨h, List.mem_range.mpr hn, by rw [topOf_id]; simp⟩
  · have : (List.range n).map (crd (slw n) (fun i => i) fun _ => 0) = (List.range n).map fun _ => (0 : Int) := List.map_congr_left fun i _ => by unfold crd; rw [if_pos (.inl rfl)]; simp
    rw [this, sum_zero]; exact Int.le_refl _
theorem law_true (ns : List Int) (hl : ns.length ≤ 63) (hb : ∀ k ∈ ns, Builtin.Int.intBits k ≤ 1048576) : m_law [.list (ns.map .int)] = some (.bool true, false) := by
  obtain ⟨m, hme, hm⟩ := mod_nat (cell ns 0) 60 (by decide)
  obtain ⟨n, hn⟩ : ∃ n, n = 1 + m := ⟨_, rfl⟩
  have n1 : 1 ≤ n := by omega
  have n60 : n ≤ 60 := by omega
  have ca := cell_at ns 0
  have I0 := begin_ok n1 n60
  have lr : ∀ {ρ : Rho} {a : PM}, IE a ρ (n : Int) → mCB gListRng (mCons a mNil) ρ = some ((.list (tab n fun i => (i : Int)), .new), ρ) := fun {ρ a} h => cb_ev (rs := [(.int (n : Int), .fz)]) (res := (.list (tab n fun i => (i : Int)), true)) (consI h nil_ev) (by
    show cIf _ _ _ = _
    rw [cIf_pos ⟨by omega, by omega⟩, Int.toNat_natCast, rngD_map]; rfl)
  have re : ∀ {ρ : Rho} {a : PM}, IE a ρ (n : Int) → mRep (mCons (mC (.int 0)) mNil) a ρ = some ((.list (tab n fun _ => ((0 : Nat) : Int)), .new), ρ) := fun {ρ a} h => by
    rw [rep_ev (x := 0) (k := (n : Int)) (lst_ev (rs := [(.int 0, .fz)]) rfl rfl (by simp)) h ⟨by omega, by omega⟩]
    have e : (List.replicate (n : Int).toNat (0 : Int)).map PyData.int = tab n fun _ => ((0 : Nat) : Int) := by
      unfold tab
      rw [Int.toNat_natCast, List.map_replicate]
      refine (List.eq_replicate_iff.mpr ⟨by simp, fun b hb => ?_⟩).symm
      obtain ⟨_, _, rfl⟩ := List.mem_map.mp hb
      rfl
    rw [e]
  have bg : m_begin_groups [.int (n : Int)] = some (Gd n (fun i => i) (fun _ => 0), false) := by
    refine fn_of (o := .rt (Gd n (fun i => i) (fun _ => 0), .fz) [.fz (.int (n : Int))]) rfl (ret_eq ?_) rfl
    exact tup_ev (rs := [(.list (tab n fun i => (i : Int)), .fz), (.list (tab n fun _ => ((0 : Nat) : Int)), .fz)]) (cons_fz (sv_new (lr (ie_var rfl))) (cons_fz (sv_new (re (ie_var rfl))) nil_ev)) rfl (by simp)
  have gc := gcredit_is n _ _ I0.ok
  have g0 : ((List.range n).map (crd (slw n) (fun i => i) fun _ => 0)).sum = 0 := by
    have := I0.cr
    have : 0 ≤ ((List.range n).map (crd (slw n) (fun i => i) fun _ => 0)).sum := sum_pos _ _ fun i hi => (crd_nn I0.ok (by simpa using hi)).1
    omega
  rw [g0] at gc
  obtain ⟨ms, hms⟩ : ∃ ms : List Int, cutD (ns.map .int) (some 1) (some 61) = ms.map .int := ⟨_, cutD_ints ns (some 1) (some 61)⟩
  have sl : ∀ {ρ : Rho}, ρ[0]? = some (.fz (.list (ns.map .int))) → mSl gSl (mVar 0) (mPart (mC (.int 1))) (mPart (mC (.int 61))) ρ = some ((.list (ms.map .int), .new), ρ) := fun {ρ} h => by
    rw [← hms]
    unfold mSl
    rw [sv_fz (var_fz h)]
    rfl
  generalize hS : PyData.list (ns.map .int) = X at *
  obtain ⟨f, g, mk, bal, t5, t6, t7, t8, t9, t10, t11, t12, h, lp⟩ := deeds (X := X) n1 ms (fun i => i) (fun _ => 0) (fun i => i) 0 .no .no .no .no .no .no .no .no I0 NIo.no NIo.no NIo.no NIo.no NIo.no NIo.no NIo.no NIo.no
  have ot := onetop_is h.ok h.mks
  refine fn_of (o := .rt (.bool true, .fz) (st X n (Gd n f g) mk bal t5 t6 t7 t8 t9 t10 t11 t12)) rfl ?_ rfl
  refine seq_nx (ρ1 := [.fz X, .fz (.int (n : Int)), .no, .no, .no, .no, .no, .no, .no, .no, .no, .no, .no]) ?_ ?_
  · have e : (n : Int) = 1 + cell ns 0 % 60 := by rw [hn]; omega
    rw [e]
    exact asgI (ie_add ie_c (ie_mod (ie_call (rs := [(X, .fz), (.int 0, .fz)]) (cons_fz (sv_fz (var_fz rfl)) (cons_fz (sv_fz rfl) nil_ev)) ca) ie_c (by decide))) rfl
  refine seq_nx (ρ1 := [.fz X, .fz (.int (n : Int)), .fz (Gd n (fun i => i) (fun _ => 0)), .no, .no, .no, .no, .no, .no, .no, .no, .no, .no]) (asg_fz (call_fz (rs := [(.int (n : Int), .fz)]) (consI (ie_var rfl) nil_ev) bg rfl) rfl) ?_
  refine seq_nx (ρ1 := [.fz X, .fz (.int (n : Int)), .fz (Gd n (fun i => i) (fun _ => 0)), .no, .no, .no, .no, .no, .no, .no, .no, .no, .no]) (if_f (tstB (be_ne (ie_call (rs := [(Gd n (fun i => i) (fun _ => 0), .fz)]) (cons_fz (sv_fz (var_fz rfl)) nil_ev) gc) ie_c) (by rw [decide_eq_true rfl]; rfl)) rfl) ?_
  refine seq_nx (ρ1 := [.fz X, .fz (.int (n : Int)), .fz (Gd n (fun i => i) (fun _ => 0)), .own (.list (tab n fun i => (i : Int))), .no, .no, .no, .no, .no, .no, .no, .no, .no]) (asg_new (lr (ie_var rfl)) rfl) ?_
  refine seq_nx (ρ1 := [.fz X, .fz (.int (n : Int)), .fz (Gd n (fun i => i) (fun _ => 0)), .own (.list (tab n fun i => (i : Int))), .fz (.int 0), .no, .no, .no, .no, .no, .no, .no, .no]) (asgI ie_c rfl) ?_
  refine seq_nx (for_eq (fol_ev (sv_new (sl rfl))) lp) ?_
  exact ret_eq (call_pure (rs := [(Gd n f g, .fz), (.list (tab n fun i => (mk i : Int)), .at 3)]) (cons_fz (sv_fz (var_fz rfl)) (cons_at (sv_at (var_own rfl)) nil_ev rfl)) ot rfl)
end K49
set_option maxHeartbeats 4000000
set_option Elab.async false
set_option linter.all false
set_option maxRecDepth 100000
namespace K49
open PySem L2 Mir
def top (i : Nat) : Stmt := PySem.Challenge.pw_creditworks_k49_whole_groups_and_prices.main.body.getD i (.Pass ⟨0, 0, 0, 0⟩)
abbrev s_begin_groups : Stmt := top 16
theorem sc_begin_groups : FnScope ["n"] ["n"] (defScope s_begin_groups) := ⟨rfl, rfl, rfl, by decide +kernel, rfl, by decide +kernel, by decide +kernel⟩
abbrev s_law_one_top : Stmt := top 28
theorem sc_law_one_top : FnScope ["_law_groups", "_law_marks", "_law_tops", "_law_k", "_law_at"] ["_law_groups", "_law_marks"] (defScope s_law_one_top) := ⟨rfl, rfl, rfl, by decide +kernel, rfl, by decide +kernel, by decide +kernel⟩
abbrev s_reach_up : Stmt := top 6
theorem sc_reach_up : FnScope ["k", "j", "most", "reached", "turns"] ["k", "j", "most"] (defScope s_reach_up) := ⟨rfl, rfl, rfl, by decide +kernel, rfl, by decide +kernel, by decide +kernel⟩
abbrev s_slow_number : Stmt := top 7
theorem sc_slow_number : FnScope ["n", "k"] ["n"] (defScope s_slow_number) := ⟨rfl, rfl, rfl, by decide +kernel, rfl, by decide +kernel, by decide +kernel⟩
abbrev s_rank_above : Stmt := top 19
theorem sc_rank_above : FnScope ["groups", "thing"] ["groups", "thing"] (defScope s_rank_above) := ⟨rfl, rfl, rfl, by decide +kernel, rfl, by decide +kernel, by decide +kernel⟩
abbrev s_level_of : Stmt := top 20
theorem sc_level_of : FnScope ["groups", "thing", "rank", "over", "level"] ["groups", "thing"] (defScope s_level_of) := ⟨rfl, rfl, rfl, by decide +kernel, rfl, by decide +kernel, by decide +kernel⟩
abbrev s_times_of : Stmt := top 21
theorem sc_times_of : FnScope ["groups", "thing", "level", "over", "times", "reached"] ["groups", "thing"] (defScope s_times_of) := ⟨rfl, rfl, rfl, by decide +kernel, rfl, by decide +kernel, by decide +kernel⟩
abbrev s_credit_by : Stmt := top 22
theorem sc_credit_by : FnScope ["groups", "thing", "slow", "rank"] ["groups", "thing", "slow"] (defScope s_credit_by) := ⟨rfl, rfl, rfl, by decide +kernel, rfl, by decide +kernel, by decide +kernel⟩
abbrev s_groups_credit : Stmt := top 23
theorem sc_groups_credit : FnScope ["groups", "many", "slow"] ["groups"] (defScope s_groups_credit) := ⟨rfl, rfl, rfl, by decide +kernel, rfl, by decide +kernel, by decide +kernel⟩
abbrev s_law_cell_at : Stmt := top 25
theorem sc_law_cell_at : FnScope ["_law_script", "_law_k"] ["_law_script", "_law_k"] (defScope s_law_cell_at) := ⟨rfl, rfl, rfl, by decide +kernel, rfl, by decide +kernel, by decide +kernel⟩
abbrev s_way_up : Stmt := top 10
theorem sc_way_up : FnScope ["above", "thing", "way"] ["above", "thing"] (defScope s_way_up) := ⟨rfl, rfl, rfl, by decide +kernel, rfl, by decide +kernel, by decide +kernel⟩
abbrev s_is_count : Stmt := top 1
theorem sc_is_count : FnScope ["value"] ["value"] (defScope s_is_count) := ⟨rfl, rfl, rfl, by decide +kernel, rfl, by decide +kernel, by decide +kernel⟩
abbrev s_find_top : Stmt := top 9
theorem sc_find_top : FnScope ["groups", "thing", "way", "top", "above", "passed"] ["groups", "thing"] (defScope s_find_top) := ⟨rfl, rfl, rfl, by decide +kernel, rfl, by decide +kernel, by decide +kernel⟩
abbrev s_link_tops : Stmt := top 11
theorem sc_link_tops : FnScope ["groups", "one", "other", "above", "ranks"] ["groups", "one", "other"] (defScope s_link_tops) := ⟨rfl, rfl, rfl, by decide +kernel, rfl, by decide +kernel, by decide +kernel⟩
abbrev s_join_groups : Stmt := top 12
theorem sc_join_groups : FnScope ["groups", "one", "other", "first", "second"] ["groups", "one", "other"] (defScope s_join_groups) := ⟨rfl, rfl, rfl, by decide +kernel, rfl, by decide +kernel, by decide +kernel⟩
abbrev s_law_joined : Stmt := top 27
theorem sc_law_joined : FnScope ["_law_marks", "_law_one", "_law_other", "_law_gone", "_law_k"] ["_law_marks", "_law_one", "_law_other"] (defScope s_law_joined) := ⟨rfl, rfl, rfl, by decide +kernel, rfl, by decide +kernel, by decide +kernel⟩
abbrev s_top_from : Stmt := top 18
theorem sc_top_from : FnScope ["above", "thing", "at", "look"] ["above", "thing"] (defScope s_top_from) := ⟨rfl, rfl, rfl, by decide +kernel, rfl, by decide +kernel, by decide +kernel⟩
abbrev s_groups_in_form : Stmt := top 17
theorem sc_groups_in_form : FnScope ["above", "ranks", "tops", "thing"] ["above", "ranks"] (defScope s_groups_in_form) := ⟨rfl, rfl, rfl, by decide +kernel, rfl, by decide +kernel, by decide +kernel⟩
abbrev s_find_price : Stmt := top 13
theorem sc_find_price : FnScope ["n"] ["n"] (defScope s_find_price) := ⟨rfl, rfl, rfl, by decide +kernel, rfl, by decide +kernel, by decide +kernel⟩
abbrev s_join_price : Stmt := top 14
theorem sc_join_price : FnScope ["n"] ["n"] (defScope s_join_price) := ⟨rfl, rfl, rfl, by decide +kernel, rfl, by decide +kernel, by decide +kernel⟩
abbrev s_law : Stmt := top 29
theorem sc_law : FnScope ["_law_script", "_law_n", "_law_groups", "_law_marks", "_law_balance", "_law_cell", "_law_one", "_law_other", "_law_top", "_law_way", "_law_apart", "_law_far", "_law_left"] ["_law_script"] (defScope s_law) := ⟨rfl, rfl, rfl, by decide +kernel, rfl, by decide +kernel, by decide +kernel⟩
section
variable {P : Program} {w : World} {K : PySem.W.Frag} {mg : Str → Option Value} {base : Heap}
def NoGl (mg : Str → Option Value) : Prop := ∀ x ∈ (["bool", "int", "isinstance", "len", "list", "range", "set", "sum"] : List Str), mg x = none
theorem ok_begin_groups (Z : NoGl mg) (T : Top K mg "begin_groups" s_begin_groups)  : Def P w K mg base CX0 1 "begin_groups" ["n"] (spM m_begin_groups) := by
  have z_list : mg "list" = none := Z _ (by decide +kernel)
  have z_range : mg "range" = none := Z _ (by decide +kernel)
  refine T.def sc_begin_groups (fun vs H Q E h => spM_len h) (fun _ _ _ _ _ _ us hl => match us, hl with | [_], _ => rfl) fun f cdv A outer s H vs Q E hr h => ?_
  have hu := hr.units
  exact ⟨_, (pss_one (ps_ret (pe_tup (pa_cons (pe_listRng rfl rfl z_list rfl z_range (pa_cons (pv 0) pa_nil)) (pa_cons (pe_op op_mulM (pe_lst (pa_cons pe_int pa_nil)) (pv 0)) pa_nil))))),
      fn_run (n := 1) (k := 0) (ms_ret (me_tup (ma_cons (me_cb J_listRng (ma_cons me_var ma_nil)) (ma_cons (me_rep (ma_cons me_int ma_nil) me_var) ma_nil)))) rfl h⟩
theorem ok_law_one_top (Z : NoGl mg) (T : Top K mg "_law_one_top" s_law_one_top)  : Def P w K mg base CX0 1 "_law_one_top" ["_law_groups", "_law_marks"] (spM m_law_one_top) := by
  have z_len : mg "len" = none := Z _ (by decide +kernel)
  have z_set : mg "set" = none := Z _ (by decide +kernel)
  have z_list : mg "list" = none := Z _ (by decide +kernel)
  have z_range : mg "range" = none := Z _ (by decide +kernel)
  refine T.def sc_law_one_top (fun vs H Q E h => spM_len h) (fun _ _ _ _ _ _ us hl => match us, hl with | [_, _], _ => rfl) fun f cdv A outer s H vs Q E hr h => ?_
  have hu := hr.units
  exact ⟨_, (pss_cons (ps_set (i := 2) sc_law_one_top.nd rfl (by first | exact Or.inl rfl | exact Or.inr rfl) pe_dnewK)
      (pss_cons (ps_for PassesOwn.never rfl (pi_range1 rfl z_range (pa_cons (pe_callB (call_lenK (K := K) rfl) rfl z_len PySem.boot_len (pa_cons (pv 1) pa_nil)) pa_nil)) (pg_name (i := 3) sc_law_one_top.nd rfl (by first | exact Or.inl rfl | exact Or.inr rfl))
      (pss_cons (ps_set (i := 4) sc_law_one_top.nd rfl (by first | exact Or.inl rfl | exact Or.inr rfl) (pv 3))
      (pss_cons (ps_while PassesOwn.never (pt_cmpR (op_neK (K := K) rfl hu) (pe_ix (ix_seqK (K := K) rfl) (pe_ix (ix_seqK (K := K) rfl) (pv 0) pe_int (fun _ _ => rfl)) (pv 4) (fun _ _ => rfl)) (pv 4) (nomark _))
      (pss_one (ps_set (i := 4) sc_law_one_top.nd rfl (by first | exact Or.inl rfl | exact Or.inr rfl) (pe_ix (ix_seqK (K := K) rfl) (pe_ix (ix_seqK (K := K) rfl) (pv 0) pe_int (fun _ _ => rfl)) (pv 4) (fun _ _ => rfl)))))
      (pss_one (ps_if (pt_cmpR (op_neK (K := K) rfl hu) (pe_bmK (K := K) rfl PySem.F.plainAttrs_dict PySem.F.slot_dict_setdefault PySem.F.type_dict_setdefault mt_setd (pv 2) (pa_cons (pe_ix (ix_seqK (K := K) rfl) (pv 1) (pv 3) (fun _ _ => rfl)) (pa_cons (pv 4) pa_nil))) (pv 4) (nomark _))
      (pss_one (ps_ret pe_bl))
      pss_nil)))))
      (pss_one (ps_ret (pe_cmpR (op_eqK (K := K) rfl hu) (pe_callB call_lenS rfl z_len PySem.boot_len (pa_cons (pe_callTy (call_setI rfl) rfl z_set PyProof.Rows.boot_set (pa_cons (pe_callTy (call_listV rfl) rfl z_list PyProof.Rows.boot_list (pa_cons (pe_bm0K (K := K) rfl PySem.F.plainAttrs_dict PySem.F.slot_dict_values PySem.F.type_dict_values mt_vals (pv 2)) pa_nil)) pa_nil)) pa_nil)) (pe_callB call_lenDk rfl z_len PySem.boot_len (pa_cons (pv 2) pa_nil)) (nomark _)))))),
      fn_run (n := 2) (k := 3) (ms_seq (ms_asg me_dct0)
      (ms_seq (ms_for (mf_rng1 (ma_cons (me_cb J_len (ma_cons me_var ma_nil)) ma_nil)) mg_name
      (ms_seq (ms_asg me_var)
      (ms_seq (ms_while (mt_test (me_op J_ne (me_op J_ix (me_op J_ix me_var me_int) me_var) me_var))
      (ms_asg (me_op J_ix (me_op J_ix me_var me_int) me_var)))
      (ms_if (mt_test (me_op J_ne (me_setd (i := 2) (ma_cons (me_op J_ix me_var me_var) (ma_cons me_var ma_nil))) me_var))
      (ms_ret me_bl)
      ms_next))))
      (ms_ret (me_op J_eq (me_diffD (K := K) (i := 2)) (me_lenD (i := 2)))))) rfl h⟩
theorem ok_reach_up (Z : NoGl mg) (T : Top K mg "reach_up" s_reach_up)  : ∀ n, Def P w K mg base CX0 (1 + n) "reach_up" ["k", "j", "most"] (spM (m_reach_up n))
  | 0 => T.def sc_reach_up (fun vs H Q E h => by obtain ⟨_, _, _, _, _, _, _, e, _⟩ := h; cases e) (fun _ _ _ _ _ _ us hl => match us, hl with | [_, _, _], _ => rfl) fun f cdv A outer s H vs Q E hr h => by obtain ⟨_, _, _, _, _, _, _, e, _⟩ := h; cases e
  | n + 1 => by
    have D_reach_up := ok_reach_up Z T  n
    refine T.def sc_reach_up (fun vs H Q E h => spM_len h) (fun _ _ _ _ _ _ us hl => match us, hl with | [_, _, _], _ => rfl) fun f cdv A outer s H vs Q E hr h => ?_
    have hu := hr.units
    exact ⟨_, (pss_cons (ps_if (pt_cmpR op_ge (pv 1) (pv 2) (nomark _))
      (pss_one (ps_ret (pv 2)))
      pss_nil)
      (pss_cons (ps_if (pt_cmpR (op_eqK (K := K) rfl hu) (pv 0) pe_int (nomark _))
      (pss_one (ps_ret (pe_op (op_addK (K := K) rfl) (pv 1) pe_int)))
      pss_nil)
      (pss_cons (ps_set (i := 3) sc_reach_up.nd rfl (by first | exact Or.inl rfl | exact Or.inr rfl) (pv 1))
      (pss_cons (ps_set (i := 4) sc_reach_up.nd rfl (by first | exact Or.inl rfl | exact Or.inr rfl) pe_int)
      (pss_cons (ps_while PassesOwn.never (PW.pt (pw_and (pt_cmpR op_le (pv 4) (pv 1) (nomark _)) (pw_and1 (pt_cmpR op_lt (pv 3) (pv 2) (nomark _)))))
      (pss_cons (ps_set (i := 3) sc_reach_up.nd rfl (by first | exact Or.inl rfl | exact Or.inr rfl) (pe_def D_reach_up (hr.mono (Nat.le_refl _)) (pa_cons (pe_op op_sub (pv 0) pe_int) (pa_cons (pv 3) (pa_cons (pv 2) pa_nil)))))
      (pss_one (ps_aug (i := 4) sc_reach_up.nd rfl (by first | exact Or.inl rfl | exact Or.inr rfl) pe_int ip_add))))
      (pss_one (ps_ret (pv 3)))))))),
      fn_run (n := 3) (k := 2) (ms_seq (ms_if (mt_test (me_op J_B0 me_var me_var))
      (ms_ret me_var)
      ms_next)
      (ms_seq (ms_if (mt_test (me_op J_eq me_var me_int))
      (ms_ret (me_op J_add me_var me_int))
      ms_next)
      (ms_seq (ms_asg me_var)
      (ms_seq (ms_asg me_int)
      (ms_seq (ms_while (mt_and (mt_test (me_op J_B0 me_var me_var)) (mt_test (me_op J_B0 me_var me_var)))
      (ms_seq (ms_asg (me_call (ma_cons (me_op J_I0 me_var me_int) (ma_cons me_var (ma_cons me_var ma_nil)))))
      (ms_aug me_int)))
      (ms_ret me_var)))))) rfl h⟩
theorem ok_slow_number (Z : NoGl mg) (T : Top K mg "slow_number" s_slow_number) (D_reach_up : Def P w K mg base CX0 13 "reach_up" ["k", "j", "most"] (spM (m_reach_up 12))) : Def P w K mg base CX0 14 "slow_number" ["n"] (spM m_slow_number) := by
  refine T.def sc_slow_number (fun vs H Q E h => spM_len h) (fun _ _ _ _ _ _ us hl => match us, hl with | [_], _ => rfl) fun f cdv A outer s H vs Q E hr h => ?_
  have hu := hr.units
  exact ⟨_, (pss_cons (ps_set (i := 1) sc_slow_number.nd rfl (by first | exact Or.inl rfl | exact Or.inr rfl) pe_int)
      (pss_cons (ps_while PassesOwn.never (pt_cmpR op_lt (pe_def D_reach_up (hr.mono (by omega)) (pa_cons (pv 1) (pa_cons pe_int (pa_cons (pv 0) pa_nil)))) (pv 0) (nomark _))
      (pss_one (ps_aug (i := 1) sc_slow_number.nd rfl (by first | exact Or.inl rfl | exact Or.inr rfl) pe_int ip_add)))
      (pss_one (ps_ret (pv 1))))),
      fn_run (n := 1) (k := 1) (ms_seq (ms_asg me_int)
      (ms_seq (ms_while (mt_test (me_op J_B0 (me_call (ma_cons me_var (ma_cons me_int (ma_cons me_var ma_nil)))) me_var))
      (ms_aug me_int))
      (ms_ret me_var))) rfl h⟩
theorem ok_rank_above (Z : NoGl mg) (T : Top K mg "rank_above" s_rank_above)  : Def P w K mg base CX0 1 "rank_above" ["groups", "thing"] (spM m_rank_above) := by
  refine T.def sc_rank_above (fun vs H Q E h => spM_len h) (fun _ _ _ _ _ _ us hl => match us, hl with | [_, _], _ => rfl) fun f cdv A outer s H vs Q E hr h => ?_
  have hu := hr.units
  exact ⟨_, (pss_one (ps_ret (pe_ix (ix_seqK (K := K) rfl) (pe_ix (ix_seqK (K := K) rfl) (pv 0) pe_int (fun _ _ => rfl)) (pe_ix (ix_seqK (K := K) rfl) (pe_ix (ix_seqK (K := K) rfl) (pv 0) pe_int (fun _ _ => rfl)) (pv 1) (fun _ _ => rfl)) (fun _ _ => rfl)))),
      fn_run (n := 2) (k := 0) (ms_ret (me_op J_ix (me_op J_ix me_var me_int) (me_op J_ix (me_op J_ix me_var me_int) me_var))) rfl h⟩
theorem ok_level_of (Z : NoGl mg) (T : Top K mg "level_of" s_level_of) (D_reach_up : Def P w K mg base CX0 13 "reach_up" ["k", "j", "most"] (spM (m_reach_up 12))) (D_rank_above : Def P w K mg base CX0 1 "rank_above" ["groups", "thing"] (spM m_rank_above)) : Def P w K mg base CX0 14 "level_of" ["groups", "thing"] (spM m_level_of) := by
  refine T.def sc_level_of (fun vs H Q E h => spM_len h) (fun _ _ _ _ _ _ us hl => match us, hl with | [_, _], _ => rfl) fun f cdv A outer s H vs Q E hr h => ?_
  have hu := hr.units
  exact ⟨_, (pss_cons (ps_set (i := 2) sc_level_of.nd rfl (by first | exact Or.inl rfl | exact Or.inr rfl) (pe_ix (ix_seqK (K := K) rfl) (pe_ix (ix_seqK (K := K) rfl) (pv 0) pe_int (fun _ _ => rfl)) (pv 1) (fun _ _ => rfl)))
      (pss_cons (ps_set (i := 3) sc_level_of.nd rfl (by first | exact Or.inl rfl | exact Or.inr rfl) (pe_def D_rank_above (hr.mono (by omega)) (pa_cons (pv 0) (pa_cons (pv 1) pa_nil))))
      (pss_cons (ps_set (i := 4) sc_level_of.nd rfl (by first | exact Or.inl rfl | exact Or.inr rfl) pe_int)
      (pss_cons (ps_while PassesOwn.never (pt_cmpR op_le (pe_def D_reach_up (hr.mono (by omega)) (pa_cons (pe_op (op_addK (K := K) rfl) (pv 4) pe_int) (pa_cons (pv 2) (pa_cons (pe_op (op_addK (K := K) rfl) (pv 3) pe_int) pa_nil)))) (pv 3) (nomark _))
      (pss_one (ps_aug (i := 4) sc_level_of.nd rfl (by first | exact Or.inl rfl | exact Or.inr rfl) pe_int ip_add)))
      (pss_one (ps_ret (pv 4))))))),
      fn_run (n := 2) (k := 3) (ms_seq (ms_asg (me_op J_ix (me_op J_ix me_var me_int) me_var))
      (ms_seq (ms_asg (me_call (ma_cons me_var (ma_cons me_var ma_nil))))
      (ms_seq (ms_asg me_int)
      (ms_seq (ms_while (mt_test (me_op J_B0 (me_call (ma_cons (me_op J_add me_var me_int) (ma_cons me_var (ma_cons (me_op J_add me_var me_int) ma_nil)))) me_var))
      (ms_aug me_int))
      (ms_ret me_var))))) rfl h⟩
theorem ok_times_of (Z : NoGl mg) (T : Top K mg "times_of" s_times_of) (D_reach_up : Def P w K mg base CX0 13 "reach_up" ["k", "j", "most"] (spM (m_reach_up 12))) (D_rank_above : Def P w K mg base CX0 1 "rank_above" ["groups", "thing"] (spM m_rank_above)) (D_level_of : Def P w K mg base CX0 14 "level_of" ["groups", "thing"] (spM m_level_of)) : Def P w K mg base CX0 15 "times_of" ["groups", "thing"] (spM m_times_of) := by
  refine T.def sc_times_of (fun vs H Q E h => spM_len h) (fun _ _ _ _ _ _ us hl => match us, hl with | [_, _], _ => rfl) fun f cdv A outer s H vs Q E hr h => ?_
  have hu := hr.units
  exact ⟨_, (pss_cons (ps_set (i := 2) sc_times_of.nd rfl (by first | exact Or.inl rfl | exact Or.inr rfl) (pe_def D_level_of (hr.mono (by omega)) (pa_cons (pv 0) (pa_cons (pv 1) pa_nil))))
      (pss_cons (ps_set (i := 3) sc_times_of.nd rfl (by first | exact Or.inl rfl | exact Or.inr rfl) (pe_def D_rank_above (hr.mono (by omega)) (pa_cons (pv 0) (pa_cons (pv 1) pa_nil))))
      (pss_cons (ps_set (i := 4) sc_times_of.nd rfl (by first | exact Or.inl rfl | exact Or.inr rfl) pe_int)
      (pss_cons (ps_set (i := 5) sc_times_of.nd rfl (by first | exact Or.inl rfl | exact Or.inr rfl) (pe_def D_reach_up (hr.mono (by omega)) (pa_cons (pv 2) (pa_cons (pe_ix (ix_seqK (K := K) rfl) (pe_ix (ix_seqK (K := K) rfl) (pv 0) pe_int (fun _ _ => rfl)) (pv 1) (fun _ _ => rfl)) (pa_cons (pe_op (op_addK (K := K) rfl) (pv 3) pe_int) pa_nil)))))
      (pss_cons (ps_while PassesOwn.never (pt_cmpR op_le (pv 5) (pv 3) (nomark _))
      (pss_cons (ps_aug (i := 4) sc_times_of.nd rfl (by first | exact Or.inl rfl | exact Or.inr rfl) pe_int ip_add)
      (pss_one (ps_set (i := 5) sc_times_of.nd rfl (by first | exact Or.inl rfl | exact Or.inr rfl) (pe_def D_reach_up (hr.mono (by omega)) (pa_cons (pv 2) (pa_cons (pv 5) (pa_cons (pe_op (op_addK (K := K) rfl) (pv 3) pe_int) pa_nil))))))))
      (pss_one (ps_ret (pv 4)))))))),
      fn_run (n := 2) (k := 4) (ms_seq (ms_asg (me_call (ma_cons me_var (ma_cons me_var ma_nil))))
      (ms_seq (ms_asg (me_call (ma_cons me_var (ma_cons me_var ma_nil))))
      (ms_seq (ms_asg me_int)
      (ms_seq (ms_asg (me_call (ma_cons me_var (ma_cons (me_op J_ix (me_op J_ix me_var me_int) me_var) (ma_cons (me_op J_add me_var me_int) ma_nil)))))
      (ms_seq (ms_while (mt_test (me_op J_B0 me_var me_var))
      (ms_seq (ms_aug me_int)
      (ms_asg (me_call (ma_cons me_var (ma_cons me_var (ma_cons (me_op J_add me_var me_int) ma_nil)))))))
      (ms_ret me_var)))))) rfl h⟩
theorem ok_credit_by (Z : NoGl mg) (T : Top K mg "credit_by" s_credit_by) (D_level_of : Def P w K mg base CX0 14 "level_of" ["groups", "thing"] (spM m_level_of)) (D_times_of : Def P w K mg base CX0 15 "times_of" ["groups", "thing"] (spM m_times_of)) : Def P w K mg base CX0 16 "credit_by" ["groups", "thing", "slow"] (spM m_credit_by) := by
  refine T.def sc_credit_by (fun vs H Q E h => spM_len h) (fun _ _ _ _ _ _ us hl => match us, hl with | [_, _, _], _ => rfl) fun f cdv A outer s H vs Q E hr h => ?_
  have hu := hr.units
  exact ⟨_, (pss_cons (ps_set (i := 3) sc_credit_by.nd rfl (by first | exact Or.inl rfl | exact Or.inr rfl) (pe_ix (ix_seqK (K := K) rfl) (pe_ix (ix_seqK (K := K) rfl) (pv 0) pe_int (fun _ _ => rfl)) (pv 1) (fun _ _ => rfl)))
      (pss_cons (ps_if (PW.pt (pw_or (pt_cmpR (op_eqK (K := K) rfl hu) (pv 3) pe_int (nomark _)) (pw_or1 (pt_cmpR (op_eqK (K := K) rfl hu) (pe_ix (ix_seqK (K := K) rfl) (pe_ix (ix_seqK (K := K) rfl) (pv 0) pe_int (fun _ _ => rfl)) (pv 1) (fun _ _ => rfl)) (pv 1) (nomark _)))))
      (pss_one (ps_ret (pe_op op_mulM (pv 2) (pv 3))))
      pss_nil)
      (pss_one (ps_ret (pe_op op_sub (pe_op op_mulM (pe_op op_sub (pv 2) (pe_def D_level_of (hr.mono (by omega)) (pa_cons (pv 0) (pa_cons (pv 1) pa_nil)))) (pv 3)) (pe_def D_times_of (hr.mono (by omega)) (pa_cons (pv 0) (pa_cons (pv 1) pa_nil)))))))),
      fn_run (n := 3) (k := 1) (ms_seq (ms_asg (me_op J_ix (me_op J_ix me_var me_int) me_var))
      (ms_seq (ms_if (mt_or (mt_test (me_op J_eq me_var me_int)) (mt_test (me_op J_eq (me_op J_ix (me_op J_ix me_var me_int) me_var) me_var)))
      (ms_ret (me_op J_mul me_var me_var))
      ms_next)
      (ms_ret (me_op J_I0 (me_op J_mul (me_op J_I0 me_var (me_call (ma_cons me_var (ma_cons me_var ma_nil)))) me_var) (me_call (ma_cons me_var (ma_cons me_var ma_nil))))))) rfl h⟩
theorem ok_groups_credit (Z : NoGl mg) (T : Top K mg "groups_credit" s_groups_credit) (D_credit_by : Def P w K mg base CX0 16 "credit_by" ["groups", "thing", "slow"] (spM m_credit_by)) (D_slow_number : Def P w K mg base CX0 14 "slow_number" ["n"] (spM m_slow_number)) : Def P w K mg base CX0 17 "groups_credit" ["groups"] (spM m_groups_credit) := by
  have z_range : mg "range" = none := Z _ (by decide +kernel)
  have z_sum : mg "sum" = none := Z _ (by decide +kernel)
  have z_len : mg "len" = none := Z _ (by decide +kernel)
  refine T.def sc_groups_credit (fun vs H Q E h => spM_len h) (fun _ _ _ _ _ _ us hl => match us, hl with | [_], _ => rfl) fun f cdv A outer s H vs Q E hr h => ?_
  have hu := hr.units
  exact ⟨_, (pss_cons (ps_set (i := 1) sc_groups_credit.nd rfl (by first | exact Or.inl rfl | exact Or.inr rfl) (pe_callB (call_lenK (K := K) rfl) rfl z_len PySem.boot_len (pa_cons (pe_ix (ix_seqK (K := K) rfl) (pv 0) pe_int (fun _ _ => rfl)) pa_nil)))
      (pss_cons (ps_set (i := 2) sc_groups_credit.nd rfl (by first | exact Or.inl rfl | exact Or.inr rfl) (pe_def D_slow_number (hr.mono (by omega)) (pa_cons (pv 1) pa_nil)))
      (pss_one (ps_ret (pe_callB (call_sumK (K := K) rfl rfl) rfl z_sum PyProof.Rows.boot_sum (pa_cons (pe_lc (fr := [("groups", 0), ("slow", 2)]) rfl ⟨rfl, rfl, rfl, rfl, rfl, rfl, by decide +kernel⟩ (pi_range1 rfl z_range (pa_cons (pv 1) pa_nil)) (fun _ _ _ _ => pif_nil) (fun _ _ _ _ => (pe_def D_credit_by (hr.mono (by omega)) (pa_cons (pv 1) (pa_cons (pv 0) (pa_cons (pv 2) pa_nil)))))) pa_nil)))))),
      fn_run (n := 1) (k := 2) (ms_seq (ms_asg (me_cb J_len (ma_cons (me_op J_ix me_var me_int) ma_nil)))
      (ms_seq (ms_asg (me_call (ma_cons me_var ma_nil)))
      (ms_ret (me_cb J_sum (ma_cons (me_lc (mi_rng1 (ma_cons me_var ma_nil)) mt_yes (me_call (ma_cons me_var (ma_cons me_var (ma_cons me_var ma_nil))))) ma_nil))))) rfl h⟩
theorem ok_law_cell_at (Z : NoGl mg) (T : Top K mg "_law_cell_at" s_law_cell_at)  : Def P w K mg base CX0 1 "_law_cell_at" ["_law_script", "_law_k"] (spM m_law_cell_at) := by
  have z_len : mg "len" = none := Z _ (by decide +kernel)
  refine T.def sc_law_cell_at (fun vs H Q E h => spM_len h) (fun _ _ _ _ _ _ us hl => match us, hl with | [_, _], _ => rfl) fun f cdv A outer s H vs Q E hr h => ?_
  have hu := hr.units
  exact ⟨_, (pss_cons (ps_if (pt_cmpR op_lt (pv 1) (pe_callB (call_lenK (K := K) rfl) rfl z_len PySem.boot_len (pa_cons (pv 0) pa_nil)) (nomark _))
      (pss_one (ps_ret (pe_ix (ix_seqK (K := K) rfl) (pv 0) (pv 1) (fun _ _ => rfl))))
      pss_nil)
      (pss_one (ps_ret pe_int))),
      fn_run (n := 2) (k := 0) (ms_seq (ms_if (mt_test (me_op J_B0 me_var (me_cb J_len (ma_cons me_var ma_nil))))
      (ms_ret (me_op J_ix me_var me_var))
      ms_next)
      (ms_ret me_int)) rfl h⟩
theorem ok_way_up (Z : NoGl mg) (T : Top K mg "way_up" s_way_up)  : Def P w K mg base CX0 1 "way_up" ["above", "thing"] (spM m_way_up) := by
  refine T.def sc_way_up (fun vs H Q E h => spM_len h) (fun _ _ _ _ _ _ us hl => match us, hl with | [_, _], _ => rfl) fun f cdv A outer s H vs Q E hr h => ?_
  have hu := hr.units
  exact ⟨_, (pss_cons (ps_set (i := 2) sc_way_up.nd rfl (by first | exact Or.inl rfl | exact Or.inr rfl) (pe_lst (pa_cons (pv 1) pa_nil)))
      (pss_cons (ps_while PassesOwn.never (pt_cmpR (op_neK (K := K) rfl hu) (pe_ix (ix_seqK (K := K) rfl) (pv 0) (pe_ix (ix_seqK (K := K) rfl) (pv 2) (pe_un un_neg pe_int) (fun _ _ => rfl)) (fun _ _ => rfl)) (pe_ix (ix_seqK (K := K) rfl) (pv 2) (pe_un un_neg pe_int) (fun _ _ => rfl)) (nomark _))
      (pss_one (ps_expr (pe_bmK (K := K) rfl PySem.F.plainAttrs_list PySem.F.slot_list_append PySem.F.type_list_append mt_append (pv 2) (pa_cons (pe_ix (ix_seqK (K := K) rfl) (pv 0) (pe_ix (ix_seqK (K := K) rfl) (pv 2) (pe_un un_neg pe_int) (fun _ _ => rfl)) (fun _ _ => rfl)) pa_nil)))))
      (pss_one (ps_ret (pv 2))))),
      fn_run (n := 2) (k := 1) (ms_seq (ms_asg (me_lst (ma_cons me_var ma_nil)))
      (ms_seq (ms_while (mt_test (me_op J_ne (me_op J_ix me_var (me_op J_ix me_var (me_un J_neg me_int))) (me_op J_ix me_var (me_un J_neg me_int))))
      (ms_drop (me_mut J_append (ma_cons (me_op J_ix me_var (me_op J_ix me_var (me_un J_neg me_int))) ma_nil))))
      (ms_ret me_var))) rfl h⟩
theorem ok_is_count (Z : NoGl mg) (T : Top K mg "is_count" s_is_count)  : Def P w K mg base CX0 1 "is_count" ["value"] (spM m_is_count) := by
  have z_bool : mg "bool" = none := Z _ (by decide +kernel)
  have z_isinstance : mg "isinstance" = none := Z _ (by decide +kernel)
  have z_int : mg "int" = none := Z _ (by decide +kernel)
  refine T.def sc_is_count (fun vs H Q E h => spM_len h) (fun _ _ _ _ _ _ us hl => match us, hl with | [_], _ => rfl) fun f cdv A outer s H vs Q E hr h => ?_
  have hu := hr.units
  exact ⟨_, (pss_one (ps_ret (pe_and (pe_callB call_isi rfl z_isinstance PyProof.Rows.boot_isinstance (pa_cons (pv 0) (pa_cons (pe_ty z_int PyProof.Rows.boot_int) pa_nil))) (pe_and (pe_not (pe_callB call_isi rfl z_isinstance PyProof.Rows.boot_isinstance (pa_cons (pv 0) (pa_cons (pe_ty z_bool PyProof.Rows.boot_bool) pa_nil)))) (pe_one (pe_cmpR op_ge (pv 0) pe_int (nomark _))))))),
      fn_run (n := 1) (k := 0) (ms_ret (me_andV (me_isi me_var) (me_andV (me_notV (me_isi me_var)) (me_op J_B0 me_var me_int)))) rfl h⟩
theorem ok_find_top (Z : NoGl mg) (T : Top K mg "find_top" s_find_top) (D_way_up : Def P w K mg base CX0 1 "way_up" ["above", "thing"] (spM m_way_up)) (D_is_count : Def P w K mg base CX0 1 "is_count" ["value"] (spM m_is_count)) : Def P w K mg base CX0 2 "find_top" ["groups", "thing"] (spM m_find_top) := by
  have z_list : mg "list" = none := Z _ (by decide +kernel)
  have z_len : mg "len" = none := Z _ (by decide +kernel)
  refine T.def sc_find_top (fun vs H Q E h => spM_len h) (fun _ _ _ _ _ _ us hl => match us, hl with | [_, _], _ => rfl) fun f cdv A outer s H vs Q E hr h => ?_
  have hu := hr.units
  exact ⟨_, (pss_cons (ps_if (PW.pt (pw_or (pt_not (pt_val (pe_def D_is_count (hr.mono (by omega)) (pa_cons (pv 1) pa_nil)))) (pw_or1 (pt_cmpR op_ge (pv 1) (pe_callB (call_lenK (K := K) rfl) rfl z_len PySem.boot_len (pa_cons (pe_ix (ix_seqK (K := K) rfl) (pv 0) pe_int (fun _ _ => rfl)) pa_nil)) (nomark _)))))
      (pss_one ps_never)
      pss_nil)
      (pss_cons (ps_set (i := 2) sc_find_top.nd rfl (by first | exact Or.inl rfl | exact Or.inr rfl) (pe_def D_way_up (hr.mono (by omega)) (pa_cons (pe_ix (ix_seqK (K := K) rfl) (pv 0) pe_int (fun _ _ => rfl)) (pa_cons (pv 1) pa_nil))))
      (pss_cons (ps_set (i := 3) sc_find_top.nd rfl (by first | exact Or.inl rfl | exact Or.inr rfl) (pe_ix (ix_seqK (K := K) rfl) (pv 2) (pe_un un_neg pe_int) (fun _ _ => rfl)))
      (pss_cons (ps_set (i := 4) sc_find_top.nd rfl (by first | exact Or.inl rfl | exact Or.inr rfl) (pe_callTy (call_listK (K := K) rfl) rfl z_list PyProof.Rows.boot_list (pa_cons (pe_ix (ix_seqK (K := K) rfl) (pv 0) pe_int (fun _ _ => rfl)) pa_nil)))
      (pss_cons (ps_for PassesOwn.never rfl (pi_listK (K := K) rfl (pv 2)) (pg_name (i := 5) sc_find_top.nd rfl (by first | exact Or.inl rfl | exact Or.inr rfl))
      (pss_one (ps_asg (pv 3) (pg_sub (pv 4) (pv 5) set_list))))
      (pss_one (ps_ret (pe_tup (pa_cons (pv 3) (pa_cons (pe_tup (pa_cons (pv 4) (pa_cons (pe_callTy (call_listK (K := K) rfl) rfl z_list PyProof.Rows.boot_list (pa_cons (pe_ix (ix_seqK (K := K) rfl) (pv 0) pe_int (fun _ _ => rfl)) pa_nil)) pa_nil))) (pa_cons (pv 2) pa_nil))))))))))),
      fn_run (n := 2) (k := 4) (ms_seq (ms_if (mt_or (mt_not (mt_tB (me_call (ma_cons me_var ma_nil)))) (mt_test (me_op J_B0 me_var (me_cb J_len (ma_cons (me_op J_ix me_var me_int) ma_nil)))))
      ms_never
      ms_next)
      (ms_seq (ms_asg (me_call (ma_cons (me_op J_ix me_var me_int) (ma_cons me_var ma_nil))))
      (ms_seq (ms_asg (me_op J_ix me_var (me_un J_neg me_int)))
      (ms_seq (ms_asg (me_cb J_list (ma_cons (me_op J_ix me_var me_int) ma_nil)))
      (ms_seq (ms_for (mf_list me_var) mg_name
      (ms_asgG me_var (mg_sub me_var)))
      (ms_ret (me_tup (ma_cons me_var (ma_cons (me_tup (ma_cons me_var (ma_cons (me_cb J_list (ma_cons (me_op J_ix me_var me_int) ma_nil)) ma_nil))) (ma_cons me_var ma_nil)))))))))) rfl h⟩
theorem ok_link_tops (Z : NoGl mg) (T : Top K mg "link_tops" s_link_tops)  : Def P w K mg base CX0 1 "link_tops" ["groups", "one", "other"] (spM m_link_tops) := by
  have z_list : mg "list" = none := Z _ (by decide +kernel)
  refine T.def sc_link_tops (fun vs H Q E h => spM_len h) (fun _ _ _ _ _ _ us hl => match us, hl with | [_, _, _], _ => rfl) fun f cdv A outer s H vs Q E hr h => ?_
  have hu := hr.units
  exact ⟨_, (pss_cons (ps_set (i := 3) sc_link_tops.nd rfl (by first | exact Or.inl rfl | exact Or.inr rfl) (pe_callTy (call_listK (K := K) rfl) rfl z_list PyProof.Rows.boot_list (pa_cons (pe_ix (ix_seqK (K := K) rfl) (pv 0) pe_int (fun _ _ => rfl)) pa_nil)))
      (pss_cons (ps_set (i := 4) sc_link_tops.nd rfl (by first | exact Or.inl rfl | exact Or.inr rfl) (pe_callTy (call_listK (K := K) rfl) rfl z_list PyProof.Rows.boot_list (pa_cons (pe_ix (ix_seqK (K := K) rfl) (pv 0) pe_int (fun _ _ => rfl)) pa_nil)))
      (pss_cons (ps_if (pt_cmpR op_lt (pe_ix (ix_seqK (K := K) rfl) (pv 4) (pv 1) (fun _ _ => rfl)) (pe_ix (ix_seqK (K := K) rfl) (pv 4) (pv 2) (fun _ _ => rfl)) (nomark _))
      (pss_one (ps_asg (pv 2) (pg_sub (pv 3) (pv 1) set_list)))
      (pss_cons (ps_asg (pv 1) (pg_sub (pv 3) (pv 2) set_list))
      (pss_one (ps_if (pt_cmpR (op_eqK (K := K) rfl hu) (pe_ix (ix_seqK (K := K) rfl) (pv 4) (pv 1) (fun _ _ => rfl)) (pe_ix (ix_seqK (K := K) rfl) (pv 4) (pv 2) (fun _ _ => rfl)) (nomark _))
      (pss_one (ps_augS (pv 4) (pv 1) (get_listK (K := K) rfl) pe_int ip_add set_list))
      pss_nil))))
      (pss_one (ps_ret (pe_tup (pa_cons (pv 3) (pa_cons (pv 4) pa_nil)))))))),
      fn_run (n := 3) (k := 2) (ms_seq (ms_asg (me_cb J_list (ma_cons (me_op J_ix me_var me_int) ma_nil)))
      (ms_seq (ms_asg (me_cb J_list (ma_cons (me_op J_ix me_var me_int) ma_nil)))
      (ms_seq (ms_if (mt_test (me_op J_B0 (me_op J_ix me_var me_var) (me_op J_ix me_var me_var)))
      (ms_asgG me_var (mg_sub me_var))
      (ms_seq (ms_asgG me_var (mg_sub me_var))
      (ms_if (mt_test (me_op J_eq (me_op J_ix me_var me_var) (me_op J_ix me_var me_var)))
      (ms_augS me_var me_int)
      ms_next)))
      (ms_ret (me_tup (ma_cons me_var (ma_cons me_var ma_nil))))))) rfl h⟩
theorem ok_join_groups (Z : NoGl mg) (T : Top K mg "join_groups" s_join_groups) (D_link_tops : Def P w K mg base CX0 1 "link_tops" ["groups", "one", "other"] (spM m_link_tops)) (D_find_top : Def P w K mg base CX0 2 "find_top" ["groups", "thing"] (spM m_find_top)) : Def P w K mg base CX0 3 "join_groups" ["groups", "one", "other"] (spM m_join_groups) := by
  refine T.def sc_join_groups (fun vs H Q E h => spM_len h) (fun _ _ _ _ _ _ us hl => match us, hl with | [_, _, _], _ => rfl) fun f cdv A outer s H vs Q E hr h => ?_
  have hu := hr.units
  exact ⟨_, (pss_cons (ps_set (i := 3) sc_join_groups.nd rfl (by first | exact Or.inl rfl | exact Or.inr rfl) (pe_def D_find_top (hr.mono (by omega)) (pa_cons (pv 0) (pa_cons (pv 1) pa_nil))))
      (pss_cons (ps_set (i := 4) sc_join_groups.nd rfl (by first | exact Or.inl rfl | exact Or.inr rfl) (pe_def D_find_top (hr.mono (by omega)) (pa_cons (pe_ix (ix_seqK (K := K) rfl) (pv 3) pe_int (fun _ _ => rfl)) (pa_cons (pv 2) pa_nil))))
      (pss_cons (ps_if (pt_cmpR (op_eqK (K := K) rfl hu) (pe_ix (ix_seqK (K := K) rfl) (pv 3) pe_int (fun _ _ => rfl)) (pe_ix (ix_seqK (K := K) rfl) (pv 4) pe_int (fun _ _ => rfl)) (nomark _))
      (pss_one (ps_ret (pe_tup (pa_cons pe_bl (pa_cons (pe_ix (ix_seqK (K := K) rfl) (pv 4) pe_int (fun _ _ => rfl)) (pa_cons (pe_ix (ix_seqK (K := K) rfl) (pv 3) pe_int (fun _ _ => rfl)) (pa_cons (pe_ix (ix_seqK (K := K) rfl) (pv 4) pe_int (fun _ _ => rfl)) pa_nil)))))))
      pss_nil)
      (pss_one (ps_ret (pe_tup (pa_cons pe_bl (pa_cons (pe_def D_link_tops (hr.mono (by omega)) (pa_cons (pe_ix (ix_seqK (K := K) rfl) (pv 4) pe_int (fun _ _ => rfl)) (pa_cons (pe_ix (ix_seqK (K := K) rfl) (pv 3) pe_int (fun _ _ => rfl)) (pa_cons (pe_ix (ix_seqK (K := K) rfl) (pv 4) pe_int (fun _ _ => rfl)) pa_nil)))) (pa_cons (pe_ix (ix_seqK (K := K) rfl) (pv 3) pe_int (fun _ _ => rfl)) (pa_cons (pe_ix (ix_seqK (K := K) rfl) (pv 4) pe_int (fun _ _ => rfl)) pa_nil)))))))))),
      fn_run (n := 3) (k := 2) (ms_seq (ms_asg (me_call (ma_cons me_var (ma_cons me_var ma_nil))))
      (ms_seq (ms_asg (me_call (ma_cons (me_op J_ix me_var me_int) (ma_cons me_var ma_nil))))
      (ms_seq (ms_if (mt_test (me_op J_eq (me_op J_ix me_var me_int) (me_op J_ix me_var me_int)))
      (ms_ret (me_tup (ma_cons me_bl (ma_cons (me_op J_ix me_var me_int) (ma_cons (me_op J_ix me_var me_int) (ma_cons (me_op J_ix me_var me_int) ma_nil))))))
      ms_next)
      (ms_ret (me_tup (ma_cons me_bl (ma_cons (me_call (ma_cons (me_op J_ix me_var me_int) (ma_cons (me_op J_ix me_var me_int) (ma_cons (me_op J_ix me_var me_int) ma_nil)))) (ma_cons (me_op J_ix me_var me_int) (ma_cons (me_op J_ix me_var me_int) ma_nil))))))))) rfl h⟩
theorem ok_law_joined (Z : NoGl mg) (T : Top K mg "_law_joined" s_law_joined)  : Def P w K mg base CX0 1 "_law_joined" ["_law_marks", "_law_one", "_law_other"] (spI m_law_joined) := by
  have z_len : mg "len" = none := Z _ (by decide +kernel)
  have z_range : mg "range" = none := Z _ (by decide +kernel)
  refine T.def sc_law_joined (fun vs H Q E h => spI_len h) (fun _ _ _ _ _ _ us hl => match us, hl with | [_, _, _], _ => rfl) fun f cdv A outer s H vs Q E hr h => ?_
  have hu := hr.units
  exact ⟨_, (pss_cons (ps_set (i := 3) sc_law_joined.nd rfl (by first | exact Or.inl rfl | exact Or.inr rfl) (pe_ix (ix_seqK (K := K) rfl) (pv 0) (pv 2) (fun _ _ => rfl)))
      (pss_one (ps_for PassesOwn.never rfl (pi_range1 rfl z_range (pa_cons (pe_callB (call_lenK (K := K) rfl) rfl z_len PySem.boot_len (pa_cons (pv 0) pa_nil)) pa_nil)) (pg_name (i := 4) sc_law_joined.nd rfl (by first | exact Or.inl rfl | exact Or.inr rfl))
      (pss_one (ps_if (pt_cmpR (op_eqK (K := K) rfl hu) (pe_ix (ix_seqK (K := K) rfl) (pv 0) (pv 4) (fun _ _ => rfl)) (pv 3) (nomark _))
      (pss_one (ps_asg (pe_ix (ix_seqK (K := K) rfl) (pv 0) (pv 1) (fun _ _ => rfl)) (pg_sub (pv 0) (pv 4) set_list)))
      pss_nil))))),
      fn_runI (n := 3) (k := 2) (ms_seq (ms_asg (me_op J_ix me_var me_var))
      (ms_for (mf_rng1 (ma_cons (me_cb J_len (ma_cons me_var ma_nil)) ma_nil)) mg_name
      (ms_if (mt_test (me_op J_eq (me_op J_ix me_var me_var) me_var))
      (ms_asgG (me_op J_ix me_var me_var) (mg_sub me_var))
      ms_next))) rfl h⟩
theorem ok_top_from (Z : NoGl mg) (T : Top K mg "top_from" s_top_from)  : Def P w K mg base CX0 1 "top_from" ["above", "thing"] (spM m_top_from) := by
  have z_len : mg "len" = none := Z _ (by decide +kernel)
  have z_range : mg "range" = none := Z _ (by decide +kernel)
  refine T.def sc_top_from (fun vs H Q E h => spM_len h) (fun _ _ _ _ _ _ us hl => match us, hl with | [_, _], _ => rfl) fun f cdv A outer s H vs Q E hr h => ?_
  have hu := hr.units
  exact ⟨_, (pss_cons (ps_set (i := 2) sc_top_from.nd rfl (by first | exact Or.inl rfl | exact Or.inr rfl) (pv 1))
      (pss_cons (ps_for PassesOwn.never rfl (pi_range1 rfl z_range (pa_cons (pe_callB (call_lenK (K := K) rfl) rfl z_len PySem.boot_len (pa_cons (pv 0) pa_nil)) pa_nil)) (pg_name (i := 3) sc_top_from.nd rfl (by first | exact Or.inl rfl | exact Or.inr rfl))
      (pss_cons (ps_if (PW.pt (pw_or (pt_cmpR op_lt (pv 2) pe_int (nomark _)) (pw_or1 (pt_cmpR op_ge (pv 2) (pe_callB (call_lenK (K := K) rfl) rfl z_len PySem.boot_len (pa_cons (pv 0) pa_nil)) (nomark _)))))
      (pss_one (ps_ret pe_non))
      pss_nil)
      (pss_cons (ps_if (pt_cmpR (op_eqK (K := K) rfl hu) (pe_ix (ix_seqK (K := K) rfl) (pv 0) (pv 2) (fun _ _ => rfl)) (pv 2) (nomark _))
      (pss_one (ps_ret (pv 2)))
      pss_nil)
      (pss_one (ps_set (i := 2) sc_top_from.nd rfl (by first | exact Or.inl rfl | exact Or.inr rfl) (pe_ix (ix_seqK (K := K) rfl) (pv 0) (pv 2) (fun _ _ => rfl)))))))
      (pss_one (ps_ret pe_non)))),
      fn_run (n := 2) (k := 2) (ms_seq (ms_asg me_var)
      (ms_seq (ms_for (mf_rng1 (ma_cons (me_cb J_len (ma_cons me_var ma_nil)) ma_nil)) mg_name
      (ms_seq (ms_if (mt_or (mt_test (me_op J_B0 me_var me_int)) (mt_test (me_op J_B0 me_var (me_cb J_len (ma_cons me_var ma_nil)))))
      (ms_ret me_non)
      ms_next)
      (ms_seq (ms_if (mt_test (me_op J_eq (me_op J_ix me_var me_var) me_var))
      (ms_ret me_var)
      ms_next)
      (ms_asg (me_op J_ix me_var me_var)))))
      (ms_ret me_non))) rfl h⟩
theorem ok_groups_in_form (Z : NoGl mg) (T : Top K mg "groups_in_form" s_groups_in_form) (D_top_from : Def P w K mg base CX0 1 "top_from" ["above", "thing"] (spM m_top_from)) : Def P w K mg base CX0 2 "groups_in_form" ["above", "ranks"] (spM m_groups_in_form) := by
  have z_len : mg "len" = none := Z _ (by decide +kernel)
  have z_range : mg "range" = none := Z _ (by decide +kernel)
  refine T.def sc_groups_in_form (fun vs H Q E h => spM_len h) (fun _ _ _ _ _ _ us hl => match us, hl with | [_, _], _ => rfl) fun f cdv A outer s H vs Q E hr h => ?_
  have hu := hr.units
  exact ⟨_, (pss_cons (ps_setLC (i0 := 2) (fr := [("above", 0)]) rfl sc_groups_in_form.nd rfl (by first | exact Or.inl rfl | exact Or.inr rfl) ⟨rfl, rfl, rfl, rfl, rfl, rfl, by decide +kernel⟩ (pi_range1 rfl z_range (pa_cons (pe_callB (call_lenK (K := K) rfl) rfl z_len PySem.boot_len (pa_cons (pv 0) pa_nil)) pa_nil)) (fun _ _ _ _ => pif_nil) (fun _ _ _ _ => (pe_def D_top_from (hr.mono (by omega)) (pa_cons (pv 1) (pa_cons (pv 0) pa_nil)))))
      (pss_cons (ps_if (pt_cmpR (op_inK (K := K) rfl) pe_non (pv 2) rfl)
      (pss_one (ps_ret pe_bl))
      pss_nil)
      (pss_cons (ps_for PassesOwn.never rfl (pi_range1 rfl z_range (pa_cons (pe_callB (call_lenK (K := K) rfl) rfl z_len PySem.boot_len (pa_cons (pv 0) pa_nil)) pa_nil)) (pg_name (i := 3) sc_groups_in_form.nd rfl (by first | exact Or.inl rfl | exact Or.inr rfl))
      (pss_cons (ps_if (pt_cmpR op_lt (pe_ix (ix_seqK (K := K) rfl) (pv 1) (pv 3) (fun _ _ => rfl)) pe_int (nomark _))
      (pss_one (ps_ret pe_bl))
      pss_nil)
      (pss_one (ps_if (pt_cmpR (op_eqK (K := K) rfl hu) (pe_ix (ix_seqK (K := K) rfl) (pv 0) (pv 3) (fun _ _ => rfl)) (pv 3) (nomark _))
      (pss_one (ps_if (pt_cmpR op_ge (pe_ix (ix_seqK (K := K) rfl) (pv 1) (pv 3) (fun _ _ => rfl)) (pe_bmK (K := K) rfl PySem.F.plainAttrs_list PySem.F.slot_list_count PySem.F.type_list_count (mt_countK (K := K) rfl) (pv 2) (pa_cons (pv 3) pa_nil)) (nomark _))
      (pss_one (ps_ret pe_bl))
      pss_nil))
      (pss_one (ps_if (pt_cmpR op_ge (pe_ix (ix_seqK (K := K) rfl) (pv 1) (pv 3) (fun _ _ => rfl)) (pe_ix (ix_seqK (K := K) rfl) (pv 1) (pe_ix (ix_seqK (K := K) rfl) (pv 0) (pv 3) (fun _ _ => rfl)) (fun _ _ => rfl)) (nomark _))
      (pss_one (ps_ret pe_bl))
      pss_nil))))))
      (pss_one (ps_ret pe_bl))))),
      fn_run (n := 2) (k := 2) (ms_seq (ms_asg (me_lc (mi_rng1 (ma_cons (me_cb J_len (ma_cons me_var ma_nil)) ma_nil)) mt_yes (me_call (ma_cons me_var (ma_cons me_var ma_nil)))))
      (ms_seq (ms_if (mt_test (me_op J_in me_non me_var))
      (ms_ret me_bl)
      ms_next)
      (ms_seq (ms_for (mf_rng1 (ma_cons (me_cb J_len (ma_cons me_var ma_nil)) ma_nil)) mg_name
      (ms_seq (ms_if (mt_test (me_op J_B0 (me_op J_ix me_var me_var) me_int))
      (ms_ret me_bl)
      ms_next)
      (ms_if (mt_test (me_op J_eq (me_op J_ix me_var me_var) me_var))
      (ms_if (mt_test (me_op J_B0 (me_op J_ix me_var me_var) (me_bm J_count me_var (ma_cons me_var ma_nil))))
      (ms_ret me_bl)
      ms_next)
      (ms_if (mt_test (me_op J_B0 (me_op J_ix me_var me_var) (me_op J_ix me_var (me_op J_ix me_var me_var))))
      (ms_ret me_bl)
      ms_next))))
      (ms_ret me_bl)))) rfl h⟩
theorem ok_find_price (Z : NoGl mg) (T : Top K mg "find_price" s_find_price) (D_slow_number : Def P w K mg base CX0 14 "slow_number" ["n"] (spM m_slow_number)) : Def P w K mg base CX0 15 "find_price" ["n"] (spM m_find_price) := by
  refine T.def sc_find_price (fun vs H Q E h => spM_len h) (fun _ _ _ _ _ _ us hl => match us, hl with | [_], _ => rfl) fun f cdv A outer s H vs Q E hr h => ?_
  have hu := hr.units
  exact ⟨_, (pss_one (ps_ret (pe_op (op_addK (K := K) rfl) (pe_def D_slow_number (hr.mono (by omega)) (pa_cons (pv 0) pa_nil)) pe_int))),
      fn_run (n := 1) (k := 0) (ms_ret (me_op J_add (me_call (ma_cons me_var ma_nil)) me_int)) rfl h⟩
theorem ok_join_price (Z : NoGl mg) (T : Top K mg "join_price" s_join_price) (D_find_price : Def P w K mg base CX0 15 "find_price" ["n"] (spM m_find_price)) (D_slow_number : Def P w K mg base CX0 14 "slow_number" ["n"] (spM m_slow_number)) : Def P w K mg base CX0 16 "join_price" ["n"] (spM m_join_price) := by
  refine T.def sc_join_price (fun vs H Q E h => spM_len h) (fun _ _ _ _ _ _ us hl => match us, hl with | [_], _ => rfl) fun f cdv A outer s H vs Q E hr h => ?_
  have hu := hr.units
  exact ⟨_, (pss_one (ps_ret (pe_op (op_addK (K := K) rfl) (pe_op (op_addK (K := K) rfl) (pe_op op_mulM pe_int (pe_def D_find_price (hr.mono (by omega)) (pa_cons (pv 0) pa_nil))) (pe_def D_slow_number (hr.mono (by omega)) (pa_cons (pv 0) pa_nil))) pe_int))),
      fn_run (n := 1) (k := 0) (ms_ret (me_op J_add (me_op J_add (me_op J_mul me_int (me_call (ma_cons me_var ma_nil))) (me_call (ma_cons me_var ma_nil))) me_int)) rfl h⟩
theorem ok_law {f : Addr} {fd : FuncData} (NL : noLists K = true) (Z : NoGl mg) (F : Fun K "law" "law" s_law f fd) (D_law_one_top : Def P w K mg base CX0 1 "_law_one_top" ["_law_groups", "_law_marks"] (spM m_law_one_top)) (D_groups_in_form : Def P w K mg base CX0 2 "groups_in_form" ["above", "ranks"] (spM m_groups_in_form)) (D_groups_credit : Def P w K mg base CX0 17 "groups_credit" ["groups"] (spM m_groups_credit)) (D_find_price : Def P w K mg base CX0 15 "find_price" ["n"] (spM m_find_price)) (D_find_top : Def P w K mg base CX0 2 "find_top" ["groups", "thing"] (spM m_find_top)) (D_join_price : Def P w K mg base CX0 16 "join_price" ["n"] (spM m_join_price)) (D_law_joined : Def P w K mg base CX0 1 "_law_joined" ["_law_marks", "_law_one", "_law_other"] (spI m_law_joined)) (D_join_groups : Def P w K mg base CX0 3 "join_groups" ["groups", "one", "other"] (spM m_join_groups)) (D_begin_groups : Def P w K mg base CX0 1 "begin_groups" ["n"] (spM m_begin_groups)) (D_law_cell_at : Def P w K mg base CX0 1 "_law_cell_at" ["_law_script", "_law_k"] (spM m_law_cell_at)) : FnOk P w K mg base CX0 18 f fd ["_law_script"] (spLaw K) := by
  have z_len : mg "len" = none := Z _ (by decide +kernel)
  have z_int : mg "int" = none := Z _ (by decide +kernel)
  have z_list : mg "list" = none := Z _ (by decide +kernel)
  have z_range : mg "range" = none := Z _ (by decide +kernel)
  refine FnOk.imp (sp := spM m_law) ?_ (law_sp NL law_true)
  refine F.ok sc_law (fun vs H Q E h => spM_len h) fun cdv A outer s H vs Q E hr h => ?_
  have hu := hr.units
  exact ⟨_, (pss_cons (ps_set (i := 1) sc_law.nd rfl (by first | exact Or.inl rfl | exact Or.inr rfl) (pe_op (op_addK (K := K) rfl) pe_int (pe_op op_mod (pe_def D_law_cell_at (hr.mono (by omega)) (pa_cons (pv 0) (pa_cons pe_int pa_nil))) pe_int)))
      (pss_cons (ps_set (i := 2) sc_law.nd rfl (by first | exact Or.inl rfl | exact Or.inr rfl) (pe_def D_begin_groups (hr.mono (by omega)) (pa_cons (pv 1) pa_nil)))
      (pss_cons (ps_if (pt_cmpR (op_neK (K := K) rfl hu) (pe_def D_groups_credit (hr.mono (by omega)) (pa_cons (pv 2) pa_nil)) pe_int (nomark _))
      (pss_one (ps_ret pe_bl))
      pss_nil)
      (pss_cons (ps_set (i := 3) sc_law.nd rfl (by first | exact Or.inl rfl | exact Or.inr rfl) (pe_listRng rfl rfl z_list rfl z_range (pa_cons (pv 1) pa_nil)))
      (pss_cons (ps_set (i := 4) sc_law.nd rfl (by first | exact Or.inl rfl | exact Or.inr rfl) pe_int)
      (pss_cons (ps_for PassesOwn.never rfl (pi_listK (K := K) rfl (pe_slice (sl_listK (K := K) rfl) (pv 0) (po_some pe_int) (po_some pe_int))) (pg_name (i := 5) sc_law.nd rfl (by first | exact Or.inl rfl | exact Or.inr rfl))
      (pss_cons (ps_set (i := 6) sc_law.nd rfl (by first | exact Or.inl rfl | exact Or.inr rfl) (pe_op op_mod (pe_op op_fdiv (pv 5) pe_int) (pv 1)))
      (pss_cons (ps_set (i := 7) sc_law.nd rfl (by first | exact Or.inl rfl | exact Or.inr rfl) (pe_op op_mod (pe_op op_fdiv (pe_op op_fdiv (pv 5) pe_int) (pv 1)) (pv 1)))
      (pss_cons (ps_if (pt_cmpR (op_eqK (K := K) rfl hu) (pe_op op_mod (pv 5) pe_int) pe_int (nomark _))
      (pss_cons (ps_asg (pe_def D_find_top (hr.mono (by omega)) (pa_cons (pv 2) (pa_cons (pv 6) pa_nil))) (pg_tupL rfl (pgs_cons (pg_name (i := 8) sc_law.nd rfl (by first | exact Or.inl rfl | exact Or.inr rfl)) (pgs_cons (pg_name (i := 2) sc_law.nd rfl (by first | exact Or.inl rfl | exact Or.inr rfl)) (pgs_cons (pg_name (i := 9) sc_law.nd rfl (by first | exact Or.inl rfl | exact Or.inr rfl)) pgs_nil)))))
      (pss_cons (ps_if (pt_cmpR (op_neK (K := K) rfl hu) (pe_ix (ix_seqK (K := K) rfl) (pv 3) (pv 8) (fun _ _ => rfl)) (pe_ix (ix_seqK (K := K) rfl) (pv 3) (pv 6) (fun _ _ => rfl)) (nomark _))
      (pss_one (ps_ret pe_bl))
      pss_nil)
      (pss_one (ps_set (i := 4) sc_law.nd rfl (by first | exact Or.inl rfl | exact Or.inr rfl) (pe_op op_sub (pe_op (op_addK (K := K) rfl) (pv 4) (pe_def D_find_price (hr.mono (by omega)) (pa_cons (pv 1) pa_nil))) (pe_callB (call_lenK (K := K) rfl) rfl z_len PySem.boot_len (pa_cons (pv 9) pa_nil)))))))
      (pss_cons (ps_asg (pe_def D_join_groups (hr.mono (by omega)) (pa_cons (pv 2) (pa_cons (pv 6) (pa_cons (pv 7) pa_nil)))) (pg_tupL rfl (pgs_cons (pg_name (i := 10) sc_law.nd rfl (by first | exact Or.inl rfl | exact Or.inr rfl)) (pgs_cons (pg_name (i := 2) sc_law.nd rfl (by first | exact Or.inl rfl | exact Or.inr rfl)) (pgs_cons (pg_name (i := 9) sc_law.nd rfl (by first | exact Or.inl rfl | exact Or.inr rfl)) (pgs_cons (pg_name (i := 11) sc_law.nd rfl (by first | exact Or.inl rfl | exact Or.inr rfl)) pgs_nil))))))
      (pss_cons (ps_if (pt_cmpR (op_neK (K := K) rfl hu) (pv 10) (pe_cmpR (op_neK (K := K) rfl hu) (pe_ix (ix_seqK (K := K) rfl) (pv 3) (pv 6) (fun _ _ => rfl)) (pe_ix (ix_seqK (K := K) rfl) (pv 3) (pv 7) (fun _ _ => rfl)) (nomark _)) (nomark _))
      (pss_one (ps_ret pe_bl))
      pss_nil)
      (pss_cons (ps_expr (pe_def D_law_joined (hr.mono (by omega)) (pa_cons (pv 3) (pa_cons (pv 6) (pa_cons (pv 7) pa_nil)))))
      (pss_one (ps_set (i := 4) sc_law.nd rfl (by first | exact Or.inl rfl | exact Or.inr rfl) (pe_op op_sub (pe_op op_sub (pe_op op_sub (pe_op (op_addK (K := K) rfl) (pv 4) (pe_def D_join_price (hr.mono (by omega)) (pa_cons (pv 1) pa_nil))) (pe_callB (call_lenK (K := K) rfl) rfl z_len PySem.boot_len (pa_cons (pv 9) pa_nil))) (pe_callB (call_lenK (K := K) rfl) rfl z_len PySem.boot_len (pa_cons (pv 11) pa_nil))) (pe_callTy call_int1 rfl z_int PyProof.Rows.boot_int (pa_cons (pv 10) pa_nil)))))))))
      (pss_cons (ps_set (i := 12) sc_law.nd rfl (by first | exact Or.inl rfl | exact Or.inr rfl) (pe_def D_groups_credit (hr.mono (by omega)) (pa_cons (pv 2) pa_nil)))
      (pss_one (ps_if (PW.pt (pw_or (pt_cmpR op_lt (pv 12) pe_int (nomark _)) (pw_or (pt_cmpR op_gt (pv 12) (pv 4) (nomark _)) (pw_or1 (pt_not (pt_val (pe_def D_groups_in_form (hr.mono (by omega)) (pa_cons (pe_ix (ix_seqK (K := K) rfl) (pv 2) pe_int (fun _ _ => rfl)) (pa_cons (pe_ix (ix_seqK (K := K) rfl) (pv 2) pe_int (fun _ _ => rfl)) pa_nil)))))))))
      (pss_one (ps_ret pe_bl))
      pss_nil)))))))
      (pss_one (ps_ret (pe_def D_law_one_top (hr.mono (by omega)) (pa_cons (pv 2) (pa_cons (pv 3) pa_nil))))))))))),
      fn_run (n := 1) (k := 12) (ms_seq (ms_asg (me_op J_add me_int (me_op J_I (me_call (ma_cons me_var (ma_cons me_int ma_nil))) me_int)))
      (ms_seq (ms_asg (me_call (ma_cons me_var ma_nil)))
      (ms_seq (ms_if (mt_test (me_op J_ne (me_call (ma_cons me_var ma_nil)) me_int))
      (ms_ret me_bl)
      ms_next)
      (ms_seq (ms_asg (me_cb J_listRng (ma_cons me_var ma_nil)))
      (ms_seq (ms_asg me_int)
      (ms_seq (ms_for (mf_list (me_sl J_sl me_var (mo_some me_int) (mo_some me_int))) mg_name
      (ms_seq (ms_asg (me_op J_I (me_op J_I me_var me_int) me_var))
      (ms_seq (ms_asg (me_op J_I (me_op J_I (me_op J_I me_var me_int) me_var) me_var))
      (ms_seq (ms_if (mt_test (me_op J_eq (me_op J_I me_var me_int) me_int))
      (ms_seq (ms_asgG (me_call (ma_cons me_var (ma_cons me_var ma_nil))) (mg_tupL (mgs_cons mg_name (mgs_cons mg_name (mgs_cons mg_name mgs_nil)))))
      (ms_seq (ms_if (mt_test (me_op J_ne (me_op J_ix me_var me_var) (me_op J_ix me_var me_var)))
      (ms_ret me_bl)
      ms_next)
      (ms_asg (me_op J_I0 (me_op J_add me_var (me_call (ma_cons me_var ma_nil))) (me_cb J_len (ma_cons me_var ma_nil))))))
      (ms_seq (ms_asgG (me_call (ma_cons me_var (ma_cons me_var (ma_cons me_var ma_nil)))) (mg_tupL (mgs_cons mg_name (mgs_cons mg_name (mgs_cons mg_name (mgs_cons mg_name mgs_nil))))))
      (ms_seq (ms_if (mt_test (me_op J_ne me_var (me_op J_ne (me_op J_ix me_var me_var) (me_op J_ix me_var me_var))))
      (ms_ret me_bl)
      ms_next)
      (ms_seq (ms_drop (me_callI (i := 3) (ma_cons me_var (ma_cons me_var ma_nil))))
      (ms_asg (me_op J_I0 (me_op J_I0 (me_op J_I0 (me_op J_add me_var (me_call (ma_cons me_var ma_nil))) (me_cb J_len (ma_cons me_var ma_nil))) (me_cb J_len (ma_cons me_var ma_nil))) (me_cb J_int (ma_cons me_var ma_nil))))))))
      (ms_seq (ms_asg (me_call (ma_cons me_var ma_nil)))
      (ms_if (mt_or (mt_test (me_op J_B0 me_var me_int)) (mt_or (mt_test (me_op J_B0 me_var me_var)) (mt_not (mt_tB (me_call (ma_cons (me_op J_ix me_var me_int) (ma_cons (me_op J_ix me_var me_int) ma_nil)))))))
      (ms_ret me_bl)
      ms_next))))))
      (ms_ret (me_call (ma_cons me_var (ma_cons me_var ma_nil)))))))))) rfl h⟩
end
end K49
open PySem PySem.W PyProof.Rows
set_option maxRecDepth 100000 in
set_option maxHeartbeats 0 in
theorem PySem.Challenge.cw_creditworks_k49_whole_groups_and_prices_holds : PySem.Challenge.rw_creditworks_k49_whole_groups_and_prices.Holds := by
  w_on; o_law; k_head; (case hw => w_witness2)
  k_fill
  refine L2.walk_law (l := PySem.Challenge.rw_creditworks_k49_whole_groups_and_prices) (k := 18) (x := "_law_script") (st := K49.s_law) rfl rfl ⟨rfl, by decide, by decide⟩ (fun w h Y => PySem.W.kIn_of Y) (fun _ _ _ _ _ _ _ => rfl) ?F
  case F =>
    intro w mg h KX G
    have T_begin_groups : L2.Top (L2.KOf KX) mg "begin_groups" K49.s_begin_groups := by
      dsimp only [L2.KOf]
      refine' L2.Top.mk' KX G ?a ?l ?c ?k
      (case a => k_is); (case l => k_is); (case c => k_is); (case k => k_is)
    have T_law_one_top : L2.Top (L2.KOf KX) mg "_law_one_top" K49.s_law_one_top := by
      dsimp only [L2.KOf]
      refine' L2.Top.mk' KX G ?a ?l ?c ?k
      (case a => k_is); (case l => k_is); (case c => k_is); (case k => k_is)
    have T_reach_up : L2.Top (L2.KOf KX) mg "reach_up" K49.s_reach_up := by
      dsimp only [L2.KOf]
      refine' L2.Top.mk' KX G ?a ?l ?c ?k
      (case a => k_is); (case l => k_is); (case c => k_is); (case k => k_is)
    have T_slow_number : L2.Top (L2.KOf KX) mg "slow_number" K49.s_slow_number := by
      dsimp only [L2.KOf]
      refine' L2.Top.mk' KX G ?a ?l ?c ?k
      (case a => k_is); (case l => k_is); (case c => k_is); (case k => k_is)
    have T_rank_above : L2.Top (L2.KOf KX) mg "rank_above" K49.s_rank_above := by
      dsimp only [L2.KOf]
      refine' L2.Top.mk' KX G ?a ?l ?c ?k
      (case a => k_is); (case l => k_is); (case c => k_is); (case k => k_is)
    have T_level_of : L2.Top (L2.KOf KX) mg "level_of" K49.s_level_of := by
      dsimp only [L2.KOf]
      refine' L2.Top.mk' KX G ?a ?l ?c ?k
      (case a => k_is); (case l => k_is); (case c => k_is); (case k => k_is)
    have T_times_of : L2.Top (L2.KOf KX) mg "times_of" K49.s_times_of := by
      dsimp only [L2.KOf]
      refine' L2.Top.mk' KX G ?a ?l ?c ?k
      (case a => k_is); (case l => k_is); (case c => k_is); (case k => k_is)
    have T_credit_by : L2.Top (L2.KOf KX) mg "credit_by" K49.s_credit_by := by
      dsimp only [L2.KOf]
      refine' L2.Top.mk' KX G ?a ?l ?c ?k
      (case a => k_is); (case l => k_is); (case c => k_is); (case k => k_is)
    have T_groups_credit : L2.Top (L2.KOf KX) mg "groups_credit" K49.s_groups_credit := by
      dsimp only [L2.KOf]
      refine' L2.Top.mk' KX G ?a ?l ?c ?k
      (case a => k_is); (case l => k_is); (case c => k_is); (case k => k_is)
    have T_law_cell_at : L2.Top (L2.KOf KX) mg "_law_cell_at" K49.s_law_cell_at := by
      dsimp only [L2.KOf]
      refine' L2.Top.mk' KX G ?a ?l ?c ?k
      (case a => k_is); (case l => k_is); (case c => k_is); (case k => k_is)
    have T_way_up : L2.Top (L2.KOf KX) mg "way_up" K49.s_way_up := by
      dsimp only [L2.KOf]
      refine' L2.Top.mk' KX G ?a ?l ?c ?k
      (case a => k_is); (case l => k_is); (case c => k_is); (case k => k_is)
    have T_is_count : L2.Top (L2.KOf KX) mg "is_count" K49.s_is_count := by
      dsimp only [L2.KOf]
      refine' L2.Top.mk' KX G ?a ?l ?c ?k
      (case a => k_is); (case l => k_is); (case c => k_is); (case k => k_is)
    have T_find_top : L2.Top (L2.KOf KX) mg "find_top" K49.s_find_top := by
      dsimp only [L2.KOf]
      refine' L2.Top.mk' KX G ?a ?l ?c ?k
      (case a => k_is); (case l => k_is); (case c => k_is); (case k => k_is)
    have T_link_tops : L2.Top (L2.KOf KX) mg "link_tops" K49.s_link_tops := by
      dsimp only [L2.KOf]
      refine' L2.Top.mk' KX G ?a ?l ?c ?k
      (case a => k_is); (case l => k_is); (case c => k_is); (case k => k_is)
    have T_join_groups : L2.Top (L2.KOf KX) mg "join_groups" K49.s_join_groups := by
      dsimp only [L2.KOf]
      refine' L2.Top.mk' KX G ?a ?l ?c ?k
      (case a => k_is); (case l => k_is); (case c => k_is); (case k => k_is)
    have T_law_joined : L2.Top (L2.KOf KX) mg "_law_joined" K49.s_law_joined := by
      dsimp only [L2.KOf]
      refine' L2.Top.mk' KX G ?a ?l ?c ?k
      (case a => k_is); (case l => k_is); (case c => k_is); (case k => k_is)
    have T_top_from : L2.Top (L2.KOf KX) mg "top_from" K49.s_top_from := by
      dsimp only [L2.KOf]
      refine' L2.Top.mk' KX G ?a ?l ?c ?k
      (case a => k_is); (case l => k_is); (case c => k_is); (case k => k_is)
    have T_groups_in_form : L2.Top (L2.KOf KX) mg "groups_in_form" K49.s_groups_in_form := by
      dsimp only [L2.KOf]
      refine' L2.Top.mk' KX G ?a ?l ?c ?k
      (case a => k_is); (case l => k_is); (case c => k_is); (case k => k_is)
    have T_find_price : L2.Top (L2.KOf KX) mg "find_price" K49.s_find_price := by
      dsimp only [L2.KOf]
      refine' L2.Top.mk' KX G ?a ?l ?c ?k
      (case a => k_is); (case l => k_is); (case c => k_is); (case k => k_is)
    have T_join_price : L2.Top (L2.KOf KX) mg "join_price" K49.s_join_price := by
      dsimp only [L2.KOf]
      refine' L2.Top.mk' KX G ?a ?l ?c ?k
      (case a => k_is); (case l => k_is); (case c => k_is); (case k => k_is)
    have T_law : L2.Top (L2.KOf KX) mg "law" K49.s_law := by
      dsimp only [L2.KOf]
      refine' L2.Top.mk' KX G ?a ?l ?c ?k
      (case a => k_is); (case l => k_is); (case c => k_is); (case k => k_is)
    have z_bool : mg "bool" = none := by
      refine' PySem.W.mg_none_of KX G ?z
      (case z => k_is)
    have z_int : mg "int" = none := by
      refine' PySem.W.mg_none_of KX G ?z
      (case z => k_is)
    have z_isinstance : mg "isinstance" = none := by
      refine' PySem.W.mg_none_of KX G ?z
      (case z => k_is)
    have z_len : mg "len" = none := by
      refine' PySem.W.mg_none_of KX G ?z
      (case z => k_is)
    have z_list : mg "list" = none := by
      refine' PySem.W.mg_none_of KX G ?z
      (case z => k_is)
    have z_range : mg "range" = none := by
      refine' PySem.W.mg_none_of KX G ?z
      (case z => k_is)
    have z_set : mg "set" = none := by
      refine' PySem.W.mg_none_of KX G ?z
      (case z => k_is)
    have z_sum : mg "sum" = none := by
      refine' PySem.W.mg_none_of KX G ?z
      (case z => k_is)
    have Z : K49.NoGl mg := by
      intro x hx
      simp only [List.mem_cons, List.not_mem_nil, or_false] at hx
      rcases hx with rfl | rfl | rfl | rfl | rfl | rfl | rfl | rfl <;> assumption
    have NL : Mir.noLists (L2.KOf KX) = true := by
      dsimp only [L2.KOf]
      first | rfl | kernel_rfl | k_is
    refine ⟨T_law, fun f fd Ff base kb gb => ?_⟩
    have D_begin_groups := K49.ok_begin_groups (P := PySem.Challenge.rw_creditworks_k49_whole_groups_and_prices.prog) (w := w) (base := base) Z T_begin_groups
    have D_law_one_top := K49.ok_law_one_top (P := PySem.Challenge.rw_creditworks_k49_whole_groups_and_prices.prog) (w := w) (base := base) Z T_law_one_top
    have D_reach_up := K49.ok_reach_up (P := PySem.Challenge.rw_creditworks_k49_whole_groups_and_prices.prog) (w := w) (base := base) Z T_reach_up  12
    have D_slow_number := K49.ok_slow_number (P := PySem.Challenge.rw_creditworks_k49_whole_groups_and_prices.prog) (w := w) (base := base) Z T_slow_number D_reach_up
    have D_rank_above := K49.ok_rank_above (P := PySem.Challenge.rw_creditworks_k49_whole_groups_and_prices.prog) (w := w) (base := base) Z T_rank_above
    have D_level_of := K49.ok_level_of (P := PySem.Challenge.rw_creditworks_k49_whole_groups_and_prices.prog) (w := w) (base := base) Z T_level_of D_reach_up D_rank_above
    have D_times_of := K49.ok_times_of (P := PySem.Challenge.rw_creditworks_k49_whole_groups_and_prices.prog) (w := w) (base := base) Z T_times_of D_reach_up D_rank_above D_level_of
    have D_credit_by := K49.ok_credit_by (P := PySem.Challenge.rw_creditworks_k49_whole_groups_and_prices.prog) (w := w) (base := base) Z T_credit_by D_level_of D_times_of
    have D_groups_credit := K49.ok_groups_credit (P := PySem.Challenge.rw_creditworks_k49_whole_groups_and_prices.prog) (w := w) (base := base) Z T_groups_credit D_credit_by D_slow_number
    have D_law_cell_at := K49.ok_law_cell_at (P := PySem.Challenge.rw_creditworks_k49_whole_groups_and_prices.prog) (w := w) (base := base) Z T_law_cell_at
    have D_way_up := K49.ok_way_up (P := PySem.Challenge.rw_creditworks_k49_whole_groups_and_prices.prog) (w := w) (base := base) Z T_way_up
    have D_is_count := K49.ok_is_count (P := PySem.Challenge.rw_creditworks_k49_whole_groups_and_prices.prog) (w := w) (base := base) Z T_is_count
    have D_find_top := K49.ok_find_top (P := PySem.Challenge.rw_creditworks_k49_whole_groups_and_prices.prog) (w := w) (base := base) Z T_find_top D_way_up D_is_count
    have D_link_tops := K49.ok_link_tops (P := PySem.Challenge.rw_creditworks_k49_whole_groups_and_prices.prog) (w := w) (base := base) Z T_link_tops
    have D_join_groups := K49.ok_join_groups (P := PySem.Challenge.rw_creditworks_k49_whole_groups_and_prices.prog) (w := w) (base := base) Z T_join_groups D_link_tops D_find_top
    have D_law_joined := K49.ok_law_joined (P := PySem.Challenge.rw_creditworks_k49_whole_groups_and_prices.prog) (w := w) (base := base) Z T_law_joined
    have D_top_from := K49.ok_top_from (P := PySem.Challenge.rw_creditworks_k49_whole_groups_and_prices.prog) (w := w) (base := base) Z T_top_from
    have D_groups_in_form := K49.ok_groups_in_form (P := PySem.Challenge.rw_creditworks_k49_whole_groups_and_prices.prog) (w := w) (base := base) Z T_groups_in_form D_top_from
    have D_find_price := K49.ok_find_price (P := PySem.Challenge.rw_creditworks_k49_whole_groups_and_prices.prog) (w := w) (base := base) Z T_find_price D_slow_number
    have D_join_price := K49.ok_join_price (P := PySem.Challenge.rw_creditworks_k49_whole_groups_and_prices.prog) (w := w) (base := base) Z T_join_price D_find_price D_slow_number
    exact K49.ok_law NL Z Ff D_law_one_top D_groups_in_form D_groups_credit D_find_price D_find_top D_join_price D_law_joined D_join_groups D_begin_groups D_law_cell_at

