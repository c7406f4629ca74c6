import PyProof.Rows.All
import Wide.All
import OpenK.AllK
import Wide.FinOn
import Lean
import PyProof.EqAt
import PyProof.EqKinds
import PyProof.TupleCall
import PyProof.ExcAttrAll.ValueError
import PySem.Challenge.RW_selfruns_k10_what_is_refused
set_option Elab.async false
set_option linter.all false
set_option maxRecDepth 100000
set_option maxHeartbeats 4000000
namespace L2
open PySem PySem.Spec PyProof.Rows
abbrev Key := Sum Int Str
def keyIs : Key → Value → Bool
  | .inl k, v => Value.isInt k v
  | .inr x, v => Value.isStrOf x v
def keyH (w : World) : Key → Int
  | .inl k => hashInt k
  | .inr x => hashStr w x
theorem keyIs_shape : ∀ {k : Key} {v : Value}, keyIs k v = true → (∃ i t, k = Sum.inl i ∧ v = Value.int i t) ∨ (∃ x t, k = Sum.inr x ∧ v = Value.str x t)
  | .inl i, v, h => by
    obtain ⟨t, e⟩ := Value.isInt_shape (k := i) (v := v) h
    exact .inl ⟨i, t, rfl, e⟩
  | .inr x, v, h => by
    obtain ⟨t, e⟩ := Value.isStrOf_shape (x := x) (v := v) h
    exact .inr ⟨x, t, rfl, e⟩
theorem keyIs_str (x : Str) (t : Tok) : keyIs (.inr x) (.str x t) = true := by simp [keyIs, Value.isStrOf]
theorem key_ll (a b : Int) : decide ((Sum.inl a : Key) = Sum.inl b) = (a == b) := by
  by_cases e : a = b
  · subst e; simp
  · have h : ¬ (Sum.inl a : Key) = Sum.inl b := fun q => e (Sum.inl.inj q)
    rw [decide_eq_false h]
    exact (beq_eq_false_iff_ne.mpr e).symm
theorem key_rr (a b : Str) : decide ((Sum.inr a : Key) = Sum.inr b) = decide (a = b) := by
  by_cases e : a = b
  · subst e; simp
  · have h : ¬ (Sum.inr a : Key) = Sum.inr b := fun q => e (Sum.inr.inj q)
    rw [decide_eq_false h, decide_eq_false e]
theorem key_lr (a : Int) (b : Str) : decide ((Sum.inl a : Key) = Sum.inr b) = false := decide_eq_false (fun q => nomatch q)
theorem key_rl (a : Str) (b : Int) : decide ((Sum.inr a : Key) = Sum.inl b) = false := decide_eq_false (fun q => nomatch q)
def mixKind (prog : Program) (w : World) : PySem.KeyKind prog w Key where
  is := keyIs
  hash := keyH w
  inj := fun v a b ha hb => by
    rcases keyIs_shape ha with ⟨i, t, rfl, rfl⟩ | ⟨x, t, rfl, rfl⟩
    · rcases keyIs_shape hb with ⟨j, u, rfl, e⟩ | ⟨y, u, rfl, e⟩
      · injection e with e1 _; rw [e1]
      · exact nomatch e
    · rcases keyIs_shape hb with ⟨j, u, rfl, e⟩ | ⟨y, u, rfl, e⟩
      · exact nomatch e
      · injection e with e1 _; rw [e1]
  byValue := fun k v h => by
    rcases keyIs_shape h with ⟨i, t, rfl, rfl⟩ | ⟨x, t, rfl, rfl⟩ <;> rfl
  pyHash := fun hv h => by
    rcases keyIs_shape hv with ⟨i, t, rfl, rfl⟩ | ⟨x, t, rfl, rfl⟩
    · exact wpAny_pyHash_int h
    · exact wpAny_pyHash_str h
  eqBool := fun hu hv h => by
    rcases keyIs_shape hu with ⟨i, t, rfl, rfl⟩ | ⟨x, t, rfl, rfl⟩
    · rcases keyIs_shape hv with ⟨j, u, rfl, rfl⟩ | ⟨y, u, rfl, rfl⟩
      · rw [key_ll] at h; exact wpAny_eqBool_int h
      · rw [key_lr] at h; exact SeqAt.EqAt.int_str i t y u _ _ _ _ h
    · rcases keyIs_shape hv with ⟨j, u, rfl, rfl⟩ | ⟨y, u, rfl, rfl⟩
      · rw [key_rl] at h; exact SeqAt.EqAt.str_int x t j u _ _ _ _ h
      · rw [key_rr] at h; exact wpAny_eqBool_str h
  «strs» := fun k x t v h => by
    rcases keyIs_shape h with ⟨i, u, rfl, e⟩ | ⟨y, u, rfl, e⟩
    · exact nomatch e
    · injection e with e1 _
      subst e1
      cases v <;> rfl
theorem mixKind_str (prog : Program) (w : World) (x : Str) (t : Tok) : (mixKind prog w).is (.inr x) (.str x t) = true := keyIs_str x t
end L2
namespace L2
open PySem PySem.Spec PyProof.Rows
inductive V where
  | non | bl (b : Bool) | int (i : Int) | str (x : Str) | byt (b : Array UInt8) | flt (b : UInt64) | ref (a : Addr) | ty (n : String)
  deriving DecidableEq
def RelV : V → Value → Prop
  | .non, u => u = Value.none
  | .bl b, u => u = Value.bool b
  | .int i, u => ∃ t, u = Value.int i t
  | .str x, u => ∃ t, u = Value.str x t
  | .byt b, u => ∃ t, u = Value.bytes b t
  | .flt b, u => ∃ t, u = Value.float b t
  | .ref a, u => u = Value.ref a
  | .ty n, u => u = Value.type n
abbrev Vals : List V → List Value → Prop := Paired RelV
theorem Vals.length {xs : List V} {us : List Value} (r : Vals xs us) : xs.length = us.length := Paired.length r
theorem Vals.get : ∀ {xs : List V} {us : List Value} {i : Nat} {x : V}, Vals xs us → xs[i]? = some x → ∃ u, us[i]? = some u ∧ RelV x u
  | _, _, _, _, .nil, e => by simp at e
  | _, _, 0, _, .cons r _, e => by simp at e; subst e; exact ⟨_, rfl, r⟩
  | _, _, i + 1, x, .cons _ t, e => by
    obtain ⟨u, h1, h2⟩ := Vals.get (i := i) (x := x) t (by simpa using e)
    exact ⟨u, by simpa using h1, h2⟩
theorem Vals.set {x : V} {u : Value} (r : RelV x u) : ∀ {xs : List V} {us : List Value} (i : Nat), Vals xs us → Vals (xs.set i x) (us.set i u)
  | _, _, _, .nil => .nil
  | _, _, 0, .cons _ t => .cons r t
  | _, _, i + 1, .cons q t => .cons q (Vals.set r i t)
theorem Vals.append : ∀ {xs ys : List V} {us ws : List Value}, Vals xs us → Vals ys ws → Vals (xs ++ ys) (us ++ ws)
  | _, _, _, _, .nil, s => s
  | _, _, _, _, .cons r t, s => .cons r (Vals.append t s)
theorem Vals.take : ∀ {xs : List V} {us : List Value} (n : Nat), Vals xs us → Vals (xs.take n) (us.take n)
  | _, _, 0, _ => .nil
  | _, _, _ + 1, .nil => .nil
  | _, _, n + 1, .cons r t => .cons r (Vals.take n t)
theorem Vals.drop : ∀ {xs : List V} {us : List Value} (n : Nat), Vals xs us → Vals (xs.drop n) (us.drop n)
  | _, _, 0, r => r
  | _, _, _ + 1, .nil => .nil
  | _, _, n + 1, .cons _ t => Vals.drop n t
theorem Vals.none_of : ∀ {xs : List V} {us : List Value} {i : Nat}, Vals xs us → xs[i]? = none → us[i]? = none := fun {xs us i} r e => by
  have h1 := r.length
  have h2 : xs.length ≤ i := List.getElem?_eq_none_iff.mp e
  exact List.getElem?_eq_none_iff.mpr (by omega)
def RelO : Option V → Option Value → Prop
  | some v, some u => RelV v u
  | none, none => True
  | _, _ => False
def KV {κ : Type} : List (κ × V) → List (κ × Value) → Prop := Paired fun (p : κ × V) (q : κ × Value) => p.1 = q.1 ∧ RelV p.2 q.2
def kV : Key → V
  | .inl i => .int i
  | .inr x => .str x
inductive HO where
  | lst (xs : List V)
  | tup (xs : List V)
  | dK (kvs : List (Key × V)) | dT (kvs : List (List Key × V))
  | set (S : Int → Bool) (n : Nat)
  | ins (C dx : Addr) (fs : List (Str × V))
  | own (x : Addr)
  | xd (fs : List (Str × V))
  | met (f x : Addr)
  | rng (lo hi : Int)
  | frz (o : Obj) (u : HO)
  | tbl (ps : Array Value)
  | ext (φ : Heap → Prop)
abbrev Hp := Addr → Option HO
def upd (H : Hp) (a : Addr) (o : HO) : Hp := fun b => if b = a then some o else H b
theorem upd_same {H : Hp} {a : Addr} {o : HO} : upd H a o a = some o := by unfold upd; rw [if_pos rfl]
theorem upd_ne {H : Hp} {a b : Addr} {o : HO} (h : b ≠ a) : upd H a o b = H b := by unfold upd; rw [if_neg h]
theorem ne_of_none {H : Hp} {a b : Addr} {o : HO} (h : H a = some o) (h' : H b = none) : a ≠ b := by
  intro e; subst e; rw [h] at h'; cases h'
section
variable (P : Program) (w : World)
def ObjOk (H : Hp) (h : Heap) (a : Addr) : HO → Prop
  | .lst xs => xs.length ≤ sizeLine ∧ ∃ (its : List Value) (n : Nat), Vals xs its ∧ h.get? a = some { cls := .type "list", data := .seq its.toArray n }
  | .tup xs => xs.length ≤ sizeLine ∧ ∃ its : List Value, Vals xs its ∧ IsTup h a its.toArray
  | .dK kvs => kvs.length ≤ sizeLine ∧ (a == sysModules) = false ∧ ∃ vs, KV kvs vs ∧ h.DictOf (mixKind P w) a vs
  | .dT kvs => kvs.length ≤ sizeLine ∧ (a == sysModules) = false ∧ ∃ xs : List (List Key × Addr × Value),
      Paired (fun (p : List Key × V) (q : List Key × Addr × Value) => p.1 = q.1 ∧ H q.2.1 = some (.tup (p.1.map kV)) ∧ RelV p.2 q.2.2) kvs xs ∧
      ∃ o es ep, h.get? a = some o ∧ o.ExactDict ∧ o.data = .dict es ep ∧ es.toList = xs.map (entryOfKey (tupleKind (mixKind P w))) ∧ (xs.map (·.1)).Nodup
  | .set S n => h.SetOf (intKind P w) a S n
  | .ins C dx fs => H dx = some (.own a) ∧ fs.length ≤ 1000 ∧ dx ≠ a ∧ h.get? a = some (PySem.W.instObj C dx) ∧
      ∃ mA, h.Ns1 dx mA ∧ (∀ f, RelO (fs.lookup f) (mA f)) ∧ PySem.Within mA (fs.map (·.1))
  | .own _ => ∃ o, h.get? a = some o
  | .xd fs => ∃ mA, h.Ns1 a mA ∧ ∀ f, RelO (fs.lookup f) (mA f)
  | .rng lo hi => ∃ t u v, h.get? a = some { cls := .type "range", data := .fields #[.int lo t, .int hi u, .int 1 v] }
  | .frz o u => h.get? a = some o ∧ ObjOk H h a u
  | .tbl ps => h.get? a = some { cls := .none, data := .fields ps }
  | .met f x => h.get? a = some (PySem.W.methodObj (.ref f) (.ref x))
  | .ext φ => φ h ∧ (∃ o, h.get? a = some o) ∧ ∀ h1 h2 : Heap, φ h1 → (∀ o, h1.get? a = some o → h2.get? a = some o) → φ h2
def HOk (H : Hp) (h : Heap) : Prop := ∀ a o, H a = some o → ObjOk P w H h a o
end
section
variable {P : Program} {w : World} {H H' : Hp} {h h' : Heap} {a : Addr} {o : HO}
theorem ObjOk.lt (x : ObjOk P w H h a o) : a < h.objs.size := by
  cases o with
  | lst xs => obtain ⟨_, _, _, _, e⟩ := x; exact Heap.lt_size e
  | tup xs => obtain ⟨_, _, _, p⟩ := x; exact p.lt
  | dK kvs => obtain ⟨_, _, _, _, o, _, _, e, _⟩ := x; exact Heap.lt_size e
  | dT kvs => obtain ⟨_, _, _, _, o, _, _, e, _⟩ := x; exact Heap.lt_size e
  | set S n => obtain ⟨o, _, _, _, e, _⟩ := x; exact Heap.lt_size e
  | ins C dx fs => obtain ⟨_, _, _, e, _⟩ := x; exact Heap.lt_size e
  | own y => obtain ⟨_, e⟩ := x; exact Heap.lt_size e
  | xd fs => obtain ⟨_, ⟨_, _, _, e, _⟩, _⟩ := x; exact Heap.lt_size e
  | rng lo hi => obtain ⟨_, _, _, e⟩ := x; exact Heap.lt_size e
  | frz ob u => obtain ⟨e, _⟩ := x; exact Heap.lt_size e
  | tbl ps => exact Heap.lt_size (show h.get? a = some _ from x)
  | met f y => exact Heap.lt_size (show h.get? a = some _ from x)
  | ext φ => obtain ⟨_, ⟨_, e⟩, _⟩ := x; exact Heap.lt_size e
theorem Paired.mapP {α β : Type} {F G : α → β → Prop} : ∀ {l₁ : List α} {l₂ : List β}, Paired F l₁ l₂ → (∀ a b, F a b → G a b) → Paired G l₁ l₂
  | _, _, .nil, _ => .nil
  | _, _, .cons r t, f => .cons (f _ _ r) (Paired.mapP t f)
theorem ObjOk.stay (x : ObjOk P w H h a o) (k : ∀ b u, (b = a ∨ H b = some (.own a)) → h.get? b = some u → h'.get? b = some u)
    (ho : ∀ b, H b = some (.own a) → H' b = some (.own a)) (ht : ∀ b xs, H b = some (.tup xs) → H' b = some (.tup xs)) : ObjOk P w H' h' a o := by
  induction o with
  | lst xs => obtain ⟨z, its, n, r, e⟩ := x; exact ⟨z, its, n, r, k _ _ (.inl rfl) e⟩
  | tup xs => obtain ⟨z, its, r, ob, e, c⟩ := x; exact ⟨z, its, r, ob, k _ _ (.inl rfl) e, c⟩
  | dK kvs => obtain ⟨z, y, vs, r, ob, es, ep, e, c⟩ := x; exact ⟨z, y, vs, r, ob, es, ep, k _ _ (.inl rfl) e, c⟩
  | dT kvs =>
    obtain ⟨z, y, xs, r, ob, es, ep, e, c⟩ := x
    exact ⟨z, y, xs, Paired.mapP r fun p q z => ⟨z.1, ht _ _ z.2.1, z.2.2⟩, ob, es, ep, k _ _ (.inl rfl) e, c⟩
  | set S n => obtain ⟨ob, es, ep, t, e, c⟩ := x; exact ⟨ob, es, ep, t, k _ _ (.inl rfl) e, c⟩
  | ins C dx fs =>
    obtain ⟨d, z, ne, e, mA, ⟨od, es, ep, e2, c⟩, r⟩ := x
    exact ⟨ho _ d, z, ne, k _ _ (.inl rfl) e, mA, ⟨od, es, ep, k _ _ (.inr d) e2, c⟩, r⟩
  | own y => obtain ⟨ob, e⟩ := x; exact ⟨ob, k _ _ (.inl rfl) e⟩
  | xd fs => obtain ⟨mA, ⟨od, es, ep, e, c⟩, r⟩ := x; exact ⟨mA, ⟨od, es, ep, k _ _ (.inl rfl) e, c⟩, r⟩
  | rng lo hi => obtain ⟨t, u, v, e⟩ := x; exact ⟨t, u, v, k _ _ (.inl rfl) e⟩
  | frz ob u ih => obtain ⟨e, q⟩ := x; exact ⟨k _ _ (.inl rfl) e, ih q⟩
  | tbl ps =>
    have e : h.get? a = some { cls := .none, data := .fields ps } := x
    show h'.get? a = some { cls := .none, data := .fields ps }
    exact k a _ (.inl rfl) e
  | met f y =>
    have e : h.get? a = some (PySem.W.methodObj (.ref f) (.ref y)) := x
    show h'.get? a = some (PySem.W.methodObj (.ref f) (.ref y))
    exact k a _ (.inl rfl) e
  | ext φ => obtain ⟨p, ⟨o, e⟩, st⟩ := x; exact ⟨st _ _ p fun o q => k _ _ (.inl rfl) q, ⟨o, k _ _ (.inl rfl) e⟩, st⟩
theorem HOk.lt (x : HOk P w H h) (e : H a = some o) : a < h.objs.size := (x a o e).lt
theorem HOk.fresh (x : HOk P w H h) (e : h.objs.size ≤ a) : H a = none := by
  cases q : H a with
  | none => rfl
  | some u => exact absurd (Nat.lt_of_lt_of_le (x.lt q) e) (Nat.lt_irrefl _)
theorem HOk.kept (x : HOk P w H h) (k : ∀ b u, h.get? b = some u → h'.get? b = some u) : HOk P w H h' := fun a o e =>
  (x a o e).stay (fun b u _ q => k b u q) (fun _ q => q) fun _ _ q => q
theorem HOk.laid (x : HOk P w H h) (k : ∀ b u, h.get? b = some u → h'.get? b = some u) (hp : h.objs.size ≤ a) (new : ObjOk P w (upd H a o) h' a o) : HOk P w (upd H a o) h' := fun b u e => by
  have hn := x.fresh hp
  by_cases hb : b = a
  · subst hb; rw [upd_same] at e; cases e; exact new
  · rw [upd_ne hb] at e
    exact (x b u e).stay (fun c v _ q => k c v q) (fun c q => by rw [upd_ne (ne_of_none q hn)]; exact q) fun c xs q => by rw [upd_ne (ne_of_none q hn)]; exact q
end
def Rd (H : Hp) (a : Addr) (u : HO) : Prop := H a = some u ∨ ∃ o, H a = some (.frz o u)
theorem Rd.of {H : Hp} {a : Addr} {u : HO} (h : H a = some u) : Rd H a u := .inl h
theorem Rd.ok {P : Program} {w : World} {H : Hp} {h : Heap} {a : Addr} {u : HO} (r : Rd H a u) (x : HOk P w H h) : ObjOk P w H h a u := by
  rcases r with r | ⟨o, r⟩
  · exact x a u r
  · obtain ⟨_, q⟩ := x a _ r
    exact q
def Mut : Option HO → Prop
  | some (.lst _) => True
  | some (.dK _) => True
  | some (.dT _) => True
  | some (.set _ _) => True
  | some (.ins _ _ _) => True
  | some (.ext _) => True
  | _ => False
section
variable {P : Program} {w : World} {H : Hp} {h h' : Heap} {x e : Addr} {o' : HO}
theorem HOk.write (ok : HOk P w H h) (mu : Mut (H x)) (he : e = x ∨ H e = some (.own x)) (k : ∀ b u, b ≠ e → h.get? b = some u → h'.get? b = some u) (heo : ∃ u, h'.get? e = some u)
    (new : ObjOk P w (upd H x o') h' x o') : HOk P w (upd H x o') h' := fun b u q => by
  have nown : ∀ c y, H c = some (.own y) → c ≠ x := fun c y r z => by subst z; rw [r] at mu; exact mu
  have ntup : ∀ c xs, H c = some (.tup xs) → c ≠ x := fun c xs r z => by subst z; rw [r] at mu; exact mu
  by_cases hb : b = x
  · subst hb; rw [upd_same] at q; cases q; exact new
  · rw [upd_ne hb] at q
    by_cases hbe : b = e
    · have q' : H b = some (.own x) := by
        rcases he with z | z
        · exact absurd (hbe.trans z) hb
        · rw [hbe]; exact z
      rw [q] at q'; cases q'
      obtain ⟨v, hv⟩ := heo
      exact ⟨v, by rw [hbe]; exact hv⟩
    · refine (ok b u q).stay (fun c v hc r => k c v ?_ r) (fun c r => by rw [upd_ne (nown c b r)]; exact r) fun c xs r => by rw [upd_ne (ntup c xs r)]; exact r
      rcases hc with rfl | hc
      · exact hbe
      · rintro rfl
        rcases he with z | z
        · exact nown c b hc z
        · rw [hc] at z; cases z; exact hb rfl
end
structure Un (fs ex : List Addr) (H H' : Hp) (h h' : Heap) : Prop where
  keep : ∀ b o, h.get? b = some o → H b = none → b ∉ fs → b ∉ ex → h'.get? b = some o
  slot : ∀ b o, h.get? b = some o → H b = none → b ∈ fs → b ∉ ex → ∃ sl, h'.get? b = some { o with slots := sl }
  free : ∀ b o, h.get? b = some o → H b = none → b ∉ ex → H' b = none
  there : ∀ b o, h.get? b = some o → b ∉ ex → ∃ o', h'.get? b = some o'
  tups : ∀ b xs, H b = some (.tup xs) → H' b = some (.tup xs)
  frzs : ∀ b o u, H b = some (.frz o u) → H' b = some (.frz o u)
  tbls : ∀ b ps, H b = some (.tbl ps) → ∃ more, H' b = some (.tbl (ps ++ more))
section
variable {fs fs' ex ex' : List Addr} {H H1 H2 : Hp} {h h1 h2 h' : Heap} {a x e : Addr} {o : HO}
theorem Un.any (u : Un fs ex H H1 h h1) {b : Addr} {ob : Obj} (q : h.get? b = some ob) (n : H b = none) (hx : b ∉ ex) : ∃ sl, h1.get? b = some { ob with slots := sl } := by
  by_cases hb : b ∈ fs
  · exact u.slot b ob q n hb hx
  · exact ⟨ob.slots, u.keep b ob q n hb hx⟩
theorem Un.trans (a : Un fs ex H H1 h h1) (b : Un fs ex H1 H2 h1 h2) : Un fs ex H H2 h h2 where
  keep := fun c ob q n hc hx => b.keep c ob (a.keep c ob q n hc hx) (a.free c ob q n hx) hc hx
  slot := fun c ob q n hc hx => by
    obtain ⟨sl, e1⟩ := a.slot c ob q n hc hx
    obtain ⟨sl', e2⟩ := b.slot c _ e1 (a.free c ob q n hx) hc hx
    exact ⟨sl', e2⟩
  free := fun c ob q n hx => by
    obtain ⟨o', e1⟩ := a.there c ob q hx
    exact b.free c o' e1 (a.free c ob q n hx) hx
  there := fun c ob q hx => by
    obtain ⟨o', e1⟩ := a.there c ob q hx
    exact b.there c o' e1 hx
  tups := fun c xs q => b.tups c xs (a.tups c xs q)
  frzs := fun c ob xs q => b.frzs c ob xs (a.frzs c ob xs q)
  tbls := fun c ps q => by
    obtain ⟨m1, e1⟩ := a.tbls c ps q
    obtain ⟨m2, e2⟩ := b.tbls c _ e1
    exact ⟨m1 ++ m2, by rw [e2, Array.append_assoc]⟩
theorem Un.kept (k : ∀ b u, h.get? b = some u → h'.get? b = some u) : Un fs ex H H h h' :=
  ⟨fun b ob q _ _ _ => k b ob q, fun b ob q _ _ _ => ⟨ob.slots, k b ob q⟩, fun _ _ _ n _ => n, fun b ob q _ => ⟨ob, k b ob q⟩, fun _ _ q => q, fun _ _ _ q => q, fun _ ps q => ⟨#[], by rw [q]; simp⟩⟩
theorem Un.refl : Un fs ex H H h h := Un.kept fun _ _ q => q
theorem Un.laid (k : ∀ b u, h.get? b = some u → h'.get? b = some u) (hp : h.objs.size ≤ a) (hn : H a = none) : Un fs ex H (upd H a o) h h' where
  keep := fun b u q _ _ _ => k b u q
  slot := fun b u q _ _ _ => ⟨u.slots, k b u q⟩
  free := fun b u q n _ => by rw [upd_ne (Nat.ne_of_lt (Nat.lt_of_lt_of_le (Heap.lt_size q) hp))]; exact n
  there := fun b u q _ => ⟨u, k b u q⟩
  tups := fun b xs q => by rw [upd_ne (ne_of_none q hn)]; exact q
  frzs := fun b u xs q => by rw [upd_ne (ne_of_none q hn)]; exact q
  tbls := fun b ps q => ⟨#[], by rw [upd_ne (ne_of_none q hn), q]; simp⟩
theorem Un.write (mu : Mut (H x)) (he : e = x ∨ H e = some (.own x)) (k : ∀ b u, b ≠ e → h.get? b = some u → h'.get? b = some u) (heo : ∃ u, h'.get? e = some u) : Un fs ex H (upd H x o) h h' := by
  have hx : ∀ b, H b = none → b ≠ x := fun b n z => by subst z; rw [n] at mu; exact mu
  have hb : ∀ b, H b = none → b ≠ e := fun b n z => by
    subst z
    rcases he with r | r
    · exact hx b n r
    · rw [n] at r; cases r
  have hm : ∀ b u, H b = some u → ¬ Mut (some u) → b ≠ x := fun b u q nm z => by subst z; rw [q] at mu; exact nm mu
  refine ⟨fun b u q n _ _ => k b u (hb b n) q, fun b u q n _ _ => ⟨u.slots, k b u (hb b n) q⟩, fun b u q n _ => by rw [upd_ne (hx b n)]; exact n, fun b u q _ => ?_,
    fun b xs q => by rw [upd_ne (hm b _ q fun z => z)]; exact q, fun b u xs q => by rw [upd_ne (hm b _ q fun z => z)]; exact q, fun b ps q => ⟨#[], by rw [upd_ne (hm b _ q fun z => z), q]; simp⟩⟩
  by_cases hbe : b = e
  · subst hbe; exact heo
  · exact ⟨u, k b u hbe q⟩
theorem Un.mono (u : Un fs ex H H1 h h1) (hs : ∀ b ∈ fs, b ∈ fs') (hx : ∀ b ∈ ex, b ∈ ex') : Un fs' ex' H H1 h h1 :=
  ⟨fun b ob q n hb he => u.keep b ob q n (fun z => hb (hs b z)) fun z => he (hx b z), fun _ _ q n _ he => u.any q n fun z => he (hx _ z), fun b ob q n he => u.free b ob q n fun z => he (hx b z), fun b ob q he => u.there b ob q fun z => he (hx b z), u.tups, u.frzs, u.tbls⟩
end
def trk (h : Heap) (H : Hp) : List Addr := (List.range h.objs.size).filter fun a => (H a).isSome
def hidT (h : Heap) (H : Hp) : Heap := PySem.W.hideAll h (trk h H)
theorem hidT_size (h : Heap) (H : Hp) : (hidT h H).objs.size = h.objs.size := PySem.W.hideAll_size _ _
theorem hidT_get {h : Heap} {H : Hp} {b : Addr} {o : Obj} (e : h.get? b = some o) (n : H b = none) : (hidT h H).get? b = some o :=
  PySem.W.hideAll_get _ e fun hm => by
    have q : (H b).isSome = true := (List.mem_filter.mp hm).2
    rw [n] at q; simp at q
theorem of_hidT {h : Heap} {H : Hp} {b : Addr} {o : Obj} (e : (hidT h H).get? b = some o) : h.get? b = some o ∧ H b = none := by
  have e' : h.get? b = some o := PySem.W.of_hideAll (trk h H) e
  refine ⟨e', ?_⟩
  cases q : H b with
  | none => rfl
  | some x =>
    have hm : b ∈ trk h H := List.mem_filter.mpr ⟨List.mem_range.mpr (Heap.lt_size e'), by simp [q]⟩
    have z : (hidT h H).get? b = none := PySem.W.hideAll_none (trk h H) hm
    rw [z] at e; cases e
def allNews (g h : Heap) (L : Addr) : List (Addr × Obj) := (List.range h.objs.size).filterMap fun a => if a = L ∨ (g.get? a).isSome = true then none else (h.get? a).map fun o => (a, o)
def rest (g h : Heap) (L d : Addr) : List (Addr × Obj) := (allNews g h L).filter fun p => decide (p.1 ≠ d)
end L2
namespace L2
open PySem PySem.Spec PyProof.Rows
structure Mod (K : PySem.W.Frag) (mg : Str → Option Value) (base : Heap) : Prop where
  kin : K.In base
  glob : base.Ns mainGlobals mg
  blt : ∃ mb, base.Ns builtinsNs mb ∧ ∀ x : Str, x ≠ "__name__" → mb x = bootBuiltins x
  nolimit : base.NoLimit
structure Cx where
  prog : Program
  w : World
  K : PySem.W.Frag
  mg : Str → Option Value
  base : Heap
  A : Around
  N : List Str
  s₀ : Shared
  H₀ : Hp
  env : Env
  outer : List Env
  stack : List Env
  ex : List Addr
  fn : Str → Bool
  calm : Bool
  pn : List (Addr × Obj)
  xe : Value → Shared → Prop
def frs (l : List Env) : List Addr := l.filterMap (·.frame)
abbrev Cx.fs (X : Cx) : List Addr := frs X.outer
def Vis (sc : Scope) (x : Str) : Prop := sc.names.lookup x = some .local ∨ sc.names.lookup x = some .cell ∨ sc.names.lookup x = some .free
def Loc (sc : Scope) (x : Str) : Prop := sc.names.lookup x = some .local ∨ sc.names.lookup x = some .cell
def Look (env : Env) (h : Heap) (m : Str → Option Value) (x : Str) (u : Value) : Prop :=
  (env.kindOf x = some .local ∧ m x = some u) ∨ ((env.kindOf x = some .cell ∨ env.kindOf x = some .free) ∧ ∃ c, env.cells.lookup x = some c ∧ h.IsCell c (some u))
structure Cx.Ok (X : Cx) : Prop where
  mod : Mod X.K X.mg X.base
  kind : X.env.scope.kind = .function
  glob : X.env.globals = mainGlobals
  blt : X.env.builtins = builtinsNs
  above : X.s₀.heap.objs.size ≤ X.env.locals
  inj : ∀ x y c, X.env.cells.lookup x = some c → X.env.cells.lookup y = some c → x = y
  has : ∀ x, (X.env.kindOf x = some .cell ∨ X.env.kindOf x = some .free) → ∃ c, X.env.cells.lookup x = some c
  cab : ∀ x c, X.fn x = true → X.env.cells.lookup x = some c → X.s₀.heap.objs.size ≤ c
  hd : X.calm = true → X.A.handled = none
  frames : X.A.frames = some X.stack
  stk : X.stack = X.outer ∨ (X.stack = X.env :: X.outer ∧ X.env.frame = some X.env.locals)
  exf : ∀ b ∈ X.ex, b ≠ X.env.locals ∧ ∀ x c, X.env.cells.lookup x = some c → c ≠ b
  bs : ∀ b o, X.base.get? b = some o → X.s₀.heap.get? b = some o ∧ X.H₀ b = none
  bsz : X.base.objs.size ≤ X.s₀.heap.objs.size
  noex : ∀ b o, X.base.get? b = some o → b ∉ X.ex
  exfs : ∀ b ∈ X.ex, b ∉ X.fs
  funs : X.s₀.heap.FunFrames X.base X.outer
  frf : ∀ b ∈ X.fs, X.H₀ b = none
structure Inv (X : Cx) (pins : List (Addr × Obj)) (σ : List (Option V)) (H : Hp) (s : Shared) : Prop where
  ok : X.Ok
  os : s.os = X.s₀.os
  bare : AllBare s.gens
  base : Un X.fs X.ex X.H₀ H X.s₀.heap s.heap
  loc : ∃ m, s.heap.Ns X.env.locals m ∧ ∀ (i : Nat) (x : Str) (v : V), X.N[i]? = some x → σ[i]? = some (some v) → Vis X.env.scope x → ∃ u, RelV v u ∧ Look X.env s.heap m x u
  cell : ∀ x c, X.env.cells.lookup x = some c → ∃ v, s.heap.IsCell c v
  free : H X.env.locals = none
  freeC : ∀ x c, X.env.cells.lookup x = some c → H c = none
  pin : ∀ p ∈ X.pn ++ pins, s.heap.get? p.1 = some p.2 ∧ H p.1 = none ∧ p.1 ≠ X.env.locals ∧ p.1 ∉ X.fs ∧ ∀ v, p.2.data ≠ .cell v
  hok : HOk X.prog X.w H s.heap
  len : σ.length = X.N.length
section
variable {X : Cx} {pins : List (Addr × Obj)} {σ : List (Option V)} {H H' : Hp} {s : Shared} {h' : Heap}
theorem Cx.Ok.nofr (ok : X.Ok) {b : Addr} {o : Obj} (e : X.base.get? b = some o) : b ∉ X.fs := fun hb => by
  have := (ok.funs.mem hb).1
  rw [e] at this; cases this
theorem Inv.bs (I : Inv X pins σ H s) : ∀ b o, X.base.get? b = some o → s.heap.get? b = some o ∧ H b = none := fun b o e =>
  ⟨I.base.keep b o (I.ok.bs b o e).1 (I.ok.bs b o e).2 (I.ok.nofr e) (I.ok.noex b o e), I.base.free b o (I.ok.bs b o e).1 (I.ok.bs b o e).2 (I.ok.noex b o e)⟩
theorem Inv.bk (I : Inv X pins σ H s) : ∀ b o, X.base.get? b = some o → s.heap.get? b = some o := fun b o e => (I.bs b o e).1
theorem Inv.mod (I : Inv X pins σ H s) : Mod X.K X.mg X.base := I.ok.mod
theorem Inv.kIn (I : Inv X pins σ H s) : X.K.In s.heap := I.ok.mod.kin.keeps I.bk
theorem Inv.nolimit (I : Inv X pins σ H s) : s.heap.NoLimit := I.ok.mod.nolimit.keeps I.bk
theorem Inv.fr (I : Inv X pins σ H s) : ∃ m, Fr X.base X.env.locals s.heap m :=
  let ⟨m, hn, _⟩ := I.loc
  ⟨m, hn, I.bk, Nat.le_trans I.ok.bsz I.ok.above⟩
theorem Inv.lt (I : Inv X pins σ H s) : X.env.locals < s.heap.objs.size := let ⟨_, hn, _⟩ := I.loc; hn.lt
theorem Inv.sz (I : Inv X pins σ H s) : X.s₀.heap.objs.size ≤ s.heap.objs.size := Nat.le_trans I.ok.above (Nat.le_of_lt I.lt)
theorem Inv.nofs (I : Inv X pins σ H s) {a : Addr} (h : s.heap.objs.size ≤ a) : a ∉ X.fs := fun hb => by
  obtain ⟨_, o, ho, _⟩ := I.ok.funs.mem hb
  exact absurd (Nat.lt_of_lt_of_le (Heap.lt_size ho) (Nat.le_trans I.sz h)) (Nat.lt_irrefl _)
theorem Inv.cne (I : Inv X pins σ H s) : ∀ x c, X.env.cells.lookup x = some c → c ≠ X.env.locals := fun x c e z => by
  obtain ⟨v, o, ho, hd⟩ := I.cell x c e
  obtain ⟨m, ⟨o', es, ep, ho', hd', _⟩, _⟩ := I.loc
  rw [z, ho'] at ho; cases ho; rw [hd'] at hd; cases hd
theorem Inv.funs (I : Inv X pins σ H s) : s.heap.FunFrames X.base X.outer := by
  have all : ∀ (l : List Env), (∀ b ∈ frs l, b ∈ X.fs) → X.s₀.heap.FunFrames X.base l → s.heap.FunFrames X.base l := by
    intro l
    induction l with
    | nil => intro _ _; trivial
    | cons env r ih =>
      intro hs hl
      obtain ⟨hk, ⟨L, o, hf, hn, ho, hd⟩, hr⟩ := hl
      have hL : L ∈ X.fs := hs L (by unfold frs; rw [List.filterMap_cons, hf]; exact List.mem_cons_self)
      obtain ⟨sl, e⟩ := I.base.slot L o ho (I.ok.frf L hL) hL fun z => I.ok.exfs L z hL
      exact ⟨hk, ⟨L, _, hf, hn, e, hd⟩, ih (fun b hb => hs b (by unfold frs; rw [List.filterMap_cons, hf]; exact List.mem_cons_of_mem _ hb)) hr⟩
  exact all X.outer (fun _ hb => hb) I.ok.funs
theorem Inv.stack (I : Inv X pins σ H s) : s.heap.FunFrames X.base X.stack := by
  rcases I.ok.stk with e | ⟨e, hf⟩
  · rw [e]; exact I.funs
  · rw [e]
    obtain ⟨m, hn, _⟩ := I.loc
    refine .cons (by rw [I.ok.kind]; decide) hf hn ?_ I.funs
    exact Heap.get?_none_of_le (Nat.le_trans I.ok.bsz I.ok.above)
theorem Inv.stkSub (I : Inv X pins σ H s) : ∀ b ∈ frs X.stack, b ∈ X.env.locals :: X.fs := fun b hb => by
  rcases I.ok.stk with e | ⟨e, hf⟩
  · rw [e] at hb; exact List.mem_cons_of_mem _ hb
  · rw [e] at hb
    unfold frs at hb
    rw [List.filterMap_cons, hf] at hb
    exact hb
theorem Inv.stkFree (I : Inv X pins σ H s) : ∀ b ∈ frs X.stack, H b = none := fun b hb => by
  rcases List.mem_cons.mp (I.stkSub b hb) with e | hb
  · rw [e]; exact I.free
  · obtain ⟨_, o, ho, _⟩ := I.ok.funs.mem hb
    exact I.base.free b o ho (I.ok.frf b hb) fun z => I.ok.exfs b z hb
theorem Inv.step {g' : Array GenState} {t' : Nat} {d' : Drawn} {ch : List Addr} (I : Inv X pins σ H s)
    (hch : ∀ b ∈ ch, (b ∈ X.ex ∨ X.s₀.heap.objs.size ≤ b) ∧ b ≠ X.env.locals ∧ (∀ x c, X.env.cells.lookup x = some c → c ≠ b) ∧ ∀ p ∈ X.pn ++ pins, p.1 ≠ b)
    (keep : ∀ b o, b ≠ X.env.locals → b ∉ X.fs → b ∉ ch → s.heap.get? b = some o → H b = none → h'.get? b = some o)
    (slot : ∀ b o, b ≠ X.env.locals → b ∈ X.fs → b ∉ ch → s.heap.get? b = some o → H b = none → ∃ sl, h'.get? b = some { o with slots := sl }) (free : ∀ b o, b ∉ ch → s.heap.get? b = some o → H b = none → H' b = none)
    (there : ∀ b o, b ∉ ch → s.heap.get? b = some o → ∃ o', h'.get? b = some o')
    (tups : ∀ b xs, H b = some (.tup xs) → H' b = some (.tup xs)) (frzs : ∀ b o u, H b = some (.frz o u) → H' b = some (.frz o u)) (tbls : ∀ b ps, H b = some (.tbl ps) → ∃ more, H' b = some (.tbl (ps ++ more)))
    (ns : ∀ m, s.heap.Ns X.env.locals m → h'.Ns X.env.locals m) (hok : HOk X.prog X.w H' h') (hg : AllBare g') :
    Inv X pins σ H' { s with heap := h', gens := g', drawn := d', toks := t' } := by
  have neL : ∀ b o, X.s₀.heap.get? b = some o → b ≠ X.env.locals := fun b o e => Nat.ne_of_lt (Nat.lt_of_lt_of_le (Heap.lt_size e) I.ok.above)
  have neC : ∀ b o, X.s₀.heap.get? b = some o → b ∉ X.ex → b ∉ ch := fun b o e hx hb => by
    rcases (hch b hb).1 with z | z
    · exact hx z
    · exact absurd (Nat.lt_of_lt_of_le (Heap.lt_size e) z) (Nat.lt_irrefl _)
  have cellK : ∀ x c, X.env.cells.lookup x = some c → ∀ v, s.heap.IsCell c v → h'.IsCell c v := fun x c e v ⟨o, ho, hd⟩ => by
    have nch : c ∉ ch := fun z => (hch c z).2.2.1 x c e rfl
    by_cases hc : c ∈ X.fs
    · obtain ⟨sl, q⟩ := slot c o (I.cne x c e) hc nch ho (I.freeC x c e)
      exact ⟨_, q, hd⟩
    · exact ⟨o, keep c o (I.cne x c e) hc nch ho (I.freeC x c e), hd⟩
  refine ⟨I.ok, I.os, hg, ⟨fun b o e n hb hx => ?_, fun b o e n hb hx => ?_, fun b o e n hx => ?_, fun b o e hx => ?_, fun b xs e => tups b xs (I.base.tups b xs e), fun b o xs e => frzs b o xs (I.base.frzs b o xs e), fun b ps e => ?_⟩, ?_, fun x c e => ?_, ?_, fun x c e => ?_, fun p hp => ?_, hok, I.len⟩
  · exact keep b o (neL b o e) hb (neC b o e hx) (I.base.keep b o e n hb hx) (I.base.free b o e n hx)
  · obtain ⟨sl, e1⟩ := I.base.slot b o e n hb hx
    obtain ⟨sl', e2⟩ := slot b _ (neL b o e) hb (neC b o e hx) e1 (I.base.free b o e n hx)
    exact ⟨sl', e2⟩
  · obtain ⟨o', e1⟩ := I.base.there b o e hx
    exact free b o' (neC b o e hx) e1 (I.base.free b o e n hx)
  · obtain ⟨o', e1⟩ := I.base.there b o e hx
    exact there b o' (neC b o e hx) e1
  · obtain ⟨m1, e1⟩ := I.base.tbls b ps e
    obtain ⟨m2, e2⟩ := tbls b _ e1
    exact ⟨m1 ++ m2, by rw [e2, Array.append_assoc]⟩
  · obtain ⟨m, hn, hl⟩ := I.loc
    refine ⟨m, ns m hn, fun i x v e1 e2 e3 => ?_⟩
    obtain ⟨u, r, l⟩ := hl i x v e1 e2 e3
    refine ⟨u, r, ?_⟩
    rcases l with l | ⟨k, c, e, z⟩
    · exact .inl l
    · exact .inr ⟨k, c, e, cellK x c e _ z⟩
  · obtain ⟨v, z⟩ := I.cell x c e
    exact ⟨v, cellK x c e v z⟩
  · obtain ⟨m, ⟨o, _, _, ho, _⟩, _⟩ := I.loc
    exact free _ o (fun z => (hch _ z).2.1 rfl) ho I.free
  · obtain ⟨v, o, ho, hd⟩ := I.cell x c e
    exact free c o (fun z => (hch c z).2.2.1 x c e rfl) ho (I.freeC x c e)
  · obtain ⟨e, n, ne, nf, d⟩ := I.pin p hp
    have nch : p.1 ∉ ch := fun z => (hch p.1 z).2.2.2 p hp rfl
    exact ⟨keep p.1 p.2 ne nf nch e n, free p.1 p.2 nch e n, ne, nf, d⟩
theorem Inv.step' {g' : Array GenState} {t' : Nat} {d' : Drawn} {ch : List Addr} (I : Inv X pins σ H s)
    (hch : ∀ b ∈ ch, (b ∈ X.ex ∨ X.s₀.heap.get? b = none) ∧ b ≠ X.env.locals ∧ (∀ x c, X.env.cells.lookup x = some c → c ≠ b) ∧ ∀ p ∈ X.pn ++ pins, p.1 ≠ b)
    (keep : ∀ b o, b ≠ X.env.locals → b ∉ X.fs → b ∉ ch → s.heap.get? b = some o → H b = none → h'.get? b = some o)
    (slot : ∀ b o, b ≠ X.env.locals → b ∈ X.fs → b ∉ ch → s.heap.get? b = some o → H b = none → ∃ sl, h'.get? b = some { o with slots := sl }) (free : ∀ b o, b ∉ ch → s.heap.get? b = some o → H b = none → H' b = none)
    (there : ∀ b o, b ∉ ch → s.heap.get? b = some o → ∃ o', h'.get? b = some o')
    (tups : ∀ b xs, H b = some (.tup xs) → H' b = some (.tup xs)) (frzs : ∀ b o u, H b = some (.frz o u) → H' b = some (.frz o u)) (tbls : ∀ b ps, H b = some (.tbl ps) → ∃ more, H' b = some (.tbl (ps ++ more)))
    (ns : ∀ m, s.heap.Ns X.env.locals m → h'.Ns X.env.locals m) (hok : HOk X.prog X.w H' h') (hg : AllBare g') :
    Inv X pins σ H' { s with heap := h', gens := g', drawn := d', toks := t' } := by
  have neL : ∀ b o, X.s₀.heap.get? b = some o → b ≠ X.env.locals := fun b o e => Nat.ne_of_lt (Nat.lt_of_lt_of_le (Heap.lt_size e) I.ok.above)
  have neC : ∀ b o, X.s₀.heap.get? b = some o → b ∉ X.ex → b ∉ ch := fun b o e hx hb => by
    rcases (hch b hb).1 with z | z
    · exact hx z
    · rw [z] at e; cases e
  have cellK : ∀ x c, X.env.cells.lookup x = some c → ∀ v, s.heap.IsCell c v → h'.IsCell c v := fun x c e v ⟨o, ho, hd⟩ => by
    have nch : c ∉ ch := fun z => (hch c z).2.2.1 x c e rfl
    by_cases hc : c ∈ X.fs
    · obtain ⟨sl, q⟩ := slot c o (I.cne x c e) hc nch ho (I.freeC x c e)
      exact ⟨_, q, hd⟩
    · exact ⟨o, keep c o (I.cne x c e) hc nch ho (I.freeC x c e), hd⟩
  refine ⟨I.ok, I.os, hg, ⟨fun b o e n hb hx => ?_, fun b o e n hb hx => ?_, fun b o e n hx => ?_, fun b o e hx => ?_, fun b xs e => tups b xs (I.base.tups b xs e), fun b o xs e => frzs b o xs (I.base.frzs b o xs e), fun b ps e => ?_⟩, ?_, fun x c e => ?_, ?_, fun x c e => ?_, fun p hp => ?_, hok, I.len⟩
  · exact keep b o (neL b o e) hb (neC b o e hx) (I.base.keep b o e n hb hx) (I.base.free b o e n hx)
  · obtain ⟨sl, e1⟩ := I.base.slot b o e n hb hx
    obtain ⟨sl', e2⟩ := slot b _ (neL b o e) hb (neC b o e hx) e1 (I.base.free b o e n hx)
    exact ⟨sl', e2⟩
  · obtain ⟨o', e1⟩ := I.base.there b o e hx
    exact free b o' (neC b o e hx) e1 (I.base.free b o e n hx)
  · obtain ⟨o', e1⟩ := I.base.there b o e hx
    exact there b o' (neC b o e hx) e1
  · obtain ⟨m1, e1⟩ := I.base.tbls b ps e
    obtain ⟨m2, e2⟩ := tbls b _ e1
    exact ⟨m1 ++ m2, by rw [e2, Array.append_assoc]⟩
  · obtain ⟨m, hn, hl⟩ := I.loc
    refine ⟨m, ns m hn, fun i x v e1 e2 e3 => ?_⟩
    obtain ⟨u, r, l⟩ := hl i x v e1 e2 e3
    refine ⟨u, r, ?_⟩
    rcases l with l | ⟨k, c, e, z⟩
    · exact .inl l
    · exact .inr ⟨k, c, e, cellK x c e _ z⟩
  · obtain ⟨v, z⟩ := I.cell x c e
    exact ⟨v, cellK x c e v z⟩
  · obtain ⟨m, ⟨o, _, _, ho, _⟩, _⟩ := I.loc
    exact free _ o (fun z => (hch _ z).2.1 rfl) ho I.free
  · obtain ⟨v, o, ho, hd⟩ := I.cell x c e
    exact free c o (fun z => (hch c z).2.2.1 x c e rfl) ho (I.freeC x c e)
  · obtain ⟨e, n, ne, nf, d⟩ := I.pin p hp
    have nch : p.1 ∉ ch := fun z => (hch p.1 z).2.2.2 p hp rfl
    exact ⟨keep p.1 p.2 ne nf nch e n, free p.1 p.2 nch e n, ne, nf, d⟩
theorem Inv.un {t' : Nat} (I : Inv X pins σ H s) (u : Un X.fs [] H H' s.heap h') (hok : HOk X.prog X.w H' h') : Inv X pins σ H' { s with heap := h', toks := t' } := by
  obtain ⟨m, ⟨o, es, ep, ho, r⟩, _⟩ := id I.loc
  obtain ⟨sl, hL⟩ := u.any ho I.free (by simp)
  exact I.step (g' := s.gens) (d' := s.drawn) (ch := []) (fun _ z => nomatch z) (fun b o _ hb _ e n => u.keep b o e n hb (by simp)) (fun b o _ hb _ e n => u.slot b o e n hb (by simp)) (fun b o _ e n => u.free b o e n (by simp)) (fun b o _ e => u.there b o e (by simp)) u.tups u.frzs u.tbls (fun m' hm => by
    obtain ⟨o', es', ep', ho', r'⟩ := hm
    rw [ho] at ho'; cases ho'
    exact ⟨_, es', ep', hL, r'⟩) hok I.bare
theorem Inv.call {g' : Array GenState} {t' : Nat} {d' : Drawn} {ch : List Addr} (I : Inv X pins σ H s) (u : Un (frs X.stack) ch H H' s.heap h') (hok : HOk X.prog X.w H' h') (hg : AllBare g')
    (hch : ∀ b ∈ ch, (b ∈ X.ex ∨ X.s₀.heap.objs.size ≤ b) ∧ b ≠ X.env.locals ∧ (∀ x c, X.env.cells.lookup x = some c → c ≠ b) ∧ ∀ p ∈ X.pn ++ pins, p.1 ≠ b) :
    Inv X pins σ H' { s with heap := h', gens := g', drawn := d', toks := t' } := by
  obtain ⟨m, ⟨o, es, ep, ho, r⟩, _⟩ := id I.loc
  obtain ⟨sl, hL⟩ := u.any ho I.free fun z => (hch _ z).2.1 rfl
  exact I.step (ch := ch) hch (fun b o hL hb hc e n => u.keep b o e n (fun z => (List.mem_cons.mp (I.stkSub b z)).elim hL hb) hc) (fun b o _ _ hc e n => u.any e n hc) (fun b o hc e n => u.free b o e n hc) (fun b o hc e => u.there b o e hc) u.tups u.frzs u.tbls (fun m' hm => by
    obtain ⟨o', es', ep', ho', r'⟩ := hm
    rw [ho] at ho'; cases ho'
    exact ⟨_, es', ep', hL, r'⟩) hok hg
theorem Inv.turned {t' : Nat} {it : Addr} (I : Inv X pins σ H s) (k : ∀ b o, b ≠ it → s.heap.get? b = some o → h'.get? b = some o) (hn : H it = none) (hL : it ≠ X.env.locals)
    (h1 : it ∈ X.ex ∨ X.s₀.heap.objs.size ≤ it) (h2 : ∀ x c, X.env.cells.lookup x = some c → c ≠ it) (h3 : ∀ p ∈ X.pn ++ pins, p.1 ≠ it) : Inv X pins σ H { s with heap := h', toks := t' } := by
  have nit : ∀ b u, H b = some u → b ≠ it := fun b u e z => by rw [z, hn] at e; cases e
  refine I.step (g' := s.gens) (d' := s.drawn) (ch := [it]) (fun b hb => ?_) (fun b o _ _ hc e _ => k b o (fun z => hc (by simp [z])) e) (fun b o _ _ hc e _ => ⟨o.slots, k b o (fun z => hc (by simp [z])) e⟩) (fun _ _ _ _ n => n)
    (fun b o hc e => ⟨o, k b o (fun z => hc (by simp [z])) e⟩) (fun _ _ e => e) (fun _ _ _ e => e) (fun b ps e => ⟨#[], by rw [e]; simp⟩) (fun m hm => ?_) (fun b u e => ?_) I.bare
  · have e : b = it := by simpa using hb
    subst e
    exact ⟨h1, hL, h2, h3⟩
  · obtain ⟨o, es, ep, ho, r⟩ := hm
    exact ⟨o, es, ep, k _ o (Ne.symm hL) ho, r⟩
  · refine (I.hok b u e).stay (fun c v hc q => k c v ?_ q) (fun _ q => q) fun _ _ q => q
    rcases hc with z | z
    · rw [z]; exact nit b u e
    · exact nit c _ z
theorem Inv.tok (I : Inv X pins σ H s) (t : Nat) : Inv X pins σ H { s with toks := t } := I.un (h' := s.heap) (t' := t) Un.refl I.hok
theorem Inv.kept {t' : Nat} (I : Inv X pins σ H s) (k : ∀ b u, s.heap.get? b = some u → h'.get? b = some u) : Inv X pins σ H { s with heap := h', toks := t' } := I.un (Un.kept k) (I.hok.kept k)
theorem Inv.laid {a : Addr} {o : HO} {t' : Nat} (I : Inv X pins σ H s) (k : ∀ b u, s.heap.get? b = some u → h'.get? b = some u) (hp : s.heap.objs.size ≤ a) (new : ObjOk X.prog X.w (upd H a o) h' a o) :
    Inv X pins σ (upd H a o) { s with heap := h', toks := t' } := I.un (Un.laid k hp (I.hok.fresh hp)) (I.hok.laid k hp new)
theorem Inv.write {x e : Addr} {o : HO} {t' : Nat} (I : Inv X pins σ H s) (mu : Mut (H x)) (he : e = x ∨ H e = some (.own x)) (k : ∀ b u, b ≠ e → s.heap.get? b = some u → h'.get? b = some u) (heo : ∃ u, h'.get? e = some u)
    (new : ObjOk X.prog X.w (upd H x o) h' x o) : Inv X pins σ (upd H x o) { s with heap := h', toks := t' } := I.un (Un.write mu he k heo) (I.hok.write mu he k heo new)
theorem Inv.weak {σ' : List (Option V)} (I : Inv X pins σ H s) (hl : σ'.length = σ.length) (w : ∀ (i : Nat) v, σ'[i]? = some (some v) → σ[i]? = some (some v)) : Inv X pins σ' H s :=
  ⟨I.ok, I.os, I.bare, I.base, let ⟨m, hn, hl'⟩ := I.loc; ⟨m, hn, fun i x v e1 e2 e3 => hl' i x v e1 (w i v e2) e3⟩, I.cell, I.free, I.freeC, I.pin, I.hok, hl.trans I.len⟩
theorem Inv.pins_of {pins' : List (Addr × Obj)} (I : Inv X pins σ H s) (h : ∀ p ∈ pins', s.heap.get? p.1 = some p.2 ∧ H p.1 = none ∧ p.1 ≠ X.env.locals ∧ p.1 ∉ X.fs ∧ ∀ v, p.2.data ≠ .cell v) : Inv X pins' σ H s :=
  ⟨I.ok, I.os, I.bare, I.base, I.loc, I.cell, I.free, I.freeC, fun p hp => (List.mem_append.mp hp).elim (fun z => I.pin p (List.mem_append_left _ z)) (h p), I.hok, I.len⟩
theorem nodup_ix {N : List Str} (hN : N.Nodup) {i j : Nat} {x : Str} (a : N[i]? = some x) (b : N[j]? = some x) : i = j := by
  obtain ⟨h1, e1⟩ := List.getElem?_eq_some_iff.mp a
  obtain ⟨h2, e2⟩ := List.getElem?_eq_some_iff.mp b
  exact (List.getElem_inj hN).mp (e1.trans e2.symm)
theorem store_ok2 {M : Model} {A : Around} {E : Value → Shared → Prop} {i : Nat} {x : Str} {v : V} {u : Value} {Q : Unit → Shared → Prop} (I : Inv X pins σ H s) (hN : X.N.Nodup) (hi : X.N[i]? = some x) (hx : Loc X.env.scope x) (r : RelV v u)
    (h : ∀ s', Inv X pins (σ.set i (some v)) H s' → (∃ a, Heap.SameBut a s.heap s'.heap ∧ (a = X.env.locals ∨ X.env.cells.lookup x = some a)) → Q () s') (hf : X.fn x = true ∨ X.env.scope.names.lookup x = some .local := by first | exact .inl rfl | exact .inr rfl | assumption) : wpAny M A (storeName X.env x u) Q E s := by
  obtain ⟨m, hn, hl⟩ := id I.loc
  have hcls : (X.env.scope.kind == .class || (X.env.scope.kind == .module && X.env.locals != X.env.globals)) = false := by rw [I.ok.kind]; rfl
  have hiσ : i < σ.length := by rw [I.len]; exact (List.getElem?_eq_some_iff.mp hi).1
  have cne := I.cne
  have tracked : ∀ {a : Addr} {h' : Heap}, (∃ o, s.heap.get? a = some o ∧ H a = none) → Heap.SameBut a s.heap h' → HOk X.prog X.w H h' := fun {a h'} ha hs b ob e => by
    obtain ⟨_, _, hfree⟩ := ha
    refine (I.hok b ob e).stay (fun c w' hc q => (hs.2 c ?_).trans q) (fun _ q => q) fun _ _ q => q
    rintro rfl
    rcases hc with rfl | hc
    · rw [hfree] at e; cases e
    · rw [hfree] at hc; cases hc
  rcases hx with hk | hk
  · refine wpAny_storeName_local hk hn (fun h' hn' hs => ?_) hcls
    obtain ⟨oL, _, _, hoL, _⟩ := id hn
    refine h _ ⟨I.ok, I.os, I.bare, ⟨fun b o e n hb hx => ?_, fun b o e n hb hx => ?_, I.base.free, fun b o e hx => ?_, I.base.tups, I.base.frzs, I.base.tbls⟩, ⟨_, hn', fun j y v' e1 e2 e3 => ?_⟩, fun y c e => ?_, I.free, I.freeC, fun p hp => ?_, tracked ⟨oL, hoL, I.free⟩ hs, by simpa using I.len⟩ ⟨_, hs, .inl rfl⟩
    · exact (hs.2 b (Nat.ne_of_lt (Nat.lt_of_lt_of_le (Heap.lt_size e) I.ok.above))).trans (I.base.keep b o e n hb hx)
    · obtain ⟨sl, e1⟩ := I.base.slot b o e n hb hx
      exact ⟨sl, (hs.2 b (Nat.ne_of_lt (Nat.lt_of_lt_of_le (Heap.lt_size e) I.ok.above))).trans e1⟩
    · obtain ⟨o', e1⟩ := I.base.there b o e hx
      exact ⟨o', (hs.2 b (Nat.ne_of_lt (Nat.lt_of_lt_of_le (Heap.lt_size e) I.ok.above))).trans e1⟩
    · by_cases hj : j = i
      · subst hj
        rw [hi] at e1; cases e1
        rw [List.getElem?_set_self hiσ] at e2
        cases e2
        exact ⟨u, r, .inl ⟨hk, by simp⟩⟩
      · rw [List.getElem?_set_ne (Ne.symm hj)] at e2
        obtain ⟨u', r', q⟩ := hl j y v' e1 e2 e3
        refine ⟨u', r', ?_⟩
        rcases q with ⟨k, e⟩ | ⟨k, c, e, z⟩
        · refine .inl ⟨k, ?_⟩
          have : y ≠ x := fun e => hj (nodup_ix hN e1 (e ▸ hi))
          simp [this, e]
        · exact .inr ⟨k, c, e, z.sameBut hs (cne y c e)⟩
    · obtain ⟨w', z⟩ := I.cell y c e
      exact ⟨w', z.sameBut hs (cne y c e)⟩
    · obtain ⟨e, n, ne, nf, d⟩ := I.pin p hp
      exact ⟨(hs.2 p.1 ne).trans e, n, ne, nf, d⟩
  · have hfn : X.fn x = true := by
      rcases hf with z | z
      · exact z
      · rw [z] at hk; cases hk
    obtain ⟨c, hc⟩ := I.ok.has x (.inl hk)
    obtain ⟨w', z⟩ := I.cell x c hc
    refine wpAny_storeName_cell I.ok.kind hk hc z (fun h' hc' hs => ?_)
    obtain ⟨oc, hoc, hocd⟩ := id z
    refine h { s with heap := h' } ⟨I.ok, I.os, I.bare, ⟨fun b o e n hb hx => ?_, fun b o e n hb hx => ?_, I.base.free, fun b o e hx => ?_, I.base.tups, I.base.frzs, I.base.tbls⟩, ⟨m, hn.sameBut hs (Ne.symm (cne x c hc)), fun j y v' e1 e2 e3 => ?_⟩, fun y c' e => ?_, I.free, I.freeC, fun p hp => ?_, tracked ⟨oc, hoc, I.freeC x c hc⟩ hs, by simpa using I.len⟩ ⟨c, hs, .inr hc⟩
    · exact (hs.2 b (Nat.ne_of_lt (Nat.lt_of_lt_of_le (Heap.lt_size e) (I.ok.cab x c hfn hc)))).trans (I.base.keep b o e n hb hx)
    · obtain ⟨sl, e1⟩ := I.base.slot b o e n hb hx
      exact ⟨sl, (hs.2 b (Nat.ne_of_lt (Nat.lt_of_lt_of_le (Heap.lt_size e) (I.ok.cab x c hfn hc)))).trans e1⟩
    · obtain ⟨o', e1⟩ := I.base.there b o e hx
      exact ⟨o', (hs.2 b (Nat.ne_of_lt (Nat.lt_of_lt_of_le (Heap.lt_size e) (I.ok.cab x c hfn hc)))).trans e1⟩
    · by_cases hj : j = i
      · subst hj
        rw [hi] at e1; cases e1
        rw [List.getElem?_set_self hiσ] at e2
        cases e2
        exact ⟨u, r, .inr ⟨.inl hk, c, hc, hc'⟩⟩
      · rw [List.getElem?_set_ne (Ne.symm hj)] at e2
        obtain ⟨u', r', q⟩ := hl j y v' e1 e2 e3
        refine ⟨u', r', ?_⟩
        rcases q with q | ⟨k, c', e, z'⟩
        · exact .inl q
        · refine .inr ⟨k, c', e, z'.sameBut hs ?_⟩
          rintro rfl
          exact hj (nodup_ix hN e1 (I.ok.inj _ _ _ e hc ▸ hi))
    · by_cases hcc : c' = c
      · subst hcc; exact ⟨_, hc'⟩
      · obtain ⟨w2, z2⟩ := I.cell y c' e
        exact ⟨w2, z2.sameBut hs hcc⟩
    · obtain ⟨e, n, ne, nf, d⟩ := I.pin p hp
      refine ⟨(hs.2 p.1 ?_).trans e, n, ne, nf, d⟩
      intro q
      rw [q, hoc] at e
      have q' : oc = p.2 := Option.some.inj e
      exact d w' (by rw [← q']; exact hocd)
theorem store_ok {M : Model} {A : Around} {E : Value → Shared → Prop} {i : Nat} {x : Str} {v : V} {u : Value} {Q : Unit → Shared → Prop} (I : Inv X pins σ H s) (hN : X.N.Nodup) (hi : X.N[i]? = some x) (hx : Loc X.env.scope x) (r : RelV v u)
    (h : ∀ s', Inv X pins (σ.set i (some v)) H s' → Q () s') (hf : X.fn x = true ∨ X.env.scope.names.lookup x = some .local := by first | exact .inl rfl | exact .inr rfl | assumption) : wpAny M A (storeName X.env x u) Q E s :=
  store_ok2 I hN hi hx r (fun s' I' _ => h s' I') hf
theorem Inv.call' {s' : Shared} {ch : List Addr} (I : Inv X pins σ H s) (ho : s'.os = s.os) (u : Un (frs X.stack) ch H H' s.heap s'.heap) (hok : HOk X.prog X.w H' s'.heap) (hg : AllBare s'.gens)
    (hch : ∀ b ∈ ch, (b ∈ X.ex ∨ X.s₀.heap.objs.size ≤ b) ∧ b ≠ X.env.locals ∧ (∀ x c, X.env.cells.lookup x = some c → c ≠ b) ∧ ∀ p ∈ X.pn ++ pins, p.1 ≠ b) : Inv X pins σ H' s' := by
  obtain ⟨h', g', d', t', o'⟩ := s'
  have e : o' = s.os := ho
  subst e
  exact I.call (g' := g') (t' := t') (d' := d') u hok hg hch
end
abbrev XK := Value → Option Addr → Hp → Prop
abbrev St := List (Option V)
abbrev VK := V → Hp → Prop
abbrev TE := St → Hp → VK → Prop
abbrev TT := St → Hp → (Bool → Hp → Prop) → Prop
abbrev TA := St → Hp → (List V → Hp → Prop) → Prop
structure Ends where
  nx : St → Hp → Prop
  rt : VK
  bk : St → Hp → Prop := fun _ _ => False
  ct : St → Hp → Prop := fun _ _ => False
abbrev TS := Ends → St → Hp → Prop
def EP (X : Cx) (pins : List (Addr × Obj)) (σ : St) (Q : VK) (u : Value) (s' : Shared) : Prop := ∃ v H', Inv X pins σ H' s' ∧ RelV v u ∧ Q v H'
def TP (X : Cx) (pins : List (Addr × Obj)) (σ : St) (Q : Bool → Hp → Prop) (b : Bool) (s' : Shared) : Prop := ∃ H', Inv X pins σ H' s' ∧ Q b H'
def AP (X : Cx) (pins : List (Addr × Obj)) (σ : St) (Q : List V → Hp → Prop) (us : List Value) (s' : Shared) : Prop := ∃ vs H', Inv X pins σ H' s' ∧ Vals vs us ∧ Q vs H'
def SP (X : Cx) (pins : List (Addr × Obj)) (D : Ends) (f : Flow) (s' : Shared) : Prop :=
  match f with
  | .next => ∃ σ' H', Inv X pins σ' H' s' ∧ D.nx σ' H'
  | .brk => ∃ σ' H', Inv X pins σ' H' s' ∧ D.bk σ' H'
  | .cont => ∃ σ' H', Inv X pins σ' H' s' ∧ D.ct σ' H'
  | .ret u => ∃ v σ' H', Inv X pins σ' H' s' ∧ RelV v u ∧ D.rt v H'
def PE (X : Cx) (e : Expr) (t : TE) : Prop :=
  ∀ (pins : List (Addr × Obj)) (s : Shared) (σ : St) (H : Hp) (Q : VK), Inv X pins σ H s → t σ H Q → wpAny (model X.prog X.w) X.A (eval e X.env) (EP X pins σ Q) X.xe s
def PT (X : Cx) (e : Expr) (t : TT) : Prop :=
  ∀ (pins : List (Addr × Obj)) (s : Shared) (σ : St) (H : Hp) (Q : Bool → Hp → Prop), Inv X pins σ H s → t σ H Q → wpAny (model X.prog X.w) X.A (isTrue e X.env (eval e X.env)) (TP X pins σ Q) X.xe s
def PW (X : Cx) (e : Expr) (t : TT) : Prop :=
  ∀ (whole : Sem Value) (pins : List (Addr × Obj)) (s : Shared) (σ : St) (H : Hp) (Q : Bool → Hp → Prop), Inv X pins σ H s → t σ H Q → wpAny (model X.prog X.w) X.A (isTrue e X.env whole) (TP X pins σ Q) X.xe s
theorem PW.pt {X : Cx} {e : Expr} {t : TT} (h : PW X e t) : PT X e t := h _
def PA (X : Cx) (es : List Expr) (t : TA) : Prop :=
  ∀ (pos : Pos) (pins : List (Addr × Obj)) (s : Shared) (σ : St) (H : Hp) (Q : List V → Hp → Prop), Inv X pins σ H s → t σ H Q → wpAny (model X.prog X.w) X.A (spliced (backTo pos (starEach es X.env))) (AP X pins σ Q) X.xe s
def PS (X : Cx) (st : Stmt) (t : TS) : Prop :=
  ∀ (pins : List (Addr × Obj)) (s : Shared) (σ : St) (H : Hp) (D : Ends), Inv X pins σ H s → t D σ H → wpAny (model X.prog X.w) X.A (exec st X.env) (SP X pins D) X.xe s
def PSs (X : Cx) (st : List Stmt) (t : TS) : Prop :=
  ∀ (pins : List (Addr × Obj)) (s : Shared) (σ : St) (H : Hp) (D : Ends), Inv X pins σ H s → t D σ H → wpAny (model X.prog X.w) X.A (execs st X.env) (SP X pins D) X.xe s
theorem thn {α : Type} {t : Sem α} {Q Q' : α → Shared → Prop} {M : Model} {A : Around} {E : Value → Shared → Prop} {s : Shared} (h : wpAny M A t Q E s) (hQ : ∀ a s, Q a s → Q' a s) : wpAny M A t Q' E s := wpAny_mono h hQ fun _ _ x => x
end L2
namespace L2
open PySem PySem.Spec PyProof.Rows
section
variable {X : Cx}
def tVar (i : Nat) : TE := fun σ H Q => ∃ v, σ[i]? = some (some v) ∧ Q v H
def tC (v : V) : TE := fun _ H Q => Q v H
theorem pe_var {i : Nat} {x : Str} {pos : Pos} (hN : X.N[i]? = some x) (hv : Vis X.env.scope x) (hd : (x == ("__debug__" : Str)) = false := by decide) (hcd : (x == ("__classdict__" : Str)) = false := by decide) : PE X (.Name x pos) (tVar i) := by
  intro pins s σ H Q I h
  obtain ⟨v, e, h⟩ := h
  obtain ⟨m, hn, hl⟩ := I.loc
  obtain ⟨u, r, l⟩ := hl i x v hN e hv
  have fin : EP X pins σ Q u s := ⟨v, H, I, r, h⟩
  rcases l with ⟨hk, hm⟩ | ⟨hk, c, hc, hcell⟩
  · exact wpAny_Name (wpAny_loadName_local I.ok.kind hk hn hm fin) hd
  · rcases hk with hk | hk
    · exact wpAny_Name (wpAny_loadName_cell I.ok.kind hk hc hcell fin) hd
    · exact wpAny_Name (wpAny_loadName_free I.ok.kind hk hc hcell fin hcd) hd
theorem pe_int {i j pos} : PE X (.Constant (.int i) j pos) (tC (.int i)) := fun _ _ _ H _ I h => wpAny_Constant_int ⟨.int i, H, I.tok _, ⟨_, rfl⟩, h⟩
theorem pe_bl {b j pos} : PE X (.Constant (.bool b) j pos) (tC (.bl b)) := fun _ _ _ H _ I h => Constant_bool ⟨.bl b, H, I, rfl, h⟩
theorem pe_non {j pos} : PE X (.Constant .none j pos) (tC .non) := fun _ _ _ H _ I h => Constant_none ⟨.non, H, I, rfl, h⟩
theorem pe_str {x j pos} : PE X (.Constant (.str x) j pos) (tC (.str x)) := fun _ _ _ H _ I h => Calls.Constant_str ⟨.str x, H, I.tok _, ⟨_, rfl⟩, h⟩
def Gl (X : Cx) (x : Str) : Prop := X.env.kindOf x = some .globalImplicit
theorem ld_glob {E : Value → Shared → Prop} {pins : List (Addr × Obj)} {s : Shared} {σ : St} {H : Hp} {x : Str} {u : Value} {pos : Pos} {Q : Value → Shared → Prop} (I : Inv X pins σ H s) (hg : Gl X x) (hm : X.mg x = some u) (h : Q u s)
    (hd : (x == ("__debug__" : Str)) = false := by decide) : wpAny (model X.prog X.w) X.A (eval (.Name x pos) X.env) Q E s :=
  Calls.Name_function_global I.ok.kind hg (Calls.loadGlobal_global (by rw [I.ok.glob]; exact I.mod.glob.keeps I.bk) hm h) hd
theorem ld_blt {E : Value → Shared → Prop} {pins : List (Addr × Obj)} {s : Shared} {σ : St} {H : Hp} {x : Str} {u : Value} {pos : Pos} {Q : Value → Shared → Prop} (I : Inv X pins σ H s) (hg : Gl X x) (hm : X.mg x = none) (hv : bootBuiltins x = some u) (h : Q u s)
    (hn : x ≠ "__name__" := by decide) (hd : (x == ("__debug__" : Str)) = false := by decide) : wpAny (model X.prog X.w) X.A (eval (.Name x pos) X.env) Q E s := by
  obtain ⟨mb, h1, h2⟩ := I.mod.blt
  exact Calls.Name_function_global I.ok.kind hg (Calls.loadGlobal_builtin (by rw [I.ok.glob]; exact I.mod.glob.keeps I.bk) hm (by rw [I.ok.blt]; exact h1.keeps I.bk) ((h2 x hn).trans hv) h) hd
theorem pe_glob {x : Str} {v : V} {u : Value} {pos : Pos} (hg : Gl X x) (hm : X.mg x = some u) (r : RelV v u) (hd : (x == ("__debug__" : Str)) = false := by decide) : PE X (.Name x pos) (tC v) :=
  fun _ _ _ H _ I h => ld_glob I hg hm ⟨v, H, I, r, h⟩ hd
theorem pe_bltn {x : Str} {v : V} {u : Value} {pos : Pos} (hg : Gl X x) (hm : X.mg x = none) (hv : bootBuiltins x = some u) (r : RelV v u) (hn : x ≠ "__name__" := by decide) (hd : (x == ("__debug__" : Str)) = false := by decide) : PE X (.Name x pos) (tC v) :=
  fun _ _ _ H _ I h => ld_blt I hg hm hv ⟨v, H, I, r, h⟩ hn hd
variable {a b : Expr} {ta tb : TE} {pos : Pos}
def tB (t : TE) : TT := fun σ H Q => t σ H fun x H1 => ∃ c, x = .bl c ∧ Q c H1
theorem pt_val {e : Expr} {t : TE} (h : PE X e t) (he : ∀ whole, isTrue e X.env whole = (do let v ← whole; standAt e.pos; holding [v] (truthy v)) := by intro _; rfl) : PT X e (tB t) := by
  intro pins s σ H Q I hw
  refine isTrue_plain (thn (h pins s σ H _ I hw) fun v s1 ⟨x, H1, I1, r1, q1⟩ => ?_) (he _)
  obtain ⟨d, rfl, q⟩ := q1
  cases r1
  exact wpAny_truthy_bool ⟨H1, I1, q⟩
variable {tA tB' : TT} {rest : List Expr}
def tAnd (t u : TT) : TT := fun σ H Q => t σ H fun c H1 => if c = true then u σ H1 Q else Q false H1
def tOr (t u : TT) : TT := fun σ H Q => t σ H fun c H1 => if c = true then Q true H1 else u σ H1 Q
def tNot (t : TT) : TT := fun σ H Q => t σ H fun c H1 => Q (!c) H1
theorem pw_and1 (ha : PT X a tA) : PW X (.BoolOp .And [a] pos) tA := by
  intro wh pins s σ H Q I h
  refine isTrue_and (thn (ha pins s σ H Q I h) fun c s1 e => ?_)
  cases c with
  | true => exact isTrue_and_nil e
  | false => exact e
theorem pw_or1 (ha : PT X a tA) : PW X (.BoolOp .Or [a] pos) tA := by
  intro wh pins s σ H Q I h
  refine isTrue_or (thn (ha pins s σ H Q I h) fun c s1 e => ?_)
  cases c with
  | false => exact isTrue_or_nil e
  | true => exact e
theorem pw_and (ha : PT X a tA) (hb : PW X (.BoolOp .And (b :: rest) pos) tB') : PW X (.BoolOp .And (a :: b :: rest) pos) (tAnd tA tB') := by
  intro wh pins s σ H Q I h
  refine isTrue_and (thn (ha pins s σ H _ I h) fun c s1 ⟨H1, I1, q1⟩ => ?_)
  cases c with
  | true => exact hb wh pins s1 σ H1 Q I1 q1
  | false => exact ⟨H1, I1, q1⟩
theorem pw_or (ha : PT X a tA) (hb : PW X (.BoolOp .Or (b :: rest) pos) tB') : PW X (.BoolOp .Or (a :: b :: rest) pos) (tOr tA tB') := by
  intro wh pins s σ H Q I h
  refine isTrue_or (thn (ha pins s σ H _ I h) fun c s1 ⟨H1, I1, q1⟩ => ?_)
  cases c with
  | true => exact ⟨H1, I1, q1⟩
  | false => exact hb wh pins s1 σ H1 Q I1 q1
theorem pt_not (ha : PT X a tA) : PT X (.UnaryOp .Not a pos) (tNot tA) := by
  intro pins s σ H Q I h
  exact isTrue_not (ha pins s σ H (fun c H1 => Q (!c) H1) I h)
def tAndV (ta tb : TE) : TE := fun σ H Q => ta σ H fun x H1 => ∃ c, x = .bl c ∧ if c = true then tb σ H1 Q else Q (.bl false) H1
def tOrV (ta tb : TE) : TE := fun σ H Q => ta σ H fun x H1 => ∃ c, x = .bl c ∧ if c = true then Q (.bl true) H1 else tb σ H1 Q
def tNotV (ta : TE) : TE := fun σ H Q => ta σ H fun x H1 => ∃ c, x = .bl c ∧ Q (.bl (!c)) H1
def tIf (t : TT) (ta tb : TE) : TE := fun σ H Q => t σ H fun c H1 => if c = true then ta σ H1 Q else tb σ H1 Q
theorem pe_ifExp {c : Expr} (hc : PT X c tA) (ha : PE X a ta) (hb : PE X b tb) : PE X (.IfExp c a b pos) (tIf tA ta tb) := by
  intro pins s σ H Q I h
  refine wpAny_IfExp (thn (hc pins s σ H _ I h) fun d s1 ⟨H1, I1, q1⟩ => ?_)
  cases d with
  | true => exact ha pins s1 σ H1 Q I1 q1
  | false => exact hb pins s1 σ H1 Q I1 q1
end
end L2
namespace L2
open PySem PySem.Spec PyProof.Rows
def SqL (K : PySem.W.Frag) (H : Hp) (a : Addr) (xs : List V) : Prop :=
  Rd H a (.lst xs) ∨
    ∃ (o : Obj) (its : Array Value) (n : Nat), K.lookup a = some o ∧ o.cls = .type "list" ∧ o.dict = none ∧ o.data = .seq its n ∧ its.size ≤ sizeLine ∧ Vals xs its.toList
def SqT (K : PySem.W.Frag) (H : Hp) (a : Addr) (xs : List V) : Prop :=
  Rd H a (.tup xs) ∨
    ∃ (o : Obj) (its : Array Value) (n : Nat), K.lookup a = some o ∧ o.cls = .type "tuple" ∧ o.data = .seq its n ∧ its.size ≤ sizeLine ∧ Vals xs its.toList
def absV : Value → Option V
  | .none => some .non
  | .bool b => some (.bl b)
  | .int i _ => some (.int i)
  | .str x _ => some (.str x)
  | .bytes b _ => some (.byt b)
  | .float b _ => some (.flt b)
  | .ref a => some (.ref a)
  | .type n => some (.ty n)
  | _ => none
theorem RelV.abs {x : V} {u : Value} (r : RelV x u) : absV u = some x := by
  cases x with
  | non => cases r; rfl
  | bl _ => cases r; rfl
  | int _ => obtain ⟨t, rfl⟩ := r; rfl
  | str _ => obtain ⟨t, rfl⟩ := r; rfl
  | byt _ => obtain ⟨t, rfl⟩ := r; rfl
  | flt _ => obtain ⟨t, rfl⟩ := r; rfl
  | ref _ => cases r; rfl
  | ty _ => cases r; rfl
theorem RelV.inj {x y : V} {u : Value} (r : RelV x u) (q : RelV y u) : x = y := Option.some.inj (r.abs.symm.trans q.abs)
theorem Vals.inj : ∀ {xs ys : List V} {us : List Value}, Vals xs us → Vals ys us → xs = ys
  | _, _, _, .nil, .nil => rfl
  | _, _, _, .cons r t, .cons r' t' => by rw [r.inj r', Vals.inj t t']
section
variable {X : Cx} {pins : List (Addr × Obj)} {σ : St} {H : Hp} {s : Shared} {a : Addr} {xs ys : List V}
theorem SqL.of {K : PySem.W.Frag} (h : H a = some (.lst xs)) : SqL K H a xs := .inl (.inl h)
theorem SqT.of {K : PySem.W.Frag} (h : H a = some (.tup xs)) : SqT K H a xs := .inl (.inl h)
theorem Inv.list (I : Inv X pins σ H s) (h : SqL X.K H a xs) : ∃ its : List Value, Vals xs its ∧ PlainL s.heap a its.toArray ∧ xs.length ≤ sizeLine := by
  rcases h with h | ⟨o, its, n, hk, hc, hd, hs, hz, r⟩
  · obtain ⟨z, its, n, r, e⟩ := h.ok I.hok
    exact ⟨its, r, ⟨_, n, e, rfl, rfl, rfl⟩, z⟩
  · refine ⟨its.toList, r, ⟨o, n, I.kIn a o hk, hc, hd, by simpa using hs⟩, ?_⟩
    have e := r.length
    simp only [Array.length_toList] at e
    omega
theorem Inv.tuple (I : Inv X pins σ H s) (h : SqT X.K H a xs) : ∃ its : List Value, Vals xs its ∧ IsTup s.heap a its.toArray ∧ xs.length ≤ sizeLine := by
  rcases h with h | ⟨o, its, n, hk, hc, hs, hz, r⟩
  · obtain ⟨z, its, r, p⟩ := h.ok I.hok
    exact ⟨its, r, p, z⟩
  · refine ⟨its.toList, r, ⟨o, I.kIn a o hk, hc, n, by simpa using hs⟩, ?_⟩
    have e := r.length
    simp only [Array.length_toList] at e
    omega
theorem Inv.list_inj (I : Inv X pins σ H s) (h : SqL X.K H a xs) (h' : SqL X.K H a ys) : xs = ys := by
  obtain ⟨its, r, ⟨o, n, e, _, _, d⟩, _⟩ := I.list h
  obtain ⟨its', r', ⟨o', n', e', _, _, d'⟩, _⟩ := I.list h'
  rw [e] at e'; cases e'
  rw [d] at d'
  injection d' with d1 _
  have : its = its' := by simpa using congrArg Array.toList d1
  subst this
  exact r.inj r'
theorem Inv.tuple_inj (I : Inv X pins σ H s) (h : SqT X.K H a xs) (h' : SqT X.K H a ys) : xs = ys := by
  obtain ⟨its, r, ⟨o, e, _, n, d⟩, _⟩ := I.tuple h
  obtain ⟨its', r', ⟨o', e', _, n', d'⟩, _⟩ := I.tuple h'
  rw [e] at e'; cases e'
  rw [d] at d'
  injection d' with d1 _
  have : its = its' := by simpa using congrArg Array.toList d1
  subst this
  exact r.inj r'
end
abbrev Cx.wish (X : Cx) (E : Value → Shared → Prop) : Cx := { X with xe := E }
abbrev Cx.nox (X : Cx) : Cx := X.wish fun _ _ => False
theorem Cx.Ok.wish {X : Cx} (ok : X.Ok) (E : Value → Shared → Prop) : (X.wish E).Ok :=
  ⟨ok.mod, ok.kind, ok.glob, ok.blt, ok.above, ok.inj, ok.has, ok.cab, ok.hd, ok.frames, ok.stk, ok.exf, ok.bs, ok.bsz, ok.noex, ok.exfs, ok.funs, ok.frf⟩
theorem Cx.Ok.unwish {X : Cx} {E : Value → Shared → Prop} (ok : (X.wish E).Ok) : X.Ok :=
  ⟨ok.mod, ok.kind, ok.glob, ok.blt, ok.above, ok.inj, ok.has, ok.cab, ok.hd, ok.frames, ok.stk, ok.exf, ok.bs, ok.bsz, ok.noex, ok.exfs, ok.funs, ok.frf⟩
section
variable {X : Cx} {pins : List (Addr × Obj)} {σ : St} {H : Hp} {s : Shared} {E : Value → Shared → Prop}
theorem Inv.wish (I : Inv X pins σ H s) (E : Value → Shared → Prop) : Inv (X.wish E) pins σ H s := ⟨I.ok.wish E, I.os, I.bare, I.base, I.loc, I.cell, I.free, I.freeC, I.pin, I.hok, I.len⟩
theorem Inv.unwish (I : Inv (X.wish E) pins σ H s) : Inv X pins σ H s := ⟨I.ok.unwish, I.os, I.bare, I.base, I.loc, I.cell, I.free, I.freeC, I.pin, I.hok, I.len⟩
theorem SP.unwish {D : Ends} {f : Flow} {s' : Shared} (h : SP (X.wish E) pins D f s') : SP X pins D f s' := by
  cases f with
  | next => obtain ⟨σ', H', I, q⟩ := h; exact ⟨σ', H', I.unwish, q⟩
  | brk => obtain ⟨σ', H', I, q⟩ := h; exact ⟨σ', H', I.unwish, q⟩
  | cont => obtain ⟨σ', H', I, q⟩ := h; exact ⟨σ', H', I.unwish, q⟩
  | ret u => obtain ⟨v, σ', H', I, r, q⟩ := h; exact ⟨v, σ', H', I.unwish, r, q⟩
theorem PE.nox {e : Expr} {t : TE} (h : PE X.nox e t) : PE X e t := fun pins s σ H Q I hw =>
  wpAny_mono (h pins s σ H Q (I.wish _) hw) (fun _ _ ⟨v, H', I', r, q⟩ => ⟨v, H', I'.unwish, r, q⟩) fun _ _ z => False.elim z
theorem PT.nox {e : Expr} {t : TT} (h : PT X.nox e t) : PT X e t := fun pins s σ H Q I hw =>
  wpAny_mono (h pins s σ H Q (I.wish _) hw) (fun _ _ ⟨H', I', q⟩ => ⟨H', I'.unwish, q⟩) fun _ _ z => False.elim z
theorem PSs.nox {st : List Stmt} {t : TS} (h : PSs X.nox st t) : PSs X st t := fun pins s σ H D I hw =>
  wpAny_mono (h pins s σ H D (I.wish _) hw) (fun _ _ q => q.unwish) fun _ _ z => False.elim z
end
section
variable {X : Cx} {st : Stmt} {rest : List Stmt} {t u : TS} {e : Expr} {te : TE} {pos : Pos}
def tNext : TS := fun D σ H => D.nx σ H
def tSeq (t u : TS) : TS := fun D σ H => t { D with nx := u D } σ H
theorem pss_nil : PSs X [] tNext := fun _ _ σ H _ I h => wpAny_execs_nil ⟨σ, H, I, h⟩
theorem pss_cons (h1 : PS X st t) (h2 : PSs X rest u) : PSs X (st :: rest) (tSeq t u) := by
  intro pins s σ H D I h
  refine wpAny_execs_cons (thn (h1 pins s σ H { D with nx := u D } I h) fun f s1 q => ?_)
  cases f with
  | next =>
    obtain ⟨σ', H', I', q⟩ := q
    exact h2 pins s1 σ' H' D I' q
  | ret v => exact q
  | brk => exact q
  | cont => exact q
theorem pss_one (h1 : PS X st t) : PSs X [st] t := by
  intro pins s σ H D I h
  refine wpAny_execs_cons (thn (h1 pins s σ H D I h) fun f s1 q => ?_)
  cases f with
  | next => exact wpAny_execs_nil q
  | ret v => exact q
  | brk => exact q
  | cont => exact q
theorem Inv.quiet {pins : List (Addr × Obj)} {σ : St} {H : Hp} {s : Shared} (I : Inv X pins σ H s) : interactive X.env = false := by simp [interactive, I.ok.kind]
def tDrop (te : TE) : TS := fun D σ H => te σ H fun _ H1 => D.nx σ H1
theorem ps_expr (he : PE X e te) (hs : swapsWith e none pos.line X.env = pure false := by rfl) : PS X (.Expr e pos) (tDrop te) := by
  intro pins s σ H D I h
  exact wpAny_Expr_any (thn (he pins s σ H _ I h) fun v s1 ⟨x, H1, I1, r1, q1⟩ => ⟨σ, H1, I1, q1⟩) I.quiet hs
def tRet (te : TE) : TS := fun D σ H => te σ H D.rt
theorem ps_ret (he : PE X e te) : PS X (.Return (some e) pos) (tRet te) := by
  intro pins s σ H D I h
  exact wpAny_Return_some (thn (he pins s σ H _ I h) fun v s1 ⟨x, H1, I1, r1, q1⟩ => ⟨x, σ, H1, I1, r1, q1⟩)
def tIfS (c : TT) (t u : TS) : TS := fun D σ H => c σ H fun b H1 => if b = true then t D σ H1 else u D σ H1
theorem ps_if {c : Expr} {a b : List Stmt} {tc : TT} (hc : PT X c tc) (ha : PSs X a t) (hb : PSs X b u) : PS X (.If c a b pos) (tIfS tc t u) := by
  intro pins s σ H D I h
  refine wpAny_If (thn (hc pins s σ H _ I h) fun d s1 ⟨H1, I1, q1⟩ => ?_)
  cases d with
  | true => exact ha pins s1 σ H1 D I1 q1
  | false => exact hb pins s1 σ H1 D I1 q1
end
abbrev TG := V → St → Hp → (St → Hp → Prop) → Prop
def PG (X : Cx) (target : Expr) (t : TG) : Prop :=
  ∀ (pins : List (Addr × Obj)) (s : Shared) (σ : St) (H : Hp) (v : V) (u : Value) (Q : St → Hp → Prop), Inv X pins σ H s → RelV v u → t v σ H Q →
    wpAny (model X.prog X.w) X.A (assign target X.env u) (fun _ s' => ∃ σ' H', Inv X pins σ' H' s' ∧ Q σ' H') X.xe s
abbrev TSet := V → V → V → Hp → (Hp → Prop) → Prop
def PSet (X : Cx) (t : TSet) : Prop :=
  ∀ (pins : List (Addr × Obj)) (s : Shared) (σ : St) (H : Hp) (o i v : V) (ov iv u : Value) (Q : Hp → Prop), Inv X pins σ H s → RelV o ov → RelV i iv → RelV v u → t o i v H Q →
    wpAny (model X.prog X.w) X.A (setItem ov iv u) (fun _ s' => ∃ H', Inv X pins σ H' s' ∧ Q H') X.xe s
abbrev TIp := V → V → Hp → VK → Prop
def PIp (X : Cx) (op : Operator) (t : TIp) : Prop :=
  ∀ (pins : List (Addr × Obj)) (s : Shared) (σ : St) (H : Hp) (x y : V) (v u : Value) (Q : VK), Inv X pins σ H s → RelV x v → RelV y u → t x y H Q →
    wpAny (model X.prog X.w) X.A (inplaceOp op v u) (EP X pins σ Q) X.xe s
section
variable {X : Cx} {pos : Pos}
def gName (i : Nat) : TG := fun v σ H Q => Q (σ.set i (some v)) H
theorem pg_name {i : Nat} {x : Str} (hN : X.N.Nodup) (hi : X.N[i]? = some x) (hx : Loc X.env.scope x) (hf : X.fn x = true ∨ X.env.scope.names.lookup x = some .local := by first | exact .inl rfl | exact .inr rfl | assumption) : PG X (.Name x pos) (gName i) := by
  intro pins s σ H v u Q I r h
  exact wpAny_assign_Name (store_ok I hN hi hx r (fun s' I' => ⟨_, H, I', h⟩) hf)
def gSub (to ti : TE) (t : TSet) : TG := fun v σ H Q => to σ H fun o H1 => ti σ H1 fun i H2 => t o i v H2 fun H3 => Q σ H3
theorem pg_sub {o i : Expr} {to ti : TE} {t : TSet} (ho : PE X o to) (hi : PE X i ti) (hs : PSet X t)
    (ha : ∀ v, assign (.Subscript o i pos) X.env v = (do
      let ov ← holding [v] (eval o X.env)
      let iv ← holding [v, ov] (eval i X.env)
      standAt pos
      holding [v, ov, iv] (setItem ov iv v)
      release [v, ov, iv] []) := by intro _; rfl) : PG X (.Subscript o i pos) (gSub to ti t) := by
  intro pins s σ H v u Q I r h
  rw [ha]
  refine wpAny_bind (wpAny_holding (thn (ho pins s σ H _ I h) fun ov s1 ⟨x, H1, I1, r1, q1⟩ => ?_))
  refine wpAny_bind (wpAny_holding (thn (hi pins s1 σ H1 _ I1 q1) fun iv s2 ⟨y, H2, I2, r2, q2⟩ => ?_))
  refine wpAny_bind (wpAny_standAt (wpAny_bind (wpAny_holding (thn (hs pins s2 σ H2 x y v ov iv u _ I2 r1 r2 r q2) fun _ s3 ⟨H3, I3, q3⟩ => ?_))))
  exact wpAny_release ⟨σ, H3, I3, q3⟩
def tAsg (te : TE) (g : TG) : TS := fun D σ H => te σ H fun x H1 => g x σ H1 D.nx
theorem ps_asg {tg e : Expr} {te : TE} {g : TG} (he : PE X e te) (hg : PG X tg g) (hs : swapsWithSole [tg] e pos.line X.env = pure false := by rfl) (hw : swappedStores [tg] e X.env = pure none := by rfl)
    (h1 : (assignEach [tg] X.env).map (·.2) = [assign tg X.env] := by rfl) : PS X (.Assign [tg] e pos) (tAsg te g) := by
  intro pins s σ H D I h
  refine wpAny_Assign_stores (thn (he pins s σ H _ I h) fun v s1 ⟨x, H1, I1, r1, q1⟩ => ?_) hs hw
  rw [h1]
  exact thn (hg pins s1 σ H1 x v _ I1 r1 q1) fun _ s2 q => q
theorem ps_set {i : Nat} {x : Str} {e : Expr} {te : TE} {pos' : Pos} (hN : X.N.Nodup) (hi : X.N[i]? = some x) (hx : Loc X.env.scope x) (he : PE X e te) (hs : swapsWith e (some (.Name x pos')) pos.line X.env = pure false := by rfl) (hf : X.fn x = true ∨ X.env.scope.names.lookup x = some .local := by first | exact .inl rfl | exact .inr rfl | assumption) :
    PS X (.Assign [.Name x pos'] e pos) (tAsg te (gName i)) := by
  intro pins s σ H D I h
  refine wpAny_Assign_Name (thn (he pins s σ H _ I h) fun v s1 ⟨y, H1, I1, r1, q1⟩ => ?_) hs
  exact store_ok I1 hN hi hx r1 (fun s2 I2 => ⟨_, H1, I2, q1⟩) hf
def tAug (i : Nat) (te : TE) (ti : TIp) : TS := fun D σ H => ∃ x, σ[i]? = some (some x) ∧ te σ H fun y H1 => ti x y H1 fun z H2 => D.nx (σ.set i (some z)) H2
theorem ps_aug {i : Nat} {x : Str} {e : Expr} {te : TE} {op : Operator} {ti : TIp} {pos' : Pos} (hN : X.N.Nodup) (hi : X.N[i]? = some x) (hx : Loc X.env.scope x) (he : PE X e te) (ho : PIp X op ti) (hf : X.fn x = true ∨ X.env.scope.names.lookup x = some .local := by first | exact .inl rfl | exact .inr rfl | assumption) :
    PS X (.AugAssign (.Name x pos') op e pos) (tAug i te ti) := by
  intro pins s σ H D I h
  obtain ⟨v, e1, h⟩ := h
  obtain ⟨m, hn, hl⟩ := I.loc
  have vis : Vis X.env.scope x := by rcases hx with k | k; exact .inl k; exact .inr (.inl k)
  obtain ⟨u, r, l⟩ := hl i x v hi e1 vis
  refine wpAny_AugAssign_Name ?_
  have go : wpAny (model X.prog X.w) X.A (eval e X.env) (fun w s₂ => wpAny (model X.prog X.w) X.A (inplaceOp op u w) (fun r s₃ => wpAny (model X.prog X.w) X.A (storeName X.env x r) (fun _ => SP X pins D .next) X.xe s₃) X.xe s₂) X.xe s := by
    refine thn (he pins s σ H _ I h) fun w s1 ⟨y, H1, I1, r1, q1⟩ => ?_
    refine thn (ho pins s1 σ H1 v y u w _ I1 r r1 q1) fun z s2 ⟨zv, H2, I2, r2, q2⟩ => ?_
    exact store_ok I2 hN hi hx r2 (fun s3 I3 => ⟨_, H2, I3, q2⟩) hf
  rcases l with ⟨hk, hm⟩ | ⟨hk, c, hc, hcell⟩
  · exact wpAny_loadName_local I.ok.kind hk hn hm go
  · rcases hk with hk | hk
    · exact wpAny_loadName_cell I.ok.kind hk hc hcell go
    · rcases hx with k | k
      · have : X.env.scope.names.lookup x = some .free := hk
        rw [k] at this; cases this
      · have : X.env.scope.names.lookup x = some .free := hk
        rw [k] at this; cases this
def tAugS (to ti te : TE) (tget : V → V → Hp → VK → Prop) (tip : TIp) (tset : TSet) : TS := fun D σ H => to σ H fun o H1 => ti σ H1 fun i H2 => tget o i H2 fun x H3 => te σ H3 fun y H4 => tip x y H4 fun z H5 => tset o i z H5 fun H6 => D.nx σ H6
def PGet (X : Cx) (t : V → V → Hp → VK → Prop) : Prop :=
  ∀ (pins : List (Addr × Obj)) (s : Shared) (σ : St) (H : Hp) (o i : V) (ov iv : Value) (Q : VK), Inv X pins σ H s → RelV o ov → RelV i iv → t o i H Q →
    wpAny (model X.prog X.w) X.A (getItem ov iv) (EP X pins σ Q) X.xe s
theorem ps_augS {o i e : Expr} {to ti te : TE} {tget : V → V → Hp → VK → Prop} {tip : TIp} {tset : TSet} {op : Operator} {tpos : Pos} (ho : PE X o to) (hi : PE X i ti) (hg : PGet X tget) (he : PE X e te) (hp : PIp X op tip) (hs : PSet X tset)
    (ha : ∀ ov iv new, augStore i ov iv new = (do holding [new, ov, iv] (setItem ov iv new); release [new, ov, iv] []; pure .next) := by intros; rfl) : PS X (.AugAssign (.Subscript o i tpos) op e pos) (tAugS to ti te tget tip tset) := by
  intro pins s σ H D I h
  refine wpAny_AugAssign_SubscriptAny (thn (ho pins s σ H _ I h) fun ov s1 ⟨x1, H1, I1, r1, q1⟩ => ?_) ha
  refine thn (hi pins s1 σ H1 _ I1 q1) fun iv s2 ⟨x2, H2, I2, r2, q2⟩ => ?_
  refine thn (hg pins s2 σ H2 x1 x2 ov iv _ I2 r1 r2 q2) fun old s3 ⟨x3, H3, I3, r3, q3⟩ => ?_
  refine thn (he pins s3 σ H3 _ I3 q3) fun v s4 ⟨x4, H4, I4, r4, q4⟩ => ?_
  refine thn (hp pins s4 σ H4 x3 x4 old v _ I4 r3 r4 q4) fun new s5 ⟨x5, H5, I5, r5, q5⟩ => ?_
  exact thn (hs pins s5 σ H5 x1 x2 x5 ov iv new _ I5 r1 r2 r5 q5) fun _ s6 ⟨H6, I6, q6⟩ => ⟨σ, H6, I6, q6⟩
def ipI (f : Int → Int → Int) : TIp := fun x y H Q => ∃ i j, x = .int i ∧ y = .int j ∧ Q (.int (f i j)) H
theorem ip_add : PIp X .Add (ipI fun i j => i + j) := by
  intro pins s σ H x y v u Q I r1 r2 h
  obtain ⟨i, j, e1, e2, q⟩ := h
  subst e1; subst e2
  obtain ⟨t, rfl⟩ := r1
  obtain ⟨t', rfl⟩ := r2
  exact iadd_int ⟨.int _, H, I.tok _, ⟨_, rfl⟩, q⟩
end
section
variable {X : Cx} {pos : Pos}
def tWhile (c : TT) (tb : TS) : TS := fun D σ H => ∃ W : Nat → St → Hp → Prop, (∃ m, W m σ H) ∧ ∀ m σ H, W m σ H →
  c σ H fun b H1 => if b = true then ∃ N : St → Hp → Prop, (∀ σ' H', N σ' H' → ∃ m', m' < m ∧ W m' σ' H') ∧ tb { D with nx := N, ct := N, bk := D.nx } σ H1 else D.nx σ H1
theorem ps_while {c : Expr} {body : List Stmt} {tc : TT} {tb : TS} (hp : PassesOwn (model X.prog X.w) X.A X.env X.xe) (hc : PT X c tc) (hb : PSs X body tb) : PS X (.While c body [] pos) (tWhile tc tb) := by
  intro pins s σ H D I h
  obtain ⟨W, ⟨m0, w0⟩, turn⟩ := h
  refine wpAny_While (codeAny_whileLoop (fun n s' => ∃ σ' H', Inv X pins σ' H' s' ∧ W n σ' H') ?_ m0 ⟨σ, H, I, w0⟩)
  rintro n s1 ⟨σ1, H1, I1, w1⟩
  refine wpAny_passesOwn hp (thn (hc pins s1 σ1 H1 _ I1 (turn n σ1 H1 w1)) fun b s2 ⟨H2, I2, q2⟩ => ?_)
  cases b with
  | true =>
    obtain ⟨N, hN, q2⟩ := q2
    rw [if_pos rfl]
    refine wpAny_passesOwn hp (thn (hb pins s2 σ1 H2 _ I2 q2) fun f s3 q3 => ?_)
    cases f with
    | next =>
      obtain ⟨σ3, H3, I3, n3⟩ := q3
      obtain ⟨m', hm, w3⟩ := hN σ3 H3 n3
      exact ⟨m', hm, σ3, H3, I3, w3⟩
    | cont =>
      obtain ⟨σ3, H3, I3, n3⟩ := q3
      obtain ⟨m', hm, w3⟩ := hN σ3 H3 n3
      exact ⟨m', hm, σ3, H3, I3, w3⟩
    | brk => exact q3
    | ret v => exact q3
  | false =>
    rw [if_neg Bool.false_ne_true]
    exact wpAny_execs_nil ⟨σ1, H2, I2, q2⟩
end
structure It where
  go : Nat → Hp → Prop
  yld : Nat → Hp → V → Hp → Prop
  stop : Nat → Hp → Prop
def FpOk (X : Cx) (pins : List (Addr × Obj)) (H : Hp) (b : Addr) : Prop :=
  H b = none ∧ b ≠ X.env.locals ∧ b ∉ X.fs ∧ (b ∈ X.ex ∨ X.s₀.heap.objs.size ≤ b) ∧ (∀ x c, X.env.cells.lookup x = some c → c ≠ b) ∧ ∀ p ∈ X.pn ++ pins, p.1 ≠ b
theorem Inv.fpOk {X : Cx} {pins : List (Addr × Obj)} {σ : St} {H H' : Hp} {s : Shared} {b : Addr} (I : Inv X pins σ H s) (hb : s.heap.objs.size ≤ b) (hn : H' b = none) : FpOk X pins H' b := by
  refine ⟨hn, Nat.ne_of_gt (Nat.lt_of_lt_of_le I.lt hb), I.nofs hb, .inr (Nat.le_trans I.sz hb), fun x c e z => ?_, fun p hp z => ?_⟩
  · obtain ⟨v, q⟩ := I.cell x c e
    exact absurd (Nat.lt_of_lt_of_le q.lt (by rw [z]; exact hb)) (Nat.lt_irrefl _)
  · exact absurd (Nat.lt_of_lt_of_le (Heap.lt_size (I.pin p hp).1) (by rw [z]; exact hb)) (Nat.lt_irrefl _)
structure Turn (P : Program) (w : World) (K : PySem.W.Frag) (tg : Expr) (J : It) (fp : List Addr) (it : Addr) (tn : Nat → Heap → Prop) : Prop where
  mem : it ∈ fp
  obj : ∀ i h, tn i h → ∀ b ∈ fp, ∃ o, h.get? b = some o ∧ ∀ v, o.data ≠ .cell v
  keep : ∀ i h h', tn i h → (∀ b ∈ fp, ∀ o, h.get? b = some o → h'.get? b = some o) → tn i h'
  item : ∀ (X : Cx), X.prog = P → X.w = w → X.K = K → X.calm = true → ∀ (i : Nat) (pins : List (Addr × Obj)) (s : Shared) (σ : St) (H : Hp) (E : Value → Shared → Prop), Inv X pins σ H s → (∀ b ∈ fp, FpOk X pins H b) → tn i s.heap → J.go i H →
    wpAny (model P w) X.A (pyNext (.ref it)) (fun r s1 => ∃ u, r = some u ∧
      wpAny (model P w) X.A (letOwnedTupleGo tg (.ref it) u) (fun _ s2 => ∃ x H', Inv X pins σ H' s2 ∧ RelV x u ∧ J.yld i H x H' ∧ tn (i + 1) s2.heap ∧ ∀ b ∈ fp, H' b = none) E s1) E s
  done : ∀ (X : Cx), X.prog = P → X.w = w → X.K = K → X.calm = true → ∀ (i : Nat) (pins : List (Addr × Obj)) (s : Shared) (σ : St) (H : Hp) (E : Value → Shared → Prop), Inv X pins σ H s → (∀ b ∈ fp, FpOk X pins H b) → tn i s.heap → J.stop i H →
    wpAny (model P w) X.A (pyNext (.ref it)) (fun r s1 => r = none ∧ Inv X pins σ H s1) E s
  self : ∀ (A : Around) (i : Nat) (s : Shared) (Q : Value → Shared → Prop) (E : Value → Shared → Prop), tn i s.heap → Q (.ref it) s → wpAny (model P w) A (pyIter (.ref it)) Q E s
abbrev TI := St → Hp → (It → Hp → Prop) → Prop
def PIE (X : Cx) (pins : List (Addr × Obj)) (σ : St) (tg : Expr) (R : It → Hp → Prop) (itv : Value) (s2 : Shared) : Prop :=
  ∃ (it : Addr) (fp : List Addr) (tn : Nat → Heap → Prop) (J : It) (H' : Hp), itv = .ref it ∧ Inv X pins σ H' s2 ∧ Turn X.prog X.w X.K tg J fp it tn ∧ tn 0 s2.heap ∧ (∀ b ∈ fp, FpOk X pins H' b) ∧ R J H'
def PI (X : Cx) (tg iter : Expr) (wi : TI) : Prop :=
  ∀ (pins : List (Addr × Obj)) (s : Shared) (σ : St) (H : Hp) (R : It → Hp → Prop), Inv X pins σ H s → wi σ H R →
    wpAny (model X.prog X.w) X.A (eval iter X.env) (fun v s1 => wpAny (model X.prog X.w) X.A (pyIter v) (PIE X pins σ tg R) X.xe s1) X.xe s
theorem go_of {M : Model} {A : Around} {E : Value → Shared → Prop} {s : Shared} {tg : Expr} {it : Addr} {u : Value} {o : Obj} {n : String} {vs : Array Value} {Q : Unit → Shared → Prop} (ho : s.heap.get? it = some o) (hc : o.cls = .type n) (hd : o.data = .fields vs)
    (hn : ["enumerate", "zip", "dict_itemiterator", "dict_reverseitemiterator", "odict_iterator", "itertools.zip_longest", "itertools.pairwise"].contains n = false) (hQ : Q () s) : wpAny M A (letOwnedTupleGo tg (.ref it) u) Q E s := by
  unfold letOwnedTupleGo
  cases tg <;> first
    | exact wpAny_pure hQ
    | (cases u <;> first
        | exact wpAny_pure hQ
        | (refine wpAny_bind (wpAny_load ho ?_)
           rw [hc, hd]
           show wpAny M A (if (["enumerate", "zip", "dict_itemiterator", "dict_reverseitemiterator", "odict_iterator", "itertools.zip_longest", "itertools.pairwise"].contains n && vs[0]? == some (rawInt _)) = true then _ else _) Q E s
           rw [if_neg (by intro h; rw [hn, Bool.false_and] at h; cases h)]
           exact wpAny_pure hQ))
def Itl (K : PySem.W.Frag) (a : Addr) : It :=
  ⟨fun i H => ∃ xs x, SqL K H a xs ∧ xs[i]? = some x, fun i H x H' => H' = H ∧ ∀ xs, SqL K H a xs → xs[i]? = some x, fun i H => ∃ xs, SqL K H a xs ∧ xs.length ≤ i⟩
def Itt (K : PySem.W.Frag) (a : Addr) : It :=
  ⟨fun i H => ∃ xs x, SqT K H a xs ∧ xs[i]? = some x, fun i H x H' => H' = H ∧ ∀ xs, SqT K H a xs → xs[i]? = some x, fun i H => ∃ xs, SqT K H a xs ∧ xs.length ≤ i⟩
def Itr (lo : Int) (n : Nat) : It := ⟨fun i _ => i < n, fun i H x H' => H' = H ∧ x = .int (lo + i), fun i _ => n ≤ i⟩
theorem turn_list {P : Program} {w : World} {K : PySem.W.Frag} {tg : Expr} (a it : Addr) : Turn P w K tg (Itl K a) [it] it (fun i h => h.IsListIter it a i) where
  mem := by simp
  obj := fun i h st b hb => by
    have e : b = it := by simpa using hb
    subst e
    obtain ⟨o, e, c, d⟩ := st
    exact ⟨o, e, fun v z => by rw [d] at z; cases z⟩
  keep := fun i h h' st k => st.at fun o e => k it (by simp) o e
  item := by
    intro X hP hw hK hc i pins s σ H E I hf st hg
    subst hP hw hK
    obtain ⟨xs, x, hq, hx⟩ := hg
    obtain ⟨its, rv, p, hz⟩ := I.list hq
    obtain ⟨u, hu, ru⟩ := rv.get hx
    obtain ⟨f0, f1, f2, f3, f4, f5⟩ := hf it (by simp)
    refine wpAny_pyNext_list_item st p.isList (x := u) (by simpa using hu) fun h' st' sb => ?_
    have I1 : Inv X pins σ H { s with heap := h' } := I.turned (t' := s.toks) (fun b o hb e => (sb.2 b hb).trans e) f0 f1 f3 f4 f5
    obtain ⟨o, e, c, d⟩ := id st'
    exact ⟨u, rfl, go_of (s := { s with heap := h' }) e c d (by decide) ⟨x, H, I1, ru, ⟨rfl, fun ys hy => by rw [I.list_inj hy hq]; exact hx⟩, st', fun b hb => (hf b hb).1⟩⟩
  done := by
    intro X hP hw hK hc i pins s σ H E I hf st hg
    subst hP hw hK
    obtain ⟨xs, hq, hx⟩ := hg
    obtain ⟨its, rv, p, hz⟩ := I.list hq
    obtain ⟨f0, f1, f2, f3, f4, f5⟩ := hf it (by simp)
    have hl := rv.length
    exact wpAny_pyNext_list_end (I.ok.hd hc) st p.isList (by simp; omega) fun h' eb => ⟨rfl, I.turned (t' := s.toks) (fun b o hb e => eb b o hb e) f0 f1 f3 f4 f5⟩
  self := fun _ _ _ _ _ st h => wpAny_pyIter_listiter st h
theorem turn_tuple {P : Program} {w : World} {K : PySem.W.Frag} {tg : Expr} (a it : Addr) : Turn P w K tg (Itt K a) [it] it (fun i h => h.IsTupleIter it a i) where
  mem := by simp
  obj := fun i h st b hb => by
    have e : b = it := by simpa using hb
    subst e
    obtain ⟨o, e, c, d⟩ := st
    exact ⟨o, e, fun v z => by rw [d] at z; cases z⟩
  keep := fun i h h' st k => st.at fun o e => k it (by simp) o e
  item := by
    intro X hP hw hK hc i pins s σ H E I hf st hg
    subst hP hw hK
    obtain ⟨xs, x, hq, hx⟩ := hg
    obtain ⟨its, rv, p, hz⟩ := I.tuple hq
    obtain ⟨u, hu, ru⟩ := rv.get hx
    obtain ⟨f0, f1, f2, f3, f4, f5⟩ := hf it (by simp)
    refine wpAny_pyNext_tuple_item st (show s.heap.IsTuple a its.toArray from p) (x := u) (by simpa using hu) fun h' st' sb => ?_
    have I1 : Inv X pins σ H { s with heap := h' } := I.turned (t' := s.toks) (fun b o hb e => (sb.2 b hb).trans e) f0 f1 f3 f4 f5
    obtain ⟨o, e, c, d⟩ := id st'
    exact ⟨u, rfl, go_of (s := { s with heap := h' }) e c d (by decide) ⟨x, H, I1, ru, ⟨rfl, fun ys hy => by rw [I.tuple_inj hy hq]; exact hx⟩, st', fun b hb => (hf b hb).1⟩⟩
  done := by
    intro X hP hw hK hc i pins s σ H E I hf st hg
    subst hP hw hK
    obtain ⟨xs, hq, hx⟩ := hg
    obtain ⟨its, rv, p, hz⟩ := I.tuple hq
    obtain ⟨f0, f1, f2, f3, f4, f5⟩ := hf it (by simp)
    have hl := rv.length
    exact wpAny_pyNext_tuple_end (I.ok.hd hc) st (show s.heap.IsTuple a its.toArray from p) (by simp; omega) fun h' eb => ⟨rfl, I.turned (t' := s.toks) (fun b o hb e => eb b o hb e) f0 f1 f3 f4 f5⟩
  self := fun _ _ _ _ _ st h => wpAny_pyIter_tupleiter st h
theorem turn_range {P : Program} {w : World} {K : PySem.W.Frag} {tg : Expr} (it : Addr) (lo : Int) (n : Nat) : Turn P w K tg (Itr lo n) [it] it (fun i h => IsRangeIter h it (lo + (i : Nat) * 1) ((n : Int) - (i : Nat)) 1) where
  mem := by simp
  obj := fun i h st b hb => by
    have e : b = it := by simpa using hb
    subst e
    exact ⟨_, st, fun v z => by
      have z' : Data.fields _ = Data.cell v := z
      cases z'⟩
  keep := fun i h h' st k => k it (by simp) _ st
  item := by
    intro X hP hw hK hc i pins s σ H E I hf st hg
    subst hP hw hK
    obtain ⟨f0, f1, f2, f3, f4, f5⟩ := hf it (by simp)
    have W := Walks.range (prog := X.prog) (w := X.w) (I.ok.hd hc) it lo 1 n
    refine W.item i s _ _ hg st fun v h' tk hv st' kk => ?_
    obtain ⟨t, rfl⟩ := hv
    have I1 : Inv X pins σ H { s with heap := h', toks := tk } := I.turned (fun b o hb e => kk b o (by simpa using hb) e) f0 f1 f3 f4 f5
    refine ⟨_, rfl, go_of (s := { s with heap := h', toks := tk }) (n := "range_iterator") st' rfl rfl (by decide) ⟨.int (lo + i), H, I1, ⟨t, ?_⟩, ⟨rfl, rfl⟩, st', fun b hb => (hf b hb).1⟩⟩
    rw [Int.mul_one]
  done := by
    intro X hP hw hK hc i pins s σ H E I hf st hg
    subst hP hw hK
    obtain ⟨f0, f1, f2, f3, f4, f5⟩ := hf it (by simp)
    exact wpAny_pyNext_range_end (I.ok.hd hc) st (by have : n ≤ i := hg; omega) fun h' eb => ⟨rfl, I.turned (t' := s.toks) (fun b o hb e => eb b o hb e) f0 f1 f3 f4 f5⟩
  self := fun _ _ _ _ _ st h => wpAny_pyIter_rangeiter st h
end L2
namespace L2
open PySem PySem.Spec PyProof.Rows
section
variable {X : Cx} {tg : Expr}
def iList (K : PySem.W.Frag) (tl : TE) : TI := fun σ H R => tl σ H fun x H1 => ∃ a, x = .ref a ∧ (∃ xs, SqL K H1 a xs) ∧ R (Itl K a) H1
def iTup (K : PySem.W.Frag) (tl : TE) : TI := fun σ H R => tl σ H fun x H1 => ∃ a, x = .ref a ∧ (∃ xs, SqT K H1 a xs) ∧ R (Itt K a) H1
theorem pi_list {l : Expr} {tl : TE} (hl : PE X l tl) : PI X tg l (iList X.K tl) := by
  intro pins s σ H R I h
  refine thn (hl pins s σ H _ I h) fun v s1 ⟨x, H1, I1, r1, q1⟩ => ?_
  obtain ⟨a, e, ⟨xs, hq⟩, q⟩ := q1
  subst e
  cases r1
  obtain ⟨its, rv, p, hz⟩ := I1.list hq
  refine wpAny_pyIter_list p.isList ?_
  refine ⟨s1.heap.objs.size, [s1.heap.objs.size], _, _, H1, rfl, I1.kept (t' := s1.toks) fun b o e => Heap.get?_push_of_some _ e, turn_list a _, ⟨_, Heap.get?_push_size _ rfl, rfl, rfl⟩, fun b hb => ?_, q⟩
  have e : b = s1.heap.objs.size := by simpa using hb
  subst e
  exact I1.fpOk (Nat.le_refl _) (I1.hok.fresh (Nat.le_refl _))
theorem pi_tup {l : Expr} {tl : TE} (hl : PE X l tl) : PI X tg l (iTup X.K tl) := by
  intro pins s σ H R I h
  refine thn (hl pins s σ H _ I h) fun v s1 ⟨x, H1, I1, r1, q1⟩ => ?_
  obtain ⟨a, e, ⟨xs, hq⟩, q⟩ := q1
  subst e
  cases r1
  obtain ⟨its, rv, p, hz⟩ := I1.tuple hq
  refine wpAny_pyIter_tuple (show s1.heap.IsTuple a its.toArray from p) ?_
  refine ⟨s1.heap.objs.size, [s1.heap.objs.size], _, _, H1, rfl, I1.kept (t' := s1.toks) fun b o e => Heap.get?_push_of_some _ e, turn_tuple a _, ⟨_, Heap.get?_push_size _ rfl, rfl, rfl⟩, fun b hb => ?_, q⟩
  have e : b = s1.heap.objs.size := by simpa using hb
  subst e
  exact I1.fpOk (Nat.le_refl _) (I1.hok.fresh (Nat.le_refl _))
theorem range_it {pins : List (Addr × Obj)} {σ : St} {H : Hp} {s : Shared} {R : It → Hp → Prop} {E : Value → Shared → Prop} {lo hi : Int} {t u v : Tok} {tk : Nat} (I : Inv X pins σ H s) (h1 : -(2 ^ 62) ≤ lo) (h2 : lo < 2 ^ 62) (h3 : -(2 ^ 62) ≤ hi) (h4 : hi < 2 ^ 62)
    (q : R (Itr lo (hi - lo).toNat) H) : wpAny (model X.prog X.w) X.A (pyIter (.ref s.heap.objs.size)) (PIE X pins σ tg R) E { s with heap := s.heap.push { cls := .type "range", data := .fields #[.int lo t, .int hi u, .int 1 v] }, toks := tk } := by
  refine wpAny_pyIter_range (IsRange.new ..) (small_one h1 h2 h3 h4) ?_
  have I1 : Inv X pins σ H { s with heap := s.heap.push { cls := .type "range", data := .fields #[.int lo t, .int hi u, .int 1 v] }, toks := tk } := I.kept fun b o e => Heap.get?_push_of_some _ e
  refine ⟨(s.heap.push { cls := .type "range", data := .fields #[.int lo t, .int hi u, .int 1 v] }).objs.size, [(s.heap.push { cls := .type "range", data := .fields #[.int lo t, .int hi u, .int 1 v] }).objs.size], _, _, H, rfl,
    I1.kept (t' := tk) fun b o e => Heap.get?_push_of_some _ e, turn_range _ lo (hi - lo).toNat, ?_, fun b hb => ?_, q⟩
  · have e1 : lo + ((0 : Nat) : Int) * 1 = lo := by simp
    have e2 : (((hi - lo).toNat : Nat) : Int) - ((0 : Nat) : Int) = Builtin.Range.rangeSize lo hi 1 := by rw [rangeSize_one]; split <;> omega
    show IsRangeIter _ _ (lo + ((0 : Nat) : Int) * 1) ((((hi - lo).toNat : Nat) : Int) - ((0 : Nat) : Int)) 1
    rw [e1, e2]
    exact Heap.get?_push_size _ rfl
  · have e : b = (s.heap.push { cls := .type "range", data := .fields #[.int lo t, .int hi u, .int 1 v] }).objs.size := by simpa using hb
    subst e
    exact I1.fpOk (Nat.le_refl _) (I1.hok.fresh (Nat.le_refl _))
def iRng1 (ta : TA) : TI := fun σ H R => ta σ H fun vs H1 => ∃ j : Int, vs = [.int j] ∧ -(2 ^ 62) ≤ j ∧ j < 2 ^ 62 ∧ R (Itr 0 j.toNat) H1
theorem pi_range1 {a : Expr} {ta : TA} {p pos : Pos} (hg : Gl X "range") (hm : X.mg "range" = none) (ha : PA X [a] ta) (hs : starEach [a] X.env = [(false, eval a X.env)] := by rfl) : PI X tg (.Call (.Name "range" p) [a] [] pos) (iRng1 ta) := by
  intro pins s σ H R I h
  refine Call_ (ld_blt I hg hm boot_range (PyProof.Rows.callWith_type1 (thn (ha pos pins s σ H _ I h) fun us s1 ⟨vs, H1, I1, r1, q1⟩ => ?_) hs rfl))
  obtain ⟨j, e, q1, q2, q⟩ := q1
  subst e
  cases r1 with
  | cons r rr =>
    cases rr
    obtain ⟨t, rfl⟩ := r
    exact call_range_1 (range_it I1 (by omega) (by omega) q1 q2 (by simpa using q))
def tFor (wi : TI) (g : TG) (tb : TS) : TS := fun D σ H => wi σ H fun J H1 => ∃ W : Nat → Nat → St → Hp → Prop, (∃ m, W 0 m σ H1) ∧ ∀ i m σ H, W i m σ H →
  (J.stop i H ∧ D.nx σ H) ∨ (J.go i H ∧ ∃ N : St → Hp → Prop, (∀ σ' H', N σ' H' → ∃ m', m' < m ∧ W (i + 1) m' σ' H') ∧ ∀ x H', J.yld i H x H' → g x σ H' fun σ2 H2 => tb { D with nx := N, ct := N, bk := D.nx } σ2 H2)
def pinsAt (fp : List Addr) (h : Heap) : List (Addr × Obj) := fp.filterMap fun b => (h.get? b).map fun o => (b, o)
theorem mem_pinsAt {fp : List Addr} {h : Heap} {b : Addr} {o : Obj} (hb : b ∈ fp) (e : h.get? b = some o) : (b, o) ∈ pinsAt fp h := List.mem_filterMap.mpr ⟨b, hb, by rw [e]; rfl⟩
theorem of_pinsAt {fp : List Addr} {h : Heap} {p : Addr × Obj} (hp : p ∈ pinsAt fp h) : p.1 ∈ fp ∧ h.get? p.1 = some p.2 := by
  obtain ⟨b, hb, e⟩ := List.mem_filterMap.mp hp
  cases q : h.get? b with
  | none => rw [q] at e; cases e
  | some o =>
    rw [q] at e
    have e' : (b, o) = p := Option.some.inj e
    subst e'
    exact ⟨hb, q⟩
theorem Inv.pinned {pins : List (Addr × Obj)} {σ : St} {H : Hp} {s : Shared} {fp : List Addr} (I : Inv X pins σ H s) (hf : ∀ b ∈ fp, FpOk X pins H b) (ho : ∀ b ∈ fp, ∃ o, s.heap.get? b = some o ∧ ∀ v, o.data ≠ .cell v) : Inv X (pins ++ pinsAt fp s.heap) σ H s :=
  I.pins_of fun p hp => (List.mem_append.mp hp).elim (fun z => I.pin p (List.mem_append_right _ z)) fun z => by
    obtain ⟨hb, e⟩ := of_pinsAt z
    obtain ⟨f0, f1, f2, _⟩ := hf p.1 hb
    obtain ⟨o, e', d⟩ := ho p.1 hb
    rw [e] at e'; cases e'
    exact ⟨e, f0, f1, f2, d⟩
theorem Inv.unpinned {pins pl : List (Addr × Obj)} {σ : St} {H : Hp} {s : Shared} (I : Inv X (pins ++ pl) σ H s) : Inv X pins σ H s := I.pins_of fun p hp => I.pin p (List.mem_append_right _ (List.mem_append_left _ hp))
theorem ps_for {iter : Expr} {body : List Stmt} {wi : TI} {g : TG} {tb : TS} {pos : Pos} (hp : PassesOwn (model X.prog X.w) X.A X.env X.xe) (hc : X.calm = true) (hi : PI X tg iter wi) (hg : PG X tg g) (hb : PSs X body tb)
    (hs : ∀ x, foldedSetIterable iter X.env x = pure x := by intro _; rfl) : PS X (.For tg iter body [] pos) (tFor wi g tb) := by
  intro pins s σ H D I h
  refine wpAny_For (thn (hi pins s σ H _ I h) fun v s1 h1 => thn h1 fun itv s2 h2 => ?_) hs
  obtain ⟨it, fp, tn, J, H2, e, I2, T, st2, f2, W, ⟨m0, w0⟩, turn⟩ := h2
  subst e
  have stat : ∀ {H' : Hp}, (∀ b ∈ fp, H' b = none) → ∀ b ∈ fp, FpOk X pins H' b := fun hn b hb => ⟨hn b hb, (f2 b hb).2⟩
  refine codeAny_forLoop_any (fun n s' => ∃ i σ' H', Inv X pins σ' H' s' ∧ tn i s'.heap ∧ (∀ b ∈ fp, H' b = none) ∧ W i n σ' H') ?_ m0 ⟨0, σ, H2, I2, st2, fun b hb => (f2 b hb).1, w0⟩
  rintro n s3 ⟨i, σ3, H3, I3, st3, fr3, w3⟩
  rcases turn i n σ3 H3 w3 with ⟨stop, qn⟩ | ⟨go, N, hN, step⟩
  · refine wpAny_passesOwn hp (thn (T.done X rfl rfl rfl hc i pins s3 σ3 H3 X.xe I3 (stat fr3) st3 stop) fun r s4 ⟨hr, I4⟩ => ?_)
    subst hr
    exact wpAny_execs_nil ⟨σ3, H3, I4, qn⟩
  · refine wpAny_passesOwn hp (thn (T.item X rfl rfl rfl hc i pins s3 σ3 H3 X.xe I3 (stat fr3) st3 go) fun r s4 ⟨u, hr, h4⟩ => ?_)
    subst hr
    refine wpAny_passesOwn hp (thn h4 fun _ s5 ⟨x, H5, I5, r5, y5, st5, fr5⟩ => ?_)
    have I5' := I5.pinned (stat fr5) (T.obj _ _ st5)
    refine wpAny_passesOwn hp (thn (hg _ s5 σ3 H5 x u _ I5' r5 (step x H5 y5)) fun _ s6 ⟨σ6, H6, I6, q6⟩ => ?_)
    refine wpAny_passesOwn hp (thn (hb _ s6 σ6 H6 _ I6 q6) fun f s7 q7 => ?_)
    have again : ∀ {σ7 : St} {H7 : Hp}, Inv X (pins ++ pinsAt fp s5.heap) σ7 H7 s7 → N σ7 H7 → ∃ m, m < n ∧ ∃ i σ' H', Inv X pins σ' H' s7 ∧ tn i s7.heap ∧ (∀ b ∈ fp, H' b = none) ∧ W i m σ' H' := fun {σ7 H7} I7 n7 => by
      obtain ⟨m', hm, w7⟩ := hN σ7 H7 n7
      refine ⟨m', hm, i + 1, σ7, H7, I7.unpinned, T.keep _ _ _ st5 fun b hb o e => (I7.pin (b, o) (List.mem_append_right _ (List.mem_append_right _ (mem_pinsAt hb e)))).1, fun b hb => ?_, w7⟩
      obtain ⟨o, e, d⟩ := T.obj _ _ st5 b hb
      exact (I7.pin (b, o) (List.mem_append_right _ (List.mem_append_right _ (mem_pinsAt hb e)))).2.1
    cases f with
    | next => obtain ⟨σ7, H7, I7, n7⟩ := q7; exact again I7 n7
    | cont => obtain ⟨σ7, H7, I7, n7⟩ := q7; exact again I7 n7
    | brk => obtain ⟨σ7, H7, I7, q7⟩ := q7; exact ⟨σ7, H7, I7.unpinned, q7⟩
    | ret v => obtain ⟨x7, σ7, H7, I7, r7, q7⟩ := q7; exact ⟨x7, σ7, H7, I7.unpinned, r7, q7⟩
end
theorem for_list {K : PySem.W.Frag} {a : Addr} {xs : List V} {g : TG} {tb : TS} {D : Ends} {σ : St} {H : Hp} (Pv : Nat → St → Hp → Prop) (h0 : Pv 0 σ H) (hl : ∀ i σ H, i ≤ xs.length → Pv i σ H → SqL K H a xs)
    (hs : ∀ i x σ H, xs[i]? = some x → Pv i σ H → g x σ H fun σ2 H2 => tb { D with nx := Pv (i + 1), ct := Pv (i + 1), bk := D.nx } σ2 H2) (hd : ∀ σ H, Pv xs.length σ H → D.nx σ H) :
    ∃ W : Nat → Nat → St → Hp → Prop, (∃ m, W 0 m σ H) ∧ ∀ i m σ H, W i m σ H →
      ((Itl K a).stop i H ∧ D.nx σ H) ∨ ((Itl K a).go i H ∧ ∃ N : St → Hp → Prop, (∀ σ' H', N σ' H' → ∃ m', m' < m ∧ W (i + 1) m' σ' H') ∧ ∀ x H', (Itl K a).yld i H x H' → g x σ H' fun σ2 H2 => tb { D with nx := N, ct := N, bk := D.nx } σ2 H2) := by
  refine ⟨fun i m σ H => m = xs.length - i ∧ i ≤ xs.length ∧ Pv i σ H, ⟨xs.length, by simp, Nat.zero_le _, h0⟩, ?_⟩
  rintro i m σ H ⟨rfl, hi, p⟩
  have q := hl i σ H hi p
  by_cases hlt : i < xs.length
  · refine .inr ⟨⟨xs, xs[i], q, by simp [hlt]⟩, Pv (i + 1), fun σ' H' p' => ⟨xs.length - (i + 1), by omega, rfl, hlt, p'⟩, fun x H' y => ?_⟩
    obtain ⟨e, y⟩ := y
    subst e
    exact hs i x σ _ (y xs q) p
  · have e : i = xs.length := by omega
    subst e
    exact .inl ⟨⟨xs, q, Nat.le_refl _⟩, hd σ H p⟩
theorem for_range {lo : Int} {n : Nat} {g : TG} {tb : TS} {D : Ends} {σ : St} {H : Hp} (Pv : Nat → St → Hp → Prop) (h0 : Pv 0 σ H)
    (hs : ∀ i σ H, i < n → Pv i σ H → g (.int (lo + i)) σ H fun σ2 H2 => tb { D with nx := Pv (i + 1), ct := Pv (i + 1), bk := D.nx } σ2 H2) (hd : ∀ σ H, Pv n σ H → D.nx σ H) :
    ∃ W : Nat → Nat → St → Hp → Prop, (∃ m, W 0 m σ H) ∧ ∀ i m σ H, W i m σ H →
      ((Itr lo n).stop i H ∧ D.nx σ H) ∨ ((Itr lo n).go i H ∧ ∃ N : St → Hp → Prop, (∀ σ' H', N σ' H' → ∃ m', m' < m ∧ W (i + 1) m' σ' H') ∧ ∀ x H', (Itr lo n).yld i H x H' → g x σ H' fun σ2 H2 => tb { D with nx := N, ct := N, bk := D.nx } σ2 H2) := by
  refine ⟨fun i m σ H => m = n - i ∧ i ≤ n ∧ Pv i σ H, ⟨n, by simp, Nat.zero_le _, h0⟩, ?_⟩
  rintro i m σ H ⟨rfl, hi, p⟩
  by_cases hlt : i < n
  · refine .inr ⟨hlt, Pv (i + 1), fun σ' H' p' => ⟨n - (i + 1), by omega, rfl, hlt, p'⟩, fun x H' y => ?_⟩
    obtain ⟨e, y⟩ := y
    subst e y
    exact hs i σ _ hlt p
  · have e : i = n := by omega
    subst e
    exact .inl ⟨Nat.le_refl _, hd σ H p⟩
end L2
namespace L2
open PySem PySem.Spec PyProof.Rows
abbrev R2 := V → V → Hp → VK → Prop
def OpR (X : Cx) (f : Value → Value → Sem Value) (r : R2) : Prop :=
  ∀ (pins : List (Addr × Obj)) (s : Shared) (σ : St) (H : Hp) (x y : V) (v u : Value) (Q : VK), Inv X pins σ H s → RelV x v → RelV y u → r x y H Q →
    wpAny (model X.prog X.w) X.A (f v u) (EP X pins σ Q) X.xe s
def UnR (X : Cx) (f : Value → Sem Value) (r : V → Hp → VK → Prop) : Prop :=
  ∀ (pins : List (Addr × Obj)) (s : Shared) (σ : St) (H : Hp) (x : V) (v : Value) (Q : VK), Inv X pins σ H s → RelV x v → r x H Q →
    wpAny (model X.prog X.w) X.A (f v) (EP X pins σ Q) X.xe s
def CallR (X : Cx) (f : Value) (r : List V → Hp → VK → Prop) : Prop :=
  ∀ (pins : List (Addr × Obj)) (s : Shared) (σ : St) (H : Hp) (xs : List V) (us : List Value) (Q : VK), Inv X pins σ H s → Vals xs us → r xs H Q →
    wpAny (model X.prog X.w) X.A (call f us) (EP X pins σ Q) X.xe s
def TruR (X : Cx) (r : V → Hp → (Bool → Hp → Prop) → Prop) : Prop :=
  ∀ (pins : List (Addr × Obj)) (s : Shared) (σ : St) (H : Hp) (x : V) (v : Value) (Q : Bool → Hp → Prop), Inv X pins σ H s → RelV x v → r x H Q →
    wpAny (model X.prog X.w) X.A (truthy v) (TP X pins σ Q) X.xe s
def tOp (r : R2) (ta tb : TE) : TE := fun σ H Q => ta σ H fun x H1 => tb σ H1 fun y H2 => r x y H2 Q
def tUn (r : V → Hp → VK → Prop) (ta : TE) : TE := fun σ H Q => ta σ H fun x H1 => r x H1 Q
def rI (C : Int → Int → Prop) (g : Int → Int → V) : R2 := fun x y H Q => ∃ i j, x = .int i ∧ y = .int j ∧ C i j ∧ Q (g i j) H
def rI0 (g : Int → Int → V) : R2 := fun x y H Q => ∃ i j, x = .int i ∧ y = .int j ∧ Q (g i j) H
def rU (g : Int → V) : V → Hp → VK → Prop := fun x H Q => ∃ i, x = .int i ∧ Q (g i) H
section
variable {X : Cx} {a b c : Expr} {ta tb tc : TE} {pos : Pos}
theorem binT (ha : PE X a ta) (hb : PE X b tb) {pins : List (Addr × Obj)} {s : Shared} {σ : St} {H : Hp} {R : V → V → Hp → Prop} (I : Inv X pins σ H s)
    (h : ta σ H fun x H1 => tb σ H1 fun y H2 => R x y H2) {Q : Value → Shared → Prop} {f : Value → Value → Sem Value}
    (hf : ∀ v u s2 x y H2, Inv X pins σ H2 s2 → RelV x v → RelV y u → R x y H2 → wpAny (model X.prog X.w) X.A (f v u) Q X.xe s2) :
    wpAny (model X.prog X.w) X.A (eval a X.env) (fun v s₁ => wpAny (model X.prog X.w) X.A (eval b X.env) (fun u s₂ => wpAny (model X.prog X.w) X.A (f v u) Q X.xe s₂) X.xe s₁) X.xe s := by
  refine thn (ha pins s σ H _ I h) fun v s1 ⟨x, H1, I1, r1, q1⟩ => ?_
  refine thn (hb pins s1 σ H1 _ I1 q1) fun u s2 ⟨y, H2, I2, r2, q2⟩ => ?_
  exact hf v u s2 x y H2 I2 r1 r2 q2
theorem pe_op {op : Operator} {r : R2} (ho : OpR X (binaryOp op) r) (ha : PE X a ta) (hb : PE X b tb) : PE X (.BinOp a op b pos) (tOp r ta tb) := by
  intro pins s σ H Q I h
  exact wpAny_BinOp (binT ha hb I h fun v u s2 x y H2 I2 rx ry q => ho pins s2 σ H2 x y v u Q I2 rx ry q)
theorem pe_un {op : UnaryOp} {r : V → Hp → VK → Prop} (ho : UnR X (unaryOp op) r) (ha : PE X a ta) : PE X (.UnaryOp op a pos) (tUn r ta) := by
  intro pins s σ H Q I h
  exact UnaryOp_ (thn (ha pins s σ H _ I h) fun v s1 ⟨x, H1, I1, r1, q1⟩ => ho pins s1 σ H1 x v Q I1 r1 q1)
theorem opI {f : Value → Value → Sem Value} {C : Int → Int → Prop} {g : Int → Int → Int}
    (rule : ∀ (i j : Int) (t u : Tok) (s : Shared) (Q : Value → Shared → Prop) (E : Value → Shared → Prop), C i j → Q (.int (g i j) s.toks) { s with toks := s.toks + 1 } → wpAny (model X.prog X.w) X.A (f (.int i t) (.int j u)) Q E s) :
    OpR X f (rI C fun i j => .int (g i j)) := by
  intro pins s σ H x y v u Q I rx ry h
  obtain ⟨i, j, rfl, rfl, hc, q⟩ := h
  obtain ⟨t, rfl⟩ := rx
  obtain ⟨t', rfl⟩ := ry
  exact rule i j t t' s _ _ hc ⟨.int (g i j), H, I.tok _, ⟨_, rfl⟩, q⟩
theorem opI0 {f : Value → Value → Sem Value} {g : Int → Int → Int}
    (rule : ∀ (i j : Int) (t u : Tok) (s : Shared) (Q : Value → Shared → Prop) (E : Value → Shared → Prop), Q (.int (g i j) s.toks) { s with toks := s.toks + 1 } → wpAny (model X.prog X.w) X.A (f (.int i t) (.int j u)) Q E s) :
    OpR X f (rI0 fun i j => .int (g i j)) := by
  intro pins s σ H x y v u Q I rx ry h
  obtain ⟨i, j, rfl, rfl, q⟩ := h
  obtain ⟨t, rfl⟩ := rx
  obtain ⟨t', rfl⟩ := ry
  exact rule i j t t' s _ _ ⟨.int (g i j), H, I.tok _, ⟨_, rfl⟩, q⟩
theorem opB0 {f : Value → Value → Sem Value} {g : Int → Int → Bool}
    (rule : ∀ (i j : Int) (t u : Tok) (s : Shared) (Q : Value → Shared → Prop) (E : Value → Shared → Prop), Q (.bool (g i j)) s → wpAny (model X.prog X.w) X.A (f (.int i t) (.int j u)) Q E s) :
    OpR X f (rI0 fun i j => .bl (g i j)) := by
  intro pins s σ H x y v u Q I rx ry h
  obtain ⟨i, j, rfl, rfl, q⟩ := h
  obtain ⟨t, rfl⟩ := rx
  obtain ⟨t', rfl⟩ := ry
  exact rule i j t t' s _ _ ⟨.bl (g i j), H, I, rfl, q⟩
def CDiv (i j : Int) : Prop := 0 < j ∧ j < 1073741824
def CMul (i j : Int) : Prop := (-(2 ^ 64) < i ∧ i < 2 ^ 64) ∨ (-(2 ^ 64) < j ∧ j < 2 ^ 64)
theorem CMul.ok {i j : Int} (h : CMul i j) : IntMulOk i j := by
  rcases h with ⟨h1, h2⟩ | ⟨h1, h2⟩
  · exact .of_left (intBits_le_64 h1 h2)
  · exact .of_right (intBits_le_64 h1 h2)
theorem op_add : OpR X (binaryOp .Add) (rI0 fun i j => .int (i + j)) := opI0 fun _ _ _ _ _ _ _ q => add_int q
theorem op_sub : OpR X (binaryOp .Sub) (rI0 fun i j => .int (i - j)) := opI0 fun _ _ _ _ _ _ _ q => sub_int q
theorem op_mul : OpR X (binaryOp .Mult) (rI CMul fun i j => .int (i * j)) := opI fun _ _ _ _ _ _ _ hc q => mul_int q hc.ok
theorem op_fdiv : OpR X (binaryOp .FloorDiv) (rI CDiv fun i j => .int (i / j)) := opI fun i j _ _ _ _ _ hc q => by
  have h1 : (0 : Int) < j := hc.1
  have h2 : j < 1073741824 := hc.2
  exact floordiv_int (by omega) (by rw [Int.fdiv_eq_ediv_of_nonneg i (by omega)]; exact q) (.inl (PyProof.noPylong_small (by omega)))
theorem op_mod : OpR X (binaryOp .Mod) (rI (fun _ j => 0 < j) fun i j => .int (i % j)) := opI fun i j _ _ _ _ _ hc q => by
  have h1 : (0 : Int) < j := hc
  exact mod_int' (by omega) (by rw [Int.fmod_eq_emod_of_nonneg i (by omega)]; exact q)
theorem unI {f : Value → Sem Value} {g : Int → Int}
    (rule : ∀ (i : Int) (t : Tok) (s : Shared) (Q : Value → Shared → Prop) (E : Value → Shared → Prop), Q (.int (g i) s.toks) { s with toks := s.toks + 1 } → wpAny (model X.prog X.w) X.A (f (.int i t)) Q E s) :
    UnR X f (rU fun i => .int (g i)) := by
  intro pins s σ H x v Q I rx h
  obtain ⟨i, rfl, q⟩ := h
  obtain ⟨t, rfl⟩ := rx
  exact rule i t s _ _ ⟨.int (g i), H, I.tok _, ⟨_, rfl⟩, q⟩
theorem un_neg : UnR X (unaryOp .USub) (rU fun i => .int (-i)) := unI fun _ _ _ _ _ q => neg_int q
end
def scal : V → V → Bool
  | .non, .non => true | .non, .int _ => true | .int _, .non => true | .non, .bl _ => true | .bl _, .non => true | .non, .str _ => true | .str _, .non => true
  | .int _, .int _ => true | .bl _, .bl _ => true | .str _, .str _ => true | .byt _, .byt _ => true
  | .int _, .str _ => true | .str _, .int _ => true | .bl _, .str _ => true | .str _, .bl _ => true
  | _, _ => false
def rEq : R2 := fun x y H Q => scal x y = true ∧ Q (.bl (decide (x = y))) H
def rNe : R2 := fun x y H Q => scal x y = true ∧ Q (.bl (!decide (x = y))) H
theorem dec_int {i j : Int} : decide (V.int i = V.int j) = (i == j) := by
  rw [Bool.eq_iff_iff]
  simp
theorem dec_bl {i j : Bool} : decide (V.bl i = V.bl j) = (i == j) := by
  rw [Bool.eq_iff_iff]
  simp
theorem dec_str {i j : Str} : decide (V.str i = V.str j) = (i == j) := by
  rw [Bool.eq_iff_iff]
  simp
theorem dec_byt {i j : Array UInt8} : decide (V.byt i = V.byt j) = (i.toList == j.toList) := by
  rw [Bool.eq_iff_iff]
  cases i
  cases j
  simp
section
variable {X : Cx} {a b c : Expr} {ta tb tc : TE} {pos : Pos}
theorem fin_bl {pins : List (Addr × Obj)} {σ : St} {H : Hp} {s : Shared} {Q : VK} {k k' : Bool} (I : Inv X pins σ H s) (q : Q (.bl k) H) (e : k = k') : EP X pins σ Q (.bool k') s := by
  subst e
  exact ⟨.bl k, H, I, rfl, q⟩
theorem op_eq : OpR X (compareOp .Eq) rEq := by
  intro pins s σ H x y v u Q I rx ry h
  obtain ⟨hs, q⟩ := h
  cases x with
  | non =>
    cases rx
    cases y with
    | non => cases ry; exact PySem.EqNone.eq_none_none (fin_bl I q (by simp))
    | bl j => cases ry; exact PySem.EqNone.eq_none_bool (fin_bl I q (by simp))
    | int j => obtain ⟨t', rfl⟩ := ry; exact PySem.EqNone.eq_none_int (fin_bl I q (by simp))
    | str j => obtain ⟨t', rfl⟩ := ry; exact PySem.EqNone.eq_none_str (fin_bl I q (by simp))
    | _ => exact absurd (show false = true from hs) Bool.false_ne_true
  | bl i =>
    cases rx
    cases y with
    | non => cases ry; exact PySem.EqNone.eq_bool_none (fin_bl I q (by simp))
    | bl j => cases ry; exact eq_bool (fin_bl I q dec_bl)
    | str j => obtain ⟨t', rfl⟩ := ry; exact PySem.EqMixed.eq_bool_str (fin_bl I q (by simp))
    | _ => exact absurd (show false = true from hs) Bool.false_ne_true
  | int i =>
    obtain ⟨t, rfl⟩ := rx
    cases y with
    | non => cases ry; exact PySem.EqNone.eq_int_none (fin_bl I q (by simp))
    | int j => obtain ⟨t', rfl⟩ := ry; exact eq_int (fin_bl I q dec_int)
    | str j => obtain ⟨t', rfl⟩ := ry; exact PySem.EqMixed.eq_int_str (fin_bl I q (by simp))
    | _ => exact absurd (show false = true from hs) Bool.false_ne_true
  | str i =>
    obtain ⟨t, rfl⟩ := rx
    cases y with
    | non => cases ry; exact PySem.EqNone.eq_str_none (fin_bl I q (by simp))
    | bl j => cases ry; exact PySem.EqMixed.eq_str_bool (fin_bl I q (by simp))
    | int j => obtain ⟨t', rfl⟩ := ry; exact PySem.EqMixed.eq_str_int (fin_bl I q (by simp))
    | str j => obtain ⟨t', rfl⟩ := ry; exact eq_str (fin_bl I q dec_str)
    | _ => exact absurd (show false = true from hs) Bool.false_ne_true
  | byt i =>
    obtain ⟨t, rfl⟩ := rx
    cases y with
    | byt j => obtain ⟨t', rfl⟩ := ry; exact PySem.W.eq_bytes (fin_bl I q dec_byt)
    | _ => exact absurd (show false = true from hs) Bool.false_ne_true
  | _ => cases y <;> exact absurd (show false = true from hs) Bool.false_ne_true
theorem op_ne : OpR X (compareOp .NotEq) rNe := by
  intro pins s σ H x y v u Q I rx ry h
  obtain ⟨hs, q⟩ := h
  cases x with
  | non =>
    cases rx
    cases y with
    | non => cases ry; exact PySem.EqNone.ne_none_none (fin_bl I q (by simp))
    | bl j => cases ry; exact PySem.EqNone.ne_none_bool (fin_bl I q (by simp))
    | int j => obtain ⟨t', rfl⟩ := ry; exact PySem.EqNone.ne_none_int (fin_bl I q (by simp))
    | str j => obtain ⟨t', rfl⟩ := ry; exact PySem.EqNone.ne_none_str (fin_bl I q (by simp))
    | _ => exact absurd (show false = true from hs) Bool.false_ne_true
  | bl i =>
    cases rx
    cases y with
    | non => cases ry; exact PySem.EqNone.ne_bool_none (fin_bl I q (by simp))
    | bl j => cases ry; exact ne_bool (fin_bl I q (congrArg not dec_bl))
    | str j => obtain ⟨t', rfl⟩ := ry; exact PySem.EqMixed.ne_bool_str (fin_bl I q (by simp))
    | _ => exact absurd (show false = true from hs) Bool.false_ne_true
  | int i =>
    obtain ⟨t, rfl⟩ := rx
    cases y with
    | non => cases ry; exact PySem.EqNone.ne_int_none (fin_bl I q (by simp))
    | int j => obtain ⟨t', rfl⟩ := ry; exact ne_int (fin_bl I q (congrArg not dec_int))
    | str j => obtain ⟨t', rfl⟩ := ry; exact PySem.EqMixed.ne_int_str (fin_bl I q (by simp))
    | _ => exact absurd (show false = true from hs) Bool.false_ne_true
  | str i =>
    obtain ⟨t, rfl⟩ := rx
    cases y with
    | non => cases ry; exact PySem.EqNone.ne_str_none (fin_bl I q (by simp))
    | bl j => cases ry; exact PySem.EqMixed.ne_str_bool (fin_bl I q (by simp))
    | int j => obtain ⟨t', rfl⟩ := ry; exact PySem.EqMixed.ne_str_int (fin_bl I q (by simp))
    | str j => obtain ⟨t', rfl⟩ := ry; exact ne_str (fin_bl I q (congrArg not dec_str))
    | _ => exact absurd (show false = true from hs) Bool.false_ne_true
  | byt i =>
    obtain ⟨t, rfl⟩ := rx
    cases y with
    | byt j => obtain ⟨t', rfl⟩ := ry; exact PySem.W.ne_bytes (fin_bl I q (congrArg not dec_byt))
    | _ => exact absurd (show false = true from hs) Bool.false_ne_true
  | _ => cases y <;> exact absurd (show false = true from hs) Bool.false_ne_true
theorem op_lt : OpR X (compareOp .Lt) (rI0 fun i j => .bl (decide (i < j))) := opB0 fun _ _ _ _ _ _ _ q => lt_int q
theorem op_le : OpR X (compareOp .LtE) (rI0 fun i j => .bl (decide (i ≤ j))) := opB0 fun _ _ _ _ _ _ _ q => le_int q
theorem op_gt : OpR X (compareOp .Gt) (rI0 fun i j => .bl (decide (j < i))) := opB0 fun _ _ _ _ _ _ _ q => gt_int q
theorem op_isN : OpR X (compareOp .Is) (fun x y H Q => y = .non ∧ Q (.bl (decide (x = .non))) H) := by
  intro pins s σ H x y v u Q I rx ry h
  obtain ⟨rfl, q⟩ := h
  cases ry
  refine is_none_gen (fin_bl I q ?_)
  cases x <;> first
    | (cases rx; rfl)
    | (obtain ⟨t, rfl⟩ := rx; rfl)
theorem op_notN : OpR X (compareOp .IsNot) (fun x y H Q => y = .non ∧ Q (.bl (!decide (x = .non))) H) := by
  intro pins s σ H x y v u Q I rx ry h
  obtain ⟨rfl, q⟩ := h
  cases ry
  refine isnot_none_gen (fin_bl I q ?_)
  cases x <;> first
    | (cases rx; rfl)
    | (obtain ⟨t, rfl⟩ := rx; rfl)
theorem OpR.or {f : Value → Value → Sem Value} {r r' : R2} (h : OpR X f r) (h' : OpR X f r') : OpR X f (fun x y H Q => r x y H Q ∨ r' x y H Q) := by
  intro pins s σ H x y v u Q I rx ry q
  rcases q with q | q
  · exact h pins s σ H x y v u Q I rx ry q
  · exact h' pins s σ H x y v u Q I rx ry q
theorem nomark (b : Expr) {op : CmpOp} (h : op ≠ .In := by decide) (h2 : op ≠ .NotIn := by decide) : behindInMarks op b = false := by
  have e1 : (op == CmpOp.In) = false := by cases op <;> first | rfl | exact absurd rfl h
  have e2 : (op == CmpOp.NotIn) = false := by cases op <;> first | rfl | exact absurd rfl h2
  cases b <;> simp [behindInMarks, e1, e2]
theorem pe_cmpR {op : CmpOp} {r : R2} (ho : OpR X (compareOp op) r) (ha : PE X a ta) (hb : PE X b tb) (hm : behindInMarks op b = false) : PE X (.Compare a [op] [b] pos) (tOp r ta tb) := by
  intro pins s σ H Q I h
  exact wpAny_Compare1 (binT ha hb I h fun v u s2 x y H2 I2 rx ry q => ho pins s2 σ H2 x y v u Q I2 rx ry q) hm
def tTest (t : TE) : TT := fun σ H Q => t σ H fun x H' => ∃ k, x = .bl k ∧ Q k H'
theorem pt_cmpR {op : CmpOp} {r : R2} (ho : OpR X (compareOp op) r) (ha : PE X a ta) (hb : PE X b tb) (hm : behindInMarks op b = false) : PT X (.Compare a [op] [b] pos) (tTest (tOp r ta tb)) := by
  intro pins s σ H Q I h
  refine wpAny_isTrue_Compare1 (thn (ha pins s σ H _ I h) fun v s1 ⟨x, H1, I1, r1, q1⟩ => thn (hb pins s1 σ H1 _ I1 q1) fun u s2 ⟨y, H2, I2, r2, q2⟩ =>
    thn (ho pins s2 σ H2 x y v u _ I2 r1 r2 q2) fun c s3 ⟨z, H3, I3, r3, k, e, q3⟩ => ?_) hm
  subst e
  cases r3
  exact wpAny_truthy_bool ⟨H3, I3, q3⟩
def tChain (r r' : R2) (ta tb tc : TE) : TE := fun σ H Q => ta σ H fun x H1 => tb σ H1 fun y H2 => r x y H2 fun z H3 => ∃ k, z = .bl k ∧
  (if k = true then tc σ H3 fun w' H4 => r' y w' H4 Q else Q (.bl false) H3)
theorem pt_chain {op op' : CmpOp} {r r' : R2} (ho : OpR X (compareOp op) r) (ho' : OpR X (compareOp op') r') (ha : PE X a ta) (hb : PE X b tb) (hc : PE X c tc)
    (hm : lastMarks [op, op'] [b, c] = false := by with_unfolding_all rfl) : PT X (.Compare a [op, op'] [b, c] pos) (tTest (tChain r r' ta tb tc)) := by
  intro pins s σ H Q I h
  refine isTrue_chain (thn (ha pins s σ H _ I h) fun v s1 ⟨x, H1, I1, r1, q1⟩ => test_link (thn (hb pins s1 σ H1 _ I1 q1) fun u s2 ⟨y, H2, I2, r2, q2⟩ =>
    thn (ho pins s2 σ H2 x y v u _ I2 r1 r2 q2) fun d s3 ⟨z, H3, I3, r3, k, e, q3⟩ => ?_)) hm
  subst e
  cases r3
  refine wpAny_truthy_bool ?_
  cases k with
  | false =>
    obtain ⟨k', e', q'⟩ := q3
    cases e'
    exact ite_ff ⟨H3, I3, q'⟩
  | true =>
    refine ite_tt (test_last (thn (hc pins s3 σ H3 _ I3 q3) fun w' s4 ⟨z', H4, I4, r4, q4⟩ => thn (ho' pins s4 σ H4 y z' u w' _ I4 r2 r4 q4) fun d' s5 ⟨z2, H5, I5, r5, k2, e2, q5⟩ => ?_))
    subst e2
    cases r5
    exact wpAny_truthy_bool ⟨H5, I5, q5⟩
def TruV (K : PySem.W.Frag) (x : V) (H : Hp) (k : Bool) : Prop :=
  match x with
  | .non => k = false
  | .bl b => k = b
  | .int i => k = (i != 0)
  | .str y => y.length ≤ sizeLine ∧ k = ((y.length : Int) != 0)
  | .byt y => y.size ≤ sizeLine ∧ k = ((y.size : Int) != 0)
  | .ref p => (∃ xs, SqL K H p xs ∧ k = !xs.isEmpty) ∨ (∃ xs, SqT K H p xs ∧ k = !xs.isEmpty) ∨ ∃ kvs, H p = some (.dK kvs) ∧ k = !kvs.isEmpty
  | _ => False
theorem isEmpty_kv {κ : Type} {kvs : List (κ × V)} {vs : List (κ × Value)} (r : KV kvs vs) : (!vs.isEmpty) = !kvs.isEmpty := by
  cases r <;> rfl
theorem isEmpty_of {xs : List V} {its : List Value} (r : Vals xs its) : (!its.toArray.isEmpty) = !xs.isEmpty := by
  cases r <;> simp
theorem line63 : (sizeLine : Nat) < 2 ^ 63 := by rw [sizeLine_eq]; decide
theorem tru_ok : TruR X (fun x H Q => ∃ k, TruV X.K x H k ∧ Q k H) := by
  intro pins s σ H x v Q I rx h
  obtain ⟨k, e, q⟩ := h
  have hl := line63
  have hs : sizeLine = 16777216 := sizeLine_eq
  cases x with
  | non =>
    cases rx
    have e' : k = false := e
    subst e'
    exact truthy_none ⟨H, I, q⟩
  | bl b =>
    cases rx
    have e' : k = b := e
    subst e'
    exact wpAny_truthy_bool ⟨H, I, q⟩
  | int i =>
    obtain ⟨t, rfl⟩ := rx
    have e' : k = (i != 0) := e
    subst e'
    exact PySem.P.truthy_int ⟨H, I, q⟩
  | str y =>
    obtain ⟨t, rfl⟩ := rx
    obtain ⟨hy, e'⟩ : y.length ≤ sizeLine ∧ k = ((y.length : Int) != 0) := e
    subst e'
    exact PySem.P.truthy_str (by omega) ⟨H, I.tok _, q⟩
  | byt y =>
    obtain ⟨t, rfl⟩ := rx
    obtain ⟨hy, e'⟩ : y.size ≤ sizeLine ∧ k = ((y.size : Int) != 0) := e
    subst e'
    exact PySem.W.truthy_bytes (by omega) ⟨H, I.tok _, q⟩
  | ref p =>
    cases rx
    have e' : (∃ xs, SqL X.K H p xs ∧ k = !xs.isEmpty) ∨ (∃ xs, SqT X.K H p xs ∧ k = !xs.isEmpty) ∨ ∃ kvs, H p = some (.dK kvs) ∧ k = !kvs.isEmpty := e
    rcases e' with ⟨xs, hx, e'⟩ | ⟨xs, hx, e'⟩ | ⟨kvs, hx, e'⟩
    · subst e'
      obtain ⟨its, r, pl, hz⟩ := I.list hx
      have hlen := r.length
      exact wpAny_truthy_list pl.isList (by simp only [List.size_toArray]; omega) ⟨H, I.tok _, by rw [isEmpty_of r]; exact q⟩
    · subst e'
      obtain ⟨its, r, pl, hz⟩ := I.tuple hx
      have hlen := r.length
      exact truthy_tuple pl (by simp only [List.size_toArray]; omega) ⟨H, I.tok _, by rw [isEmpty_of r]; exact q⟩
    · subst e'
      obtain ⟨hz, hS, vs, r, m⟩ : kvs.length ≤ sizeLine ∧ (p == sysModules) = false ∧ ∃ vs, KV kvs vs ∧ s.heap.DictOf (mixKind X.prog X.w) p vs := I.hok p _ hx
      have hlen : kvs.length = vs.length := Paired.length r
      exact wpAny_truthy_dict hS m (by omega) ⟨H, I.tok _, by rw [isEmpty_kv r]; exact q⟩
  | _ => exact (show False from e).elim
theorem pt_truth (ha : PE X a ta) (he : ∀ whole, isTrue a X.env whole = (do let v ← whole; standAt a.pos; holding [v] (truthy v))) :
    PT X a (fun σ H Q => ta σ H fun x H' => ∃ k, TruV X.K x H' k ∧ Q k H') := by
  intro pins s σ H Q I h
  exact isTrue_plain (thn (ha pins s σ H _ I h) fun v s1 ⟨x, H1, I1, r1, q1⟩ => tru_ok pins s1 σ H1 x v Q I1 r1 q1) (he _)
theorem vals1 {x : V} {us : List Value} (r : Vals [x] us) : ∃ u, us = [u] ∧ RelV x u := by
  cases r with
  | cons r1 r2 => cases r2; exact ⟨_, rfl, r1⟩
theorem vals2 {x y : V} {us : List Value} (r : Vals [x, y] us) : ∃ u w', us = [u, w'] ∧ RelV x u ∧ RelV y w' := by
  cases r with
  | cons r1 r2 =>
    cases r2 with
    | cons r3 r4 => cases r4; exact ⟨_, _, rfl, r1, r3⟩
theorem call_str_int : CallR X (.type "str") (fun xs H Q => ∃ i, xs = [.int i] ∧ i.natAbs.log2 < 1920 ∧ Q (.str (toString i)) H) := by
  intro pins s σ H xs us Q I r h
  obtain ⟨i, rfl, hz, q⟩ := h
  obtain ⟨u, rfl, t, rfl⟩ := vals1 r
  exact PySem.P.str_of_int hz ⟨.str _, H, I.tok _, ⟨_, rfl⟩, q⟩
end
end L2
namespace L2
open PySem PySem.Spec PyProof.Rows
structure ObjM (h : Heap) (x dx C : Addr) (mA : Str → Option Value) : Prop where
  obj : h.get? x = some (PySem.W.instObj C dx)
  ns : h.Ns1 dx mA
  ne : dx ≠ x
theorem lookIn_ns {h : Heap} {dx : Addr} {mA : Str → Option Value} (n : h.Ns1 dx mA) : ∃ od, h.get? dx = some od ∧ ∀ name, PySem.W.lookIn name od = some (mA name) := by
  obtain ⟨o, es, ep, ho, hd, hk, _, hm⟩ := n
  refine ⟨o, ho, fun name => ?_⟩
  have e := hm name
  unfold nsFind findBy at e
  rw [← Array.find?_toList] at e
  unfold PySem.W.lookIn
  rw [hd]
  dsimp only
  split
  · rename_i y q
    rw [q] at e
    exact congrArg some e
  · rename_i q
    rw [q] at e
    have a : es.toList.any (·.refKey) = false := by
      rw [List.any_eq_false]
      intro y hy
      obtain ⟨z, t, hkey⟩ := hk y (Array.mem_toList_iff.mp hy)
      simp [DictEntry.refKey, hkey]
    have a' : ¬ es.toList.any (·.refKey) = true := by rw [a]; exact Bool.false_ne_true
    rw [if_neg a']
    exact congrArg some e
theorem ObjM.look {h : Heap} {x dx C : Addr} {mA : Str → Option Value} (I : ObjM h x dx C mA) : ∃ od, PySem.W.InstAt h x (PySem.W.instObj C dx) C (some od) ∧ ∀ name, PySem.W.lookIn name od = some (mA name) :=
  let ⟨od, ho, hl⟩ := lookIn_ns I.ns
  ⟨od, ⟨I.obj, rfl, rfl, ho⟩, hl⟩
section
variable {prog : Program} {w : World} {A : Around} {E : Value → Shared → Prop} {s : Shared} {K : PySem.W.Frag} {x dx C f : Addr} {mA : Str → Option Value} {name : Str} {v : Value}
end
theorem RelO.some_of {v : V} {o : Option Value} (r : RelO (some v) o) : ∃ u, o = some u ∧ RelV v u := by
  cases o with
  | none => exact (show False from r).elim
  | some u => exact ⟨u, rfl, r⟩
theorem RelO.none_of {o : Option Value} (r : RelO none o) : o = none := by
  cases o with
  | none => rfl
  | some u => exact (show False from r).elim
section
variable {P : Program} {w : World} {H H' : Hp} {h h' : Heap} {a C dx : Addr} {fs fs' : List (Str × V)}
theorem ins_get (hok : HOk P w H h) (e : H a = some (.ins C dx fs)) : ∃ mA, ObjM h a dx C mA ∧ (∀ f, RelO (fs.lookup f) (mA f)) ∧ PySem.Within mA (fs.map (·.1)) ∧ fs.length ≤ 1000 ∧ H dx = some (.own a) := by
  obtain ⟨d, z, ne, ob, mA, n, r, q⟩ := (show ObjOk P w H h a (.ins C dx fs) from hok a _ e)
  exact ⟨mA, ⟨ob, n, ne⟩, r, q, z, d⟩
end
structure Cls (K : PySem.W.Frag) (C : Addr) : Prop where
  pg : PySem.W.plainGet K C Str.empty = true
  hd : PySem.W.hasDictIn K C = true
  po : PySem.W.plainOver K C = true
  sa : PySem.W.findIn K (.ref C) "__setattr__" = some (some (.builtin "object.__setattr__"))
theorem Cls.get {K : PySem.W.Frag} {C : Addr} (c : Cls K C) (f : Str) : PySem.W.plainGet K C f = true := c.pg
section
variable {X : Cx} {pins : List (Addr × Obj)} {σ : St} {H : Hp} {s : Shared} {a C dx : Addr} {fs : List (Str × V)} {f : Str} {v : V} {A : Around} {E : Value → Shared → Prop}
end
section
variable {X : Cx} {o e value : Expr} {f : Str} {pos pos' tpos : Pos} {ta tv : TE}
end
section
variable {X : Cx} {pins : List (Addr × Obj)} {σ : St} {H : Hp} {s : Shared} {A : Around} {E : Value → Shared → Prop} {Q : Value → Shared → Prop} {c : Value} {b : Bool}
inductive TyOf (K : PySem.W.Frag) (H : Hp) : V → Value → Prop where
  | non : TyOf K H .non (.type "NoneType")
  | bl (x : Bool) : TyOf K H (.bl x) (.type "bool")
  | int (i : Int) : TyOf K H (.int i) (.type "int")
  | str (x : Str) : TyOf K H (.str x) (.type "str")
  | flt (x : UInt64) : TyOf K H (.flt x) (.type "float")
  | lst {a : Addr} {xs : List V} (e : H a = some (.lst xs)) : TyOf K H (.ref a) (.type "list")
  | frz {a : Addr} {o : Obj} {xs : List V} (e : H a = some (.frz o (.lst xs))) : TyOf K H (.ref a) (.type "list")
  | tup {a : Addr} {xs : List V} (e : H a = some (.tup xs)) : TyOf K H (.ref a) (.type "tuple")
  | dK {a : Addr} {kvs : List (Key × V)} (e : H a = some (.dK kvs)) : TyOf K H (.ref a) (.type "dict")
  | dT {a : Addr} {kvs : List (List Key × V)} (e : H a = some (.dT kvs)) : TyOf K H (.ref a) (.type "dict")
  | ins {a C dx : Addr} {fs : List (Str × V)} (e : H a = some (.ins C dx fs)) (cl : Cls K C) (ha : PySem.W.findIn K (.ref C) "__class__" = some (some (.builtin "object.__class__")))
      (hn : PySem.W.specialIn K (.builtin "object.__class__") "__get__" = some (some (.builtin "getset_descriptor.__get__"))) (htk : PySem.W.takesIn K (.builtin "object.__class__") = some true)
      (hm : PySem.W.mroIn K C (.type "object") = some true) : TyOf K H (.ref a) (.ref C)
theorem isinst_ok {x : V} {u t : Value} (I : Inv X pins σ H s) (rx : RelV x u) (ty : TyOf X.K H x t) (e : PySem.W.kitOne X.K t c = some b) (h : ∀ tk, Q (.bool b) { s with toks := tk }) :
    wpAny (model X.prog X.w) A (call (.builtin "isinstance") [u, c]) Q E s := by
  cases ty with
  | non => cases (show u = Value.none from rx); exact PySem.W.kia_one PySem.W.kitx_none I.kIn True.intro e (fun z => nomatch z) h
  | bl y => cases (show u = Value.bool y from rx); exact PySem.W.kia_one PySem.W.kitx_bool I.kIn True.intro e (fun z => nomatch z) h
  | int i => obtain ⟨t, q⟩ := (show ∃ t, u = Value.int i t from rx); cases q; exact PySem.W.kia_one PySem.W.kitx_int I.kIn True.intro e (fun z => nomatch z) h
  | str y => obtain ⟨t, q⟩ := (show ∃ t, u = Value.str y t from rx); cases q; exact PySem.W.kia_one PySem.W.kitx_str I.kIn True.intro e (fun z => nomatch z) h
  | flt y => obtain ⟨t, q⟩ := (show ∃ t, u = Value.float y t from rx); cases q; exact PySem.W.kia_one PySem.W.kitx_float I.kIn True.intro e (fun z => nomatch z) h
  | @lst a xs ea =>
    cases (show u = Value.ref a from rx)
    obtain ⟨_, _, n, _, h1⟩ := (show ObjOk X.prog X.w H s.heap a (.lst xs) from I.hok a _ ea)
    exact PySem.W.kia_one PySem.W.kitx_list I.kIn ⟨_, h1, rfl⟩ e (fun z => nomatch z) h
  | @frz a ob xs ea =>
    cases (show u = Value.ref a from rx)
    obtain ⟨_, _, _, n, _, h1⟩ := (show ObjOk X.prog X.w H s.heap a (.frz ob (.lst xs)) from I.hok a _ ea)
    exact PySem.W.kia_one PySem.W.kitx_list I.kIn ⟨_, h1, rfl⟩ e (fun z => nomatch z) h
  | @tup a xs ea =>
    cases (show u = Value.ref a from rx)
    obtain ⟨_, _, _, p⟩ := (show ObjOk X.prog X.w H s.heap a (.tup xs) from I.hok a _ ea)
    obtain ⟨o, h1, h2, _⟩ := p
    exact PySem.W.kia_one PySem.W.kitx_tuple I.kIn ⟨o, h1, h2⟩ e (fun z => nomatch z) h
  | @dK a kvs ea =>
    cases (show u = Value.ref a from rx)
    obtain ⟨_, _, vs, _, p⟩ := (show ObjOk X.prog X.w H s.heap a (.dK kvs) from I.hok a _ ea)
    obtain ⟨o, es, ep, h1, h2, _⟩ := p
    exact PySem.W.kia_one PySem.W.kitx_dict I.kIn ⟨o, h1, h2.1⟩ e (fun z => nomatch z) h
  | @dT a kvs ea =>
    cases (show u = Value.ref a from rx)
    obtain ⟨_, _, xs, _, o, es, ep, h1, h2, _⟩ := (show ObjOk X.prog X.w H s.heap a (.dT kvs) from I.hok a _ ea)
    exact PySem.W.kia_one PySem.W.kitx_dict I.kIn ⟨o, h1, h2.1⟩ e (fun z => nomatch z) h
  | @ins a C dx fs ea cl ha hn htk hm =>
    cases (show u = Value.ref a from rx)
    obtain ⟨mA, O, _⟩ := ins_get I.hok ea
    obtain ⟨od, J, _⟩ := O.look
    exact PySem.W.kia_one (PySem.W.kitx_own (cl.get _) cl.hd ha hn htk hm) I.kIn J e (fun z => nomatch z) h
end
end L2
namespace L2
open PySem PySem.Spec PyProof.Rows
structure Room (k : Nat) (A : Around) : Prop where
  hd : A.handled = none
  dp : A.depth + 3 * k + 5 < recursionLimit
  un : A.units + 16 * k + 200 < cLine
  gd : A.guards = some []
theorem Room.mono {j k : Nat} {A : Around} (r : Room k A) (h : j ≤ k) : Room j A := ⟨r.hd, by have := r.dp; omega, by have := r.un; omega, r.gd⟩
theorem Room.deeper {k : Nat} {A : Around} (r : Room (k + 1) A) (env : Env) : Room k (A.deeper env) :=
  ⟨r.hd, by have := r.dp; show A.depth + 1 + 3 * k + 5 < _; omega, by have := r.un; show A.units + 3 + 16 * k + 200 < _; omega, r.gd⟩
theorem Room.in1 {k : Nat} {A : Around} (r : Room (k + 1) A) : Room k A.in1 :=
  ⟨r.hd, by have := r.dp; show A.depth + 3 * k + 5 < _; omega, by have := r.un; show A.units + 1 + 16 * k + 200 < _; omega, r.gd⟩
theorem make_depth {A : Around} {C : Addr} {us : List Value} {kw : List (Str × Value)} : (A.under (.builtin "type.__call__" ⟨.ref C :: us, kw⟩)).depth = A.depth + 1 := by
  first | rfl | simp [Around.under, Code.weight, Code.isCreation, Code.isGuard, Code.isCaller, Code.frames, Code.isFrame, guardIds]
theorem make_units {A : Around} {C : Addr} {us : List Value} {kw : List (Str × Value)} : (A.under (.builtin "type.__call__" ⟨.ref C :: us, kw⟩)).units = A.units + 1 := by
  first | rfl | simp [Around.under, Code.cUnits, Code.frames, Code.isFrame]
theorem Room.make {k : Nat} {A : Around} (r : Room (k + 1) A) (C : Addr) (us : List Value) (kw : List (Str × Value)) : Room k (A.under (.builtin "type.__call__" ⟨.ref C :: us, kw⟩)) :=
  ⟨r.hd, by have := r.dp; rw [make_depth]; omega, by have := r.un; rw [make_units]; omega, by have := r.gd; simp [Around.under, Code.guards, Code.isGuard, guardIds, pushGuards, this]⟩
theorem Room.depth {k : Nat} {A : Around} (r : Room k A) : A.depth < recursionLimit := by have := r.dp; omega
theorem Room.units {k : Nat} {A : Around} (r : Room k A) : A.units + 64 < cLine := by have := r.un; omega
theorem Room.units0 {k : Nat} {A : Around} (r : Room k A) : A.units < cLine := by have := r.un; omega
def tNil : TA := fun _ H Q => Q [] H
def tCons (ta : TE) (tr : TA) : TA := fun σ H Q => ta σ H fun x H1 => tr σ H1 fun xs H2 => Q (x :: xs) H2
section
variable {X : Cx} {e : Expr} {es : List Expr} {te : TE} {t : TA} {pos : Pos}
theorem pa_nil : PA X [] tNil := fun _ _ _ _ H Q I h => Calls.spliced_nil ⟨[], H, I, .nil, h⟩
theorem pa_cons (ha : PE X e te) (hr : PA X es t) (hs : starEach (e :: es) X.env = (false, eval e X.env) :: starEach es X.env := by rfl) : PA X (e :: es) (tCons te t) := by
  intro pos pins s σ H Q I h
  rw [hs]
  show wpAny _ _ (spliced ((false, eval e X.env) :: backTo pos (starEach es X.env))) _ _ s
  refine Calls.spliced_cons (thn (ha pins s σ H _ I h) fun u s1 ⟨x, H1, I1, r1, q1⟩ => ?_)
  exact thn (hr pos pins s1 σ H1 _ I1 q1) fun us s2 ⟨xs, H2, I2, r2, q2⟩ => ⟨x :: xs, H2, I2, .cons r1 r2, q2⟩
def tTup (t : TA) : TE := fun σ H Q => t σ H fun xs H1 => xs.length ≤ sizeLine ∧ ∀ p, H1 p = none → Q (.ref p) (upd H1 p (.tup xs))
def tLst (t : TA) : TE := fun σ H Q => t σ H fun xs H1 => xs.length ≤ sizeLine ∧ ∀ p, H1 p = none → Q (.ref p) (upd H1 p (.lst xs))
theorem pe_tup {x1} (h : PA X es t) : PE X (.Tuple es x1 pos) (tTup t) := by
  intro pins s σ H Q I hq
  refine wpAny_Tuple_spliced (thn (h pos pins s σ H _ I hq) fun us s1 ⟨xs, H1, I1, r, z, q⟩ => ⟨by rw [← r.length]; exact z, ?_⟩)
  have hf : H1 s1.heap.objs.size = none := I1.hok.fresh (Nat.le_refl _)
  refine ⟨.ref s1.heap.objs.size, upd H1 s1.heap.objs.size (.tup xs), I1.laid (t' := s1.toks) (fun b u e => Heap.get?_push_of_some _ e) (Nat.le_refl _) ?_, rfl, q _ hf⟩
  exact ⟨z, us, r, ⟨_, Heap.get?_push_size _ rfl, rfl, _, rfl⟩⟩
theorem pe_lst (h : PA X es t) : PE X (.List es pos) (tLst t) := by
  intro pins s σ H Q I hq
  refine wpAny_List_spliced (thn (h pos pins s σ H _ I hq) fun us s1 ⟨xs, H1, I1, r, z, q⟩ => ⟨by rw [← r.length]; exact z, ?_⟩)
  have hf : H1 s1.heap.objs.size = none := I1.hok.fresh (Nat.le_refl _)
  refine ⟨.ref s1.heap.objs.size, upd H1 s1.heap.objs.size (.lst xs), I1.laid (t' := s1.toks) (fun b u e => Heap.get?_push_of_some _ e) (Nat.le_refl _) ?_, rfl, q _ hf⟩
  exact ⟨z, us, 0, r, Heap.get?_push_size _ rfl⟩
end
abbrev Sp := List V → Hp → VK → XK → Prop
abbrev CXT := List Env → Hp → Shared → XK → Value → Shared → Prop
structure Env0 (P : Program) (w : World) (K : PySem.W.Frag) (mg : Str → Option Value) (base : Heap) (A : Around) (outer : List Env) (s : Shared) (H : Hp) : Prop where
  frames : A.frames = some outer
  mod : Mod K mg base
  bs : ∀ b o, base.get? b = some o → s.heap.get? b = some o ∧ H b = none
  bsz : base.objs.size ≤ s.heap.objs.size
  funs : s.heap.FunFrames base outer
  frf : ∀ b ∈ frs outer, H b = none
  hok : HOk P w H s.heap
  bare : AllBare s.gens
def CE (outer : List Env) (P : Program) (w : World) (H : Hp) (s : Shared) (Q : VK) (u : Value) (s' : Shared) : Prop :=
  ∃ v H', s'.os = s.os ∧ AllBare s'.gens ∧ Un (frs outer) [] H H' s.heap s'.heap ∧ HOk P w H' s'.heap ∧ RelV v u ∧ Q v H'
def CR (CX : CXT) (outer : List Env) (P : Program) (w : World) (H : Hp) (s : Shared) (Q : VK) (E : XK) (r : Result) (s' : Shared) : Prop :=
  match r with
  | .ok (.ret u) => CE outer P w H s Q u s'
  | .ok _ => False
  | .error e => CX outer H s E e s'
structure FnOk (P : Program) (w : World) (K : PySem.W.Frag) (mg : Str → Option Value) (base : Heap) (CX : CXT) (k : Nat) (f : Addr) (fd : FuncData) (ps : List Str) (sp : Sp) : Prop where
  len : ∀ vs H Q E, sp vs H Q E → vs.length = ps.length
  run : ∀ (A : Around) (outer : List Env) (s : Shared) (H : Hp) (args : Args) (us : List Value) (vs : List V) (Q : VK) (E : XK), Room k A → Env0 P w K mg base A outer s H → BindsTo s fd args (ps.zip us) → Vals vs us → sp vs H Q E →
    codeAny (model P w) A (.call (.ref f) args) (CR CX outer P w H s Q E) s
theorem FnOk.mono {P : Program} {w : World} {K : PySem.W.Frag} {mg : Str → Option Value} {base : Heap} {CX : CXT} {j k : Nat} {f : Addr} {fd : FuncData} {ps : List Str} {sp : Sp} (F : FnOk P w K mg base CX j f fd ps sp) (h : j ≤ k) :
    FnOk P w K mg base CX k f fd ps sp := ⟨F.len, fun A outer s H args us vs Q E hr => F.run A outer s H args us vs Q E (hr.mono h)⟩
theorem Env0.make {P : Program} {w : World} {K : PySem.W.Frag} {mg : Str → Option Value} {base : Heap} {A : Around} {outer : List Env} {s : Shared} {H : Hp} (e : Env0 P w K mg base A outer s H) (C : Addr) (us : List Value) (kw : List (Str × Value)) :
    Env0 P w K mg base (A.under (.builtin "type.__call__" ⟨.ref C :: us, kw⟩)) outer s H := ⟨by first | exact e.frames | (simpa [Around.under, Code.envs, Code.isFrame, pushEnvs] using e.frames), e.mod, e.bs, e.bsz, e.funs, e.frf, e.hok, e.bare⟩
theorem Env0.in1 {P : Program} {w : World} {K : PySem.W.Frag} {mg : Str → Option Value} {base : Heap} {A : Around} {outer : List Env} {s : Shared} {H : Hp} (e : Env0 P w K mg base A outer s H) :
    Env0 P w K mg base A.in1 outer s H := ⟨e.frames, e.mod, e.bs, e.bsz, e.funs, e.frf, e.hok, e.bare⟩
section
variable {X : Cx} {pins : List (Addr × Obj)} {σ : St} {H : Hp} {s s' : Shared}
theorem Inv.env0 (I : Inv X pins σ H s) : Env0 X.prog X.w X.K X.mg X.base X.A X.stack s H :=
  ⟨I.ok.frames, I.ok.mod, I.bs, Nat.le_trans I.ok.bsz I.sz, I.stack, I.stkFree, I.hok, I.bare⟩
theorem Inv.after {Q : VK} {u : Value} (I : Inv X pins σ H s) (h : CE X.stack X.prog X.w H s Q u s') : EP X pins σ Q u s' := by
  obtain ⟨v, H', os, bare, un, hok, r, q⟩ := h
  obtain ⟨hh, g, d, t, os'⟩ := s'
  obtain rfl : os' = s.os := os
  exact ⟨v, H', I.call (h' := hh) (g' := g) (d' := d) (t' := t) (ch := []) un hok bare (fun b z => absurd z (by simp)), r, q⟩
end
def tCall (sp : Sp) (dvs : List V) (E : XK) (t : TA) : TE := fun σ H Q => t σ H fun vs H1 => sp (vs ++ dvs) H1 Q E
def Binds (K : PySem.W.Frag) (fd : FuncData) (ps : List Str) (ds : List Value) : Prop :=
  ∀ (s : Shared) (us : List Value), K.In s.heap → (us ++ ds).length = ps.length → BindsTo s fd ⟨us, []⟩ (ps.zip (us ++ ds))
theorem Binds.all {K : PySem.W.Frag} {fd : FuncData} {ps : List Str} (h : ∀ us : List Value, us.length = ps.length → bindArgs fd ⟨us, []⟩ = pure (ps.zip us)) : Binds K fd ps [] := fun s us _ hl => by
  rw [List.append_nil] at hl ⊢
  exact .of_eq (h us hl)
def Passes (CX : CXT) (X : Cx) (E : XK) : Prop := ∀ (pins : List (Addr × Obj)) (σ : St) (H : Hp) (s : Shared) (e : Value) (s' : Shared), Inv X pins σ H s → CX X.stack H s E e s' → X.xe e s'
section
variable {X : Cx} {CX : CXT} {k : Nat} {f C : Addr} {fd : FuncData} {ps : List Str} {sp : Sp} {dvs : List V} {ds : List Value} {E : XK} {x m : Str} {p pos apos : Pos} {e o : Expr} {es : List Expr} {ta : TE} {t : TA}
theorem run_fn {pins : List (Addr × Obj)} {σ : St} {H : Hp} {s : Shared} {Q : VK} {us : List Value} {vs : List V} (F : FnOk X.prog X.w X.K X.mg X.base CX k f fd ps sp) (hr : Room k X.A) (hb : Binds X.K fd ps ds) (hd : Vals dvs ds) (hx : Passes CX X E)
    (I : Inv X pins σ H s) (r : Vals vs us) (h : sp (vs ++ dvs) H Q E) : wpAny (model X.prog X.w) X.A (call (.ref f) us) (EP X pins σ Q) X.xe s := by
  have r2 : Vals (vs ++ dvs) (us ++ ds) := r.append hd
  have hl : (us ++ ds).length = ps.length := by rw [← r2.length]; exact F.len _ _ _ _ h
  refine wpAny_call (codeAny_mono (F.run X.A X.stack s H ⟨us, []⟩ (us ++ ds) (vs ++ dvs) Q E hr I.env0 (hb s us I.kIn hl) r2 h) fun r s' hq => ?_)
  cases r with
  | error e => exact hx pins σ H s e s' I hq
  | ok fl =>
    cases fl with
    | ret u => exact I.after hq
    | next => exact False.elim hq
    | brk => exact False.elim hq
    | cont => exact False.elim hq
theorem pe_call (F : FnOk X.prog X.w X.K X.mg X.base CX k f fd ps sp) (hr : Room k X.A) (hg : Gl X x) (hm : X.mg x = some (.ref f)) (hk : PySem.W.keepIn X.K (.ref f) = true) (hb : Binds X.K fd ps ds) (hd : Vals dvs ds) (hx : Passes CX X E)
    (ha : PA X (e :: es) t) (hdb : (x == ("__debug__" : Str)) = false := by decide) (he : starEach (e :: es) X.env = (false, eval e X.env) :: starEach es X.env := by rfl) (hpl : (backTo pos (starEach es X.env)).any (·.1) = false := by rfl) :
    PE X (.Call (.Name x p) (e :: es) [] pos) (tCall sp dvs E t) := by
  intro pins s σ H Q I h
  refine wpAny_Call_Name_kw (ld_glob I hg hm ?_ hdb)
  refine PySem.W.callWith_K (h₀ := X.base) I.ok.mod.kin hk (thn (ha pos pins s σ H _ I h) fun us s1 ⟨vs, H1, I1, r, q⟩ => ⟨I1.kIn, ?_⟩) he hpl
  exact run_fn F hr hb hd hx I1 r q
end
section
variable {X : Cx} {CX : CXT} {k : Nat} {f C : Addr} {fd : FuncData} {ps ks : List Str} {sp : Sp} {E : XK} {x m : Str} {p pos apos kpos : Pos} {e o : Expr} {es : List Expr} {kws : List Keyword} {te ta : TE} {t tk : TA} {nm : Option Str}
variable {g : List Value → List Value → List Value} {gV : List V → List V → List V}
end
structure FnScope (N P : List Str) (sc : Scope) : Prop where
  kind : sc.kind = .function
  co : sc.isCoroutine = false
  gen : sc.isGenerator = false
  nd : N.Nodup
  pre : N.take P.length = P
  par : ∀ x ∈ P, sc.names.lookup x = some .local ∨ sc.names.lookup x = some .cell
  nofree : ∀ y ∈ sc.names, y.2 ≠ .free
theorem bindL_out {kindOf : Str → Option NameKind} {x : Str} : ∀ {binds : List (Str × Value)} {m : Str → Option Value}, (∀ v, (x, v) ∉ binds) → bindL kindOf binds m x = m x
  | [], _, _ => rfl
  | (n, v) :: r, m, h => by
    unfold bindL
    rw [bindL_out fun w hw => h w (List.mem_cons_of_mem _ hw)]
    split
    · have : x ≠ n := by rintro rfl; exact h v List.mem_cons_self
      simp [this]
    · rfl
theorem bindC_out {kindOf : Str → Option NameKind} {x : Str} : ∀ {binds : List (Str × Value)} {m : Str → Option Value}, (∀ v, (x, v) ∉ binds) → bindC kindOf binds m x = m x
  | [], _, _ => rfl
  | (n, v) :: r, m, h => by
    unfold bindC
    rw [bindC_out fun w hw => h w (List.mem_cons_of_mem _ hw)]
    split
    · rfl
    · have : x ≠ n := by rintro rfl; exact h v List.mem_cons_self
      simp [this]
theorem bindL_get {kindOf : Str → Option NameKind} {x : Str} {v : Value} : ∀ {P : List Str} {vs : List Value} {i : Nat} {m : Str → Option Value}, P.Nodup → P[i]? = some x → vs[i]? = some v → kindOf x = some .local →
    bindL kindOf (P.zip vs) m x = some v
  | [], _, _, _, _, h, _, _ => by simp at h
  | _ :: _, [], _, _, _, _, h, _ => by simp at h
  | p :: P, w :: vs, 0, m, nd, h1, h2, hk => by
    simp at h1 h2; subst h1; subst h2
    show bindL kindOf ((p, w) :: P.zip vs) m p = _
    unfold bindL
    rw [bindL_out fun v hv => (List.nodup_cons.mp nd).1 (List.of_mem_zip hv).1, if_pos hk]
    simp
  | p :: P, w :: vs, i + 1, m, nd, h1, h2, hk => by
    show bindL kindOf ((p, w) :: P.zip vs) m x = _
    unfold bindL
    exact bindL_get (i := i) (List.nodup_cons.mp nd).2 (by simpa using h1) (by simpa using h2) hk
theorem bindC_get {kindOf : Str → Option NameKind} {x : Str} {v : Value} : ∀ {P : List Str} {vs : List Value} {i : Nat} {m : Str → Option Value}, P.Nodup → P[i]? = some x → vs[i]? = some v → kindOf x ≠ some .local →
    bindC kindOf (P.zip vs) m x = some v
  | [], _, _, _, _, h, _, _ => by simp at h
  | _ :: _, [], _, _, _, _, h, _ => by simp at h
  | p :: P, w :: vs, 0, m, nd, h1, h2, hk => by
    simp at h1 h2; subst h1; subst h2
    show bindC kindOf ((p, w) :: P.zip vs) m p = _
    unfold bindC
    rw [bindC_out fun v hv => (List.nodup_cons.mp nd).1 (List.of_mem_zip hv).1, if_neg hk]
    simp
  | p :: P, w :: vs, i + 1, m, nd, h1, h2, hk => by
    show bindC kindOf ((p, w) :: P.zip vs) m x = _
    unfold bindC
    exact bindC_get (i := i) (List.nodup_cons.mp nd).2 (by simpa using h1) (by simpa using h2) hk
def start (N : List Str) (vs : List V) : St := vs.map some ++ List.replicate (N.length - vs.length) none
def cxOf (CX : CXT) (P : Program) (w : World) (K : PySem.W.Frag) (mg : Str → Option Value) (base : Heap) (N : List Str) (qual : Str) (scope : Scope) (f : Addr) (cd : Value) (A : Around) (outer : List Env) (s : Shared) (H : Hp) (E : XK) : Cx where
  prog := P
  w := w
  K := K
  mg := mg
  base := base
  A := A.deeper (envOfC qual scope s.heap.objs.size f cd)
  N := N
  s₀ := s
  H₀ := H
  env := envOfC qual scope s.heap.objs.size f cd
  outer := outer
  stack := envOfC qual scope s.heap.objs.size f cd :: outer
  ex := []
  calm := true
  fn := fun _ => true
  pn := []
  xe := fun e s' => wpAny (model P w) (A.deeper (envOfC qual scope s.heap.objs.size f cd)) (leaving (envOfC qual scope s.heap.objs.size f cd) e) (fun _ s'' => CX outer H s E e s'') (fun e' s'' => CX outer H s E e' s'') s'
theorem cell_has {sc : Scope} {n : Nat} {x : Str} (h : sc.names.lookup x = some .cell) : ∃ c, (cellsFrom n sc.names []).lookup x = some c := by
  have q := PySem.W.cellsFrom_some sc.names n [] (.inl h)
  exact Option.isSome_iff_exists.mp q
theorem inv_start {CX : CXT} {P : Program} {w : World} {K : PySem.W.Frag} {mg : Str → Option Value} {base : Heap} {N ps : List Str} {qual : Str} {scope : Scope} {f : Addr} {cd : Value} {A : Around} {outer : List Env} {s s1 : Shared} {H : Hp} {E : XK} {us : List Value} {vs : List V}
    (S : FnScope N ps scope) (hd : A.handled = none) (e0 : Env0 P w K mg base A outer s H) (hl : vs.length = ps.length) (r : Vals vs us)
    (x : InCallC s s.heap.objs.size (bindL (envOfC qual scope s.heap.objs.size f cd).kindOf (ps.zip us) fun _ => none) (cellsFrom (s.heap.objs.size + 1) scope.names []) (bindC (envOfC qual scope s.heap.objs.size f cd).kindOf (ps.zip us) fun _ => none) s1) :
    Inv (cxOf CX P w K mg base N qual scope f cd A outer s H E) [] (start N vs) H s1 := by
  have hpl : ps.length ≤ N.length := by have := congrArg List.length S.pre; rw [List.length_take] at this; omega
  obtain ⟨h1, tk, rfl, hk⟩ := x.done
  have noA : ∀ b : Addr, b ∉ (cxOf CX P w K mg base N qual scope f cd A outer s H E).ex := fun b z => absurd (show b ∈ ([] : List Addr) from z) (by simp)
  refine ⟨⟨e0.mod, S.kind, rfl, rfl, Nat.le_refl _, fun y z c h1 h2 => ?_, fun y hy => ?_, fun y c _ h => ?_, fun _ => hd, Around.frames_deeper e0.frames, .inr ⟨rfl, rfl⟩, fun b z => absurd z (noA b), e0.bs, e0.bsz, fun b _ _ => noA b, fun b z => absurd z (noA b), e0.funs, e0.frf⟩,
    rfl, e0.bare, Un.kept hk, ⟨_, x.toInCall.ns, fun i y v h1 h2 h3 => ?_⟩, fun y c h => ⟨_, x.cell y c h⟩, e0.hok.fresh (Nat.le_refl _), fun y c h => ?_, fun p hp => absurd (show p ∈ ([] : List (Addr × Obj)) from hp) (by simp), e0.hok.kept hk, ?_⟩
  · exact name_of_addr x.apart (PySem.mem_of_lookup h1) (PySem.mem_of_lookup h2)
  · have hy : scope.names.lookup y = some .cell ∨ scope.names.lookup y = some .free := hy
    rcases hy with hy | hy
    · exact cell_has hy
    · exact absurd rfl (S.nofree _ (PySem.mem_of_lookup hy))
  · exact Nat.le_of_lt (x.above y c (PySem.mem_of_lookup h))
  · have hi : i < vs.length := by
      unfold start at h2
      by_cases hi : i < vs.length
      · exact hi
      · rw [List.getElem?_append_right (by simpa using hi)] at h2
        rw [List.getElem?_replicate] at h2
        split at h2 <;> cases h2
    have ha : vs[i]? = some v := by
      unfold start at h2
      rw [List.getElem?_append_left (by simpa using hi), List.getElem?_map] at h2
      cases e : vs[i]? with
      | none => rw [e] at h2; cases h2
      | some a => rw [e] at h2; cases h2; rfl
    obtain ⟨u, hu, rv⟩ := r.get ha
    have hp : ps[i]? = some y := by
      rw [← S.pre, List.getElem?_take_of_lt (by omega)]; exact h1
    have ndP : ps.Nodup := by rw [← S.pre]; exact S.nd.sublist (List.take_sublist _ _)
    refine ⟨u, rv, ?_⟩
    rcases S.par y (List.mem_of_getElem? hp) with k | k
    · exact .inl ⟨k, bindL_get ndP hp hu k⟩
    · obtain ⟨c, e⟩ := cell_has (n := s.heap.objs.size + 1) k
      refine .inr ⟨.inl k, c, e, ?_⟩
      have q := x.cell y c e
      rw [bindC_get ndP hp hu (by show scope.names.lookup y ≠ _; rw [k]; decide)] at q
      exact q
  · exact e0.hok.fresh (Nat.le_of_lt (x.above y c (PySem.mem_of_lookup h)))
  · unfold start
    show _ = N.length
    rw [List.length_append, List.length_map, List.length_replicate]
    omega
theorem fn_of {CX : CXT} {P : Program} {w : World} {K : PySem.W.Frag} {mg : Str → Option Value} {base : Heap} {k : Nat} {f : Addr} {name qual : Str} {params : Arguments} {body : List Stmt} {scope : Scope} {dV kV doc pm cdv ct oc : Value} {an od : Option Addr}
    {osl : Array (Option Value)} {N ps : List Str} {sp : Sp} (lk : K.lookup f = some ⟨oc, od, .func (PySem.W.fnOf name qual params body scope dV kV doc pm an cdv ct), osl⟩) (hcd : PySem.W.codeIn K cdv qual = true) (S : FnScope N ps scope)
    (len : ∀ vs H Q E, sp vs H Q E → vs.length = ps.length)
    (hbody : ∀ (A : Around) (outer : List Env) (s : Shared) (H : Hp) (vs : List V) (Q : VK) (E : XK), Room k (A.deeper (envOfC qual scope s.heap.objs.size f cdv)) → sp vs H Q E →
      ∃ t, PSs (cxOf CX P w K mg base N qual scope f cdv A outer s H E) body t ∧ t { nx := fun _ H' => Q .non H', rt := Q } (start N vs) H) :
    FnOk P w K mg base CX (k + 1) f (PySem.W.fnOf name qual params body scope dV kV doc pm an cdv ct) ps sp := by
  refine ⟨len, fun A outer s H args us vs Q E hr e0 hb r hsp => ?_⟩
  have hl := len _ _ _ _ hsp
  have KX : K.In s.heap := e0.mod.kin.keeps fun b o e => (e0.bs b o e).1
  have lim : s.heap.NoLimit := e0.mod.nolimit.keeps fun b o e => (e0.bs b o e).1
  have hkind : ∀ y ∈ ps.zip us, scope.names.lookup y.1 = some .local ∨ (scope.names.lookup y.1 = some .cell ∧ ((cellsFrom (s.heap.objs.size + 1) scope.names []).lookup y.1).isSome = true) := fun ⟨n, v⟩ hy => by
    rcases S.par n (List.of_mem_zip hy).1 with q | q
    · exact .inl q
    · exact .inr ⟨q, PySem.W.cellsFrom_some _ _ _ (.inl q)⟩
  refine codeAny_call_function hr.depth (KX _ _ lk) rfl S.co S.gen rfl (PySem.W.codeRec_of KX hcd) (hb _ _ _ _ ?_)
  refine wpAny_newFunctionEnv_cells S.kind hkind fun env he s1 x => ?_
  subst he
  refine ⟨lim.keeps x.toInCall.keep, codeAny_func ?_⟩
  obtain ⟨t, ht, hq⟩ := hbody A outer s H vs Q E (hr.deeper _) hsp
  have I : Inv (cxOf CX P w K mg base N qual scope f cdv A outer s H E) [] (start N vs) H s1 := inv_start S hr.hd e0 hl r x
  refine wpAny_mono (ht [] s1 (start N vs) H _ I hq) (fun fl s' hs => ?_) fun e s' hs => hs
  have fin : ∀ {σ' : St} {H' : Hp} {v : V} {u : Value}, Inv (cxOf CX P w K mg base N qual scope f cdv A outer s H E) [] σ' H' s' → RelV v u → Q v H' → CE outer P w H s Q u s' :=
    fun {σ' H' v u} J rv q => ⟨v, H', J.os, J.bare, J.base, J.hok, rv, q⟩
  cases fl with
  | ret u =>
    obtain ⟨v, σ', H', J, rv, q⟩ := hs
    exact fin J rv q
  | next =>
    obtain ⟨σ', H', J, q⟩ := hs
    exact fin (v := V.non) (u := Value.none) J rfl q
  | brk =>
    obtain ⟨_, _, _, q⟩ := hs
    exact False.elim q
  | cont =>
    obtain ⟨_, _, _, q⟩ := hs
    exact False.elim q
end L2
namespace L2
open PySem PySem.Spec PyProof.Rows
structure RoomH (k : Nat) (A : Around) : Prop where
  dp : A.depth + 3 * k + 5 < recursionLimit
  un : A.units + 16 * k + 200 < cLine
  gd : A.guards = some []
theorem RoomH.mono {j k : Nat} {A : Around} (r : RoomH k A) (h : j ≤ k) : RoomH j A := ⟨by have := r.dp; omega, by have := r.un; omega, r.gd⟩
theorem RoomH.deeper {k : Nat} {A : Around} (r : RoomH (k + 1) A) (env : Env) : RoomH k (A.deeper env) :=
  ⟨by have := r.dp; show A.depth + 1 + 3 * k + 5 < _; omega, by have := r.un; show A.units + 3 + 16 * k + 200 < _; omega, r.gd⟩
theorem RoomH.in1 {k : Nat} {A : Around} (r : RoomH (k + 1) A) : RoomH k A.in1 :=
  ⟨by have := r.dp; show A.depth + 3 * k + 5 < _; omega, by have := r.un; show A.units + 1 + 16 * k + 200 < _; omega, r.gd⟩
theorem RoomH.depth {k : Nat} {A : Around} (r : RoomH k A) : A.depth < recursionLimit := by have := r.dp; omega
theorem RoomH.units {k : Nat} {A : Around} (r : RoomH k A) : A.units + 64 < cLine := by have := r.un; omega
theorem RoomH.units0 {k : Nat} {A : Around} (r : RoomH k A) : A.units < cLine := by have := r.un; omega
structure FnOkH (P : Program) (w : World) (K : PySem.W.Frag) (mg : Str → Option Value) (base : Heap) (CX : CXT) (k : Nat) (f : Addr) (fd : FuncData) (ps : List Str) (sp : Sp) : Prop where
  len : ∀ vs H Q E, sp vs H Q E → vs.length = ps.length
  run : ∀ (A : Around) (outer : List Env) (s : Shared) (H : Hp) (args : Args) (us : List Value) (vs : List V) (Q : VK) (E : XK), RoomH k A → Env0 P w K mg base A outer s H → BindsTo s fd args (ps.zip us) → Vals vs us → sp vs H Q E →
    codeAny (model P w) A (.call (.ref f) args) (CR CX outer P w H s Q E) s
theorem FnOkH.mono {P : Program} {w : World} {K : PySem.W.Frag} {mg : Str → Option Value} {base : Heap} {CX : CXT} {j k : Nat} {f : Addr} {fd : FuncData} {ps : List Str} {sp : Sp} (F : FnOkH P w K mg base CX j f fd ps sp) (h : j ≤ k) :
    FnOkH P w K mg base CX k f fd ps sp := ⟨F.len, fun A outer s H args us vs Q E hr => F.run A outer s H args us vs Q E (hr.mono h)⟩
section
variable {X : Cx} {CX : CXT} {k : Nat} {f C : Addr} {fd : FuncData} {ps : List Str} {sp : Sp} {dvs : List V} {ds : List Value} {E : XK} {x m : Str} {p pos apos : Pos} {e o : Expr} {es : List Expr} {ta : TE} {t : TA}
theorem run_fnH {pins : List (Addr × Obj)} {σ : St} {H : Hp} {s : Shared} {Q : VK} {us : List Value} {vs : List V} (F : FnOkH X.prog X.w X.K X.mg X.base CX k f fd ps sp) (hr : RoomH k X.A) (hb : Binds X.K fd ps ds) (hd : Vals dvs ds) (hx : Passes CX X E)
    (I : Inv X pins σ H s) (r : Vals vs us) (h : sp (vs ++ dvs) H Q E) : wpAny (model X.prog X.w) X.A (call (.ref f) us) (EP X pins σ Q) X.xe s := by
  have r2 : Vals (vs ++ dvs) (us ++ ds) := r.append hd
  have hl : (us ++ ds).length = ps.length := by rw [← r2.length]; exact F.len _ _ _ _ h
  refine wpAny_call (codeAny_mono (F.run X.A X.stack s H ⟨us, []⟩ (us ++ ds) (vs ++ dvs) Q E hr I.env0 (hb s us I.kIn hl) r2 h) fun r s' hq => ?_)
  cases r with
  | error e => exact hx pins σ H s e s' I hq
  | ok fl =>
    cases fl with
    | ret u => exact I.after hq
    | next => exact False.elim hq
    | brk => exact False.elim hq
    | cont => exact False.elim hq
theorem pe_callH (F : FnOkH X.prog X.w X.K X.mg X.base CX k f fd ps sp) (hr : RoomH k X.A) (hg : Gl X x) (hm : X.mg x = some (.ref f)) (hk : PySem.W.keepIn X.K (.ref f) = true) (hb : Binds X.K fd ps ds) (hd : Vals dvs ds) (hx : Passes CX X E)
    (ha : PA X (e :: es) t) (hdb : (x == ("__debug__" : Str)) = false := by decide) (he : starEach (e :: es) X.env = (false, eval e X.env) :: starEach es X.env := by rfl) (hpl : (backTo pos (starEach es X.env)).any (·.1) = false := by rfl) :
    PE X (.Call (.Name x p) (e :: es) [] pos) (tCall sp dvs E t) := by
  intro pins s σ H Q I h
  refine wpAny_Call_Name_kw (ld_glob I hg hm ?_ hdb)
  refine PySem.W.callWith_K (h₀ := X.base) I.ok.mod.kin hk (thn (ha pos pins s σ H _ I h) fun us s1 ⟨vs, H1, I1, r, q⟩ => ⟨I1.kIn, ?_⟩) he hpl
  exact run_fnH F hr hb hd hx I1 r q
end
def cxOfH (CX : CXT) (P : Program) (w : World) (K : PySem.W.Frag) (mg : Str → Option Value) (base : Heap) (N : List Str) (qual : Str) (scope : Scope) (f : Addr) (cd : Value) (A : Around) (outer : List Env) (s : Shared) (H : Hp) (E : XK) : Cx where
  prog := P
  w := w
  K := K
  mg := mg
  base := base
  A := A.deeper (envOfC qual scope s.heap.objs.size f cd)
  N := N
  s₀ := s
  H₀ := H
  env := envOfC qual scope s.heap.objs.size f cd
  outer := outer
  stack := envOfC qual scope s.heap.objs.size f cd :: outer
  ex := []
  calm := false
  fn := fun _ => true
  pn := []
  xe := fun e s' => wpAny (model P w) (A.deeper (envOfC qual scope s.heap.objs.size f cd)) (leaving (envOfC qual scope s.heap.objs.size f cd) e) (fun _ s'' => CX outer H s E e s'') (fun e' s'' => CX outer H s E e' s'') s'
theorem inv_startH {CX : CXT} {P : Program} {w : World} {K : PySem.W.Frag} {mg : Str → Option Value} {base : Heap} {N ps : List Str} {qual : Str} {scope : Scope} {f : Addr} {cd : Value} {A : Around} {outer : List Env} {s s1 : Shared} {H : Hp} {E : XK} {us : List Value} {vs : List V}
    (S : FnScope N ps scope) (e0 : Env0 P w K mg base A outer s H) (hl : vs.length = ps.length) (r : Vals vs us)
    (x : InCallC s s.heap.objs.size (bindL (envOfC qual scope s.heap.objs.size f cd).kindOf (ps.zip us) fun _ => none) (cellsFrom (s.heap.objs.size + 1) scope.names []) (bindC (envOfC qual scope s.heap.objs.size f cd).kindOf (ps.zip us) fun _ => none) s1) :
    Inv (cxOfH CX P w K mg base N qual scope f cd A outer s H E) [] (start N vs) H s1 := by
  have hpl : ps.length ≤ N.length := by have := congrArg List.length S.pre; rw [List.length_take] at this; omega
  obtain ⟨h1, tk, rfl, hk⟩ := x.done
  have noA : ∀ b : Addr, b ∉ (cxOfH CX P w K mg base N qual scope f cd A outer s H E).ex := fun b z => absurd (show b ∈ ([] : List Addr) from z) (by simp)
  refine ⟨⟨e0.mod, S.kind, rfl, rfl, Nat.le_refl _, fun y z c h1 h2 => ?_, fun y hy => ?_, fun y c _ h => ?_, (fun z => by cases z), Around.frames_deeper e0.frames, .inr ⟨rfl, rfl⟩, fun b z => absurd z (noA b), e0.bs, e0.bsz, fun b _ _ => noA b, fun b z => absurd z (noA b), e0.funs, e0.frf⟩,
    rfl, e0.bare, Un.kept hk, ⟨_, x.toInCall.ns, fun i y v h1 h2 h3 => ?_⟩, fun y c h => ⟨_, x.cell y c h⟩, e0.hok.fresh (Nat.le_refl _), fun y c h => ?_, fun p hp => absurd (show p ∈ ([] : List (Addr × Obj)) from hp) (by simp), e0.hok.kept hk, ?_⟩
  · exact name_of_addr x.apart (PySem.mem_of_lookup h1) (PySem.mem_of_lookup h2)
  · have hy : scope.names.lookup y = some .cell ∨ scope.names.lookup y = some .free := hy
    rcases hy with hy | hy
    · exact cell_has hy
    · exact absurd rfl (S.nofree _ (PySem.mem_of_lookup hy))
  · exact Nat.le_of_lt (x.above y c (PySem.mem_of_lookup h))
  · have hi : i < vs.length := by
      unfold start at h2
      by_cases hi : i < vs.length
      · exact hi
      · rw [List.getElem?_append_right (by simpa using hi)] at h2
        rw [List.getElem?_replicate] at h2
        split at h2 <;> cases h2
    have ha : vs[i]? = some v := by
      unfold start at h2
      rw [List.getElem?_append_left (by simpa using hi), List.getElem?_map] at h2
      cases e : vs[i]? with
      | none => rw [e] at h2; cases h2
      | some a => rw [e] at h2; cases h2; rfl
    obtain ⟨u, hu, rv⟩ := r.get ha
    have hp : ps[i]? = some y := by
      rw [← S.pre, List.getElem?_take_of_lt (by omega)]; exact h1
    have ndP : ps.Nodup := by rw [← S.pre]; exact S.nd.sublist (List.take_sublist _ _)
    refine ⟨u, rv, ?_⟩
    rcases S.par y (List.mem_of_getElem? hp) with k | k
    · exact .inl ⟨k, bindL_get ndP hp hu k⟩
    · obtain ⟨c, e⟩ := cell_has (n := s.heap.objs.size + 1) k
      refine .inr ⟨.inl k, c, e, ?_⟩
      have q := x.cell y c e
      rw [bindC_get ndP hp hu (by show scope.names.lookup y ≠ _; rw [k]; decide)] at q
      exact q
  · exact e0.hok.fresh (Nat.le_of_lt (x.above y c (PySem.mem_of_lookup h)))
  · unfold start
    show _ = N.length
    rw [List.length_append, List.length_map, List.length_replicate]
    omega
theorem fn_ofH {CX : CXT} {P : Program} {w : World} {K : PySem.W.Frag} {mg : Str → Option Value} {base : Heap} {k : Nat} {f : Addr} {name qual : Str} {params : Arguments} {body : List Stmt} {scope : Scope} {dV kV doc pm cdv ct oc : Value} {an od : Option Addr}
    {osl : Array (Option Value)} {N ps : List Str} {sp : Sp} (lk : K.lookup f = some ⟨oc, od, .func (PySem.W.fnOf name qual params body scope dV kV doc pm an cdv ct), osl⟩) (hcd : PySem.W.codeIn K cdv qual = true) (S : FnScope N ps scope)
    (len : ∀ vs H Q E, sp vs H Q E → vs.length = ps.length)
    (hbody : ∀ (A : Around) (outer : List Env) (s : Shared) (H : Hp) (vs : List V) (Q : VK) (E : XK), RoomH k (A.deeper (envOfC qual scope s.heap.objs.size f cdv)) → sp vs H Q E →
      ∃ t, PSs (cxOfH CX P w K mg base N qual scope f cdv A outer s H E) body t ∧ t { nx := fun _ H' => Q .non H', rt := Q } (start N vs) H) :
    FnOkH P w K mg base CX (k + 1) f (PySem.W.fnOf name qual params body scope dV kV doc pm an cdv ct) ps sp := by
  refine ⟨len, fun A outer s H args us vs Q E hr e0 hb r hsp => ?_⟩
  have hl := len _ _ _ _ hsp
  have KX : K.In s.heap := e0.mod.kin.keeps fun b o e => (e0.bs b o e).1
  have lim : s.heap.NoLimit := e0.mod.nolimit.keeps fun b o e => (e0.bs b o e).1
  have hkind : ∀ y ∈ ps.zip us, scope.names.lookup y.1 = some .local ∨ (scope.names.lookup y.1 = some .cell ∧ ((cellsFrom (s.heap.objs.size + 1) scope.names []).lookup y.1).isSome = true) := fun ⟨n, v⟩ hy => by
    rcases S.par n (List.of_mem_zip hy).1 with q | q
    · exact .inl q
    · exact .inr ⟨q, PySem.W.cellsFrom_some _ _ _ (.inl q)⟩
  refine codeAny_call_function hr.depth (KX _ _ lk) rfl S.co S.gen rfl (PySem.W.codeRec_of KX hcd) (hb _ _ _ _ ?_)
  refine wpAny_newFunctionEnv_cells S.kind hkind fun env he s1 x => ?_
  subst he
  refine ⟨lim.keeps x.toInCall.keep, codeAny_func ?_⟩
  obtain ⟨t, ht, hq⟩ := hbody A outer s H vs Q E (hr.deeper _) hsp
  have I : Inv (cxOfH CX P w K mg base N qual scope f cdv A outer s H E) [] (start N vs) H s1 := inv_startH S e0 hl r x
  refine wpAny_mono (ht [] s1 (start N vs) H _ I hq) (fun fl s' hs => ?_) fun e s' hs => hs
  have fin : ∀ {σ' : St} {H' : Hp} {v : V} {u : Value}, Inv (cxOfH CX P w K mg base N qual scope f cdv A outer s H E) [] σ' H' s' → RelV v u → Q v H' → CE outer P w H s Q u s' :=
    fun {σ' H' v u} J rv q => ⟨v, H', J.os, J.bare, J.base, J.hok, rv, q⟩
  cases fl with
  | ret u =>
    obtain ⟨v, σ', H', J, rv, q⟩ := hs
    exact fin J rv q
  | next =>
    obtain ⟨σ', H', J, q⟩ := hs
    exact fin (v := V.non) (u := Value.none) J rfl q
  | brk =>
    obtain ⟨_, _, _, q⟩ := hs
    exact False.elim q
  | cont =>
    obtain ⟨_, _, _, q⟩ := hs
    exact False.elim q
end L2
namespace L2
open PySem PySem.Spec PyProof.Rows
section
variable {X : Cx} {x : Str} {p pos : Pos} {e : Expr} {es : List Expr} {t : TA} {id T : String} {r : List V → Hp → VK → Prop}
def tCB (r : List V → Hp → VK → Prop) (t : TA) : TE := fun σ H Q => t σ H fun vs H1 => r vs H1 Q
theorem pe_callB (hc : CallR X (.builtin id) r) (hg : Gl X x) (hm : X.mg x = none) (hv : bootBuiltins x = some (.builtin id)) (ha : PA X (e :: es) t) (hn : x ≠ "__name__" := by decide) (hdb : (x == ("__debug__" : Str)) = false := by decide)
    (he : starEach (e :: es) X.env = (false, eval e X.env) :: starEach es X.env := by rfl) (hpl : (backTo pos (starEach es X.env)).any (·.1) = false := by rfl) : PE X (.Call (.Name x p) (e :: es) [] pos) (tCB r t) := by
  intro pins s σ H Q I h
  refine wpAny_Call_Name_kw (ld_blt I hg hm hv ?_ hn hdb)
  exact PyProof.Rows.callWith_builtin1 (thn (ha pos pins s σ H _ I h) fun us s1 ⟨vs, H1, I1, r1, q1⟩ => hc pins s1 σ H1 vs us Q I1 r1 q1) he hpl
theorem pe_callTy (hc : CallR X (.type T) r) (hg : Gl X x) (hm : X.mg x = none) (hv : bootBuiltins x = some (.type T)) (ha : PA X (e :: es) t) (hn : x ≠ "__name__" := by decide) (hdb : (x == ("__debug__" : Str)) = false := by decide)
    (he : starEach (e :: es) X.env = (false, eval e X.env) :: starEach es X.env := by rfl) (hpl : (backTo pos (starEach es X.env)).any (·.1) = false := by rfl) : PE X (.Call (.Name x p) (e :: es) [] pos) (tCB r t) := by
  intro pins s σ H Q I h
  refine wpAny_Call_Name_kw (ld_blt I hg hm hv ?_ hn hdb)
  exact PyProof.Rows.callWith_type1 (thn (ha pos pins s σ H _ I h) fun us s1 ⟨vs, H1, I1, r1, q1⟩ => hc pins s1 σ H1 vs us Q I1 r1 q1) he hpl
end
end L2
namespace HT
open PySem PyProof.Rows
section
open PySem.SeqAt
open PySem.AutoSeq1 (wpAny_loadPart')
open PySem.MeetsSeq PySem.MeetsSeq2 PySem.MeetsSeq3
end
section
variable {prog : Program} {w : World} {A : Around} {E : Value → Shared → Prop} {s : Shared}
def sIx (n d : Nat) : Option Int → Nat
  | none => d
  | some v => if v < 0 then (v + (n : Int)).toNat else min v.toNat n
theorem sIx_none (n d : Nat) : sIx n d none = d := rfl
theorem sIx_nat (n d k : Nat) : sIx n d (some (k : Int)) = min k n := by
  show (if (k : Int) < 0 then ((k : Int) + (n : Int)).toNat else min (k : Int).toNat n) = min k n
  rw [if_neg (by omega), Int.toNat_natCast]
end
end HT
namespace L2
open PySem PySem.Spec PyProof.Rows
abbrev TO := St → Hp → (Option Int → Hp → Prop) → Prop
def PO (X : Cx) (e : Option Expr) (t : TO) : Prop :=
  ∀ (pins : List (Addr × Obj)) (s : Shared) (σ : St) (H : Hp) (Q : Option Int → Hp → Prop), Inv X pins σ H s → t σ H Q →
    wpAny (model X.prog X.w) X.A (evalPart e X.env) (fun u s' => ∃ o H', Inv X pins σ H' s' ∧ IsPart u o ∧ Q o H') X.xe s
def tNoPart : TO := fun _ H Q => Q none H
def tPart (t : TE) : TO := fun σ H Q => t σ H fun x H1 => ∃ i, x = .int i ∧ Q (some i) H1
section
variable {X : Cx} {e : Expr} {te : TE} {lo hi : Option Expr} {tl th : TO} {pos p2 : Pos}
theorem po_none : PO X none tNoPart := by
  intro pins s σ H Q I h
  rw [evalPart_none]
  exact wpAny_pure ⟨none, H, I, .none, h⟩
theorem po_some (h : PE X e te) : PO X (some e) (tPart te) := by
  intro pins s σ H Q I hw
  rw [evalPart_some]
  refine thn (h pins s σ H _ I hw) fun u s1 ⟨x, H1, I1, r1, q1⟩ => ?_
  obtain ⟨i, rfl, q⟩ := q1
  obtain ⟨t, rfl⟩ := r1
  exact ⟨some i, H1, I1, .int i t, q⟩
def SlR (X : Cx) (r : V → Option Int → Option Int → Hp → VK → Prop) : Prop :=
  ∀ (pins : List (Addr × Obj)) (s : Shared) (σ : St) (H : Hp) (x : V) (v vl vu : Value) (lo hi : Option Int) (sl : Addr) (Q : VK), Inv X pins σ H s → RelV x v → s.heap.IsSliceOf sl vl vu .none → IsPart vl lo → IsPart vu hi → r x lo hi H Q →
    ∃ T id, typeLookup (.type T) "__getitem__" = pure (some (.builtin id)) ∧ s.TypeIs v T ∧ wpAny (model X.prog X.w) X.A (getItem v (.ref sl)) (EP X pins σ Q) X.xe s
theorem SlR.or {r r' : V → Option Int → Option Int → Hp → VK → Prop} (h : SlR X r) (h' : SlR X r') : SlR X (fun x lo hi H Q => r x lo hi H Q ∨ r' x lo hi H Q) := by
  intro pins s σ H x v vl vu lo hi sl Q I rx hs pl pu q
  rcases q with q | q
  · exact h pins s σ H x v vl vu lo hi sl Q I rx hs pl pu q
  · exact h' pins s σ H x v vl vu lo hi sl Q I rx hs pl pu q
def tSl (r : V → Option Int → Option Int → Hp → VK → Prop) (te : TE) (tl th : TO) : TE := fun σ H Q => te σ H fun x H1 => tl σ H1 fun l H2 => th σ H2 fun u H3 => r x l u H3 Q
theorem pe_slice {r : V → Option Int → Option Int → Hp → VK → Prop} (hr : SlR X r) (he : PE X e te) (hl : PO X lo tl) (hu : PO X hi th) : PE X (.Subscript e (.Slice lo hi none p2) pos) (tSl r te tl th) := by
  intro pins s σ H Q I h
  refine Subscript_ (thn (he pins s σ H _ I h) fun v s1 ⟨x, H1, I1, r1, q1⟩ => ?_)
  refine wpAny_Slice (thn (hl pins s1 σ H1 _ I1 q1) fun vl s2 ⟨l, H2, I2, pl, q2⟩ => thn (hu pins s2 σ H2 _ I2 q2) fun vu s3 ⟨u, H3, I3, pu, q3⟩ => ?_)
  rw [evalPart_none]
  refine wpAny_pure ?_
  have I4 : Inv X pins σ H3 { s3 with heap := s3.heap.push { cls := .type "slice", data := .fields #[vl, vu, .none] } } := I3.kept (t' := s3.toks) fun b ob q => Heap.get?_push_of_some _ q
  obtain ⟨T, id, hT, ht, hg⟩ := hr pins { s3 with heap := s3.heap.push { cls := .type "slice", data := .fields #[vl, vu, .none] } } σ H3 x v vl vu l u s3.heap.objs.size Q I4 r1 (Heap.IsSliceOf.new ..) pl pu q3
  show wpAny (model X.prog X.w) X.A (subscriptTail e (.Slice lo hi none p2) v (.ref s3.heap.objs.size)) (EP X pins σ Q) X.xe { s3 with heap := s3.heap.push { cls := .type "slice", data := .fields #[vl, vu, .none] } }
  exact tail_any (ops := [.ref s3.heap.objs.size, v]) ht hT hg (by with_unfolding_all rfl)
def cutV (xs : List V) (lo hi : Option Int) : List V := (xs.drop (HT.sIx xs.length 0 lo)).take (HT.sIx xs.length xs.length hi - HT.sIx xs.length 0 lo)
theorem cutV_length (xs : List V) (lo hi : Option Int) : (cutV xs lo hi).length ≤ xs.length := by
  unfold cutV
  rw [List.length_take, List.length_drop]
  omega
end
end L2
namespace L2
open PySem PySem.Spec PyProof.Rows
def ixN (n : Nat) (i : Int) : Option Nat := if 0 ≤ i then (if i < n then some i.toNat else none) else if -(n : Int) ≤ i then some (i + n).toNat else none
def atI {α : Type} (xs : List α) (i : Int) : Option α := (ixN xs.length i).bind fun j => xs[j]?
theorem ixN_seq {n : Nat} {i : Int} {j : Nat} (h : ixN n i = some j) : seqIndex? i n = some j ∧ j < n ∧ -(n : Int) ≤ i ∧ i < n := by
  unfold ixN at h
  by_cases h0 : 0 ≤ i
  · rw [if_pos h0] at h
    by_cases h1 : i < n
    · rw [if_pos h1] at h
      have e : i.toNat = j := Option.some.inj h
      exact ⟨by rw [seqIndex_of h0 h1, e], by omega, by omega, h1⟩
    · rw [if_neg h1] at h; cases h
  · rw [if_neg h0] at h
    by_cases h1 : -(n : Int) ≤ i
    · rw [if_pos h1] at h
      have e : (i + n).toNat = j := Option.some.inj h
      exact ⟨by rw [seqIndex_neg (by omega) h1, e], by omega, h1, by omega⟩
    · rw [if_neg h1] at h; cases h
theorem atI_get {α : Type} {xs : List α} {i : Int} {v : α} (h : atI xs i = some v) : ∃ j, seqIndex? i xs.length = some j ∧ xs[j]? = some v ∧ j < xs.length ∧ -(xs.length : Int) ≤ i ∧ i < xs.length := by
  unfold atI at h
  cases e : ixN xs.length i with
  | none => rw [e] at h; cases h
  | some j =>
    rw [e] at h
    obtain ⟨h1, h2, h3, h4⟩ := ixN_seq e
    exact ⟨j, h1, h, h2, h3, h4⟩
theorem atI_nat {α : Type} {xs : List α} {j : Nat} {v : α} (h : xs[j]? = some v) : atI xs (j : Int) = some v := by
  have hj : j < xs.length := (List.getElem?_eq_some_iff.mp h).1
  have e : ixN xs.length (j : Int) = some j := by
    unfold ixN
    rw [if_pos (by omega), if_pos (by omega)]; simp
  unfold atI; rw [e]; exact h
theorem atI_last {α : Type} (xs : List α) (v : α) : atI (xs ++ [v]) (-1) = some v := by
  have hl : (xs ++ [v]).length = xs.length + 1 := by simp
  have e : ixN (xs ++ [v]).length (-1) = some xs.length := by
    unfold ixN
    rw [hl, if_neg (by decide), if_pos (by omega)]
    congr 1
    omega
  unfold atI
  rw [e]
  show (xs ++ [v])[xs.length]? = some v
  simp
def PlainIx (b : Expr) : Prop := ∀ o i, subscripted b false o i = operate [o, i] (getItem o i)
def IxR (X : Cx) (r : R2) : Prop :=
  ∀ (value slice : Expr) (pins : List (Addr × Obj)) (s : Shared) (σ : St) (H : Hp) (x y : V) (v u : Value) (Q : VK), Inv X pins σ H s → RelV x v → RelV y u → r x y H Q →
    subscripted slice false v u = operate [v, u] (getItem v u) → wpAny (model X.prog X.w) X.A (subscriptTail value slice v u) (EP X pins σ Q) X.xe s
def MtR (X : Cx) (id : String) (r : V → List V → Hp → VK → Prop) : Prop :=
  ∀ (pins : List (Addr × Obj)) (s : Shared) (σ : St) (H : Hp) (x : V) (xs : List V) (v : Value) (us : List Value) (Q : VK), Inv X pins σ H s → RelV x v → Vals xs us → r x xs H Q →
    wpAny (model X.prog X.w) X.A (call (.builtin id) (v :: us)) (EP X pins σ Q) X.xe s
section
variable {X : Cx} {a b : Expr} {ta tb : TE} {pos : Pos}
theorem IxR.or {r r' : R2} (h : IxR X r) (h' : IxR X r') : IxR X (fun x y H Q => r x y H Q ∨ r' x y H Q) := by
  intro value slice pins s σ H x y v u Q I rx ry q hs
  rcases q with q | q
  · exact h value slice pins s σ H x y v u Q I rx ry q hs
  · exact h' value slice pins s σ H x y v u Q I rx ry q hs
theorem MtR.or {id : String} {r r' : V → List V → Hp → VK → Prop} (h : MtR X id r) (h' : MtR X id r') : MtR X id (fun x xs H Q => r x xs H Q ∨ r' x xs H Q) := by
  intro pins s σ H x xs v us Q I rx rs q
  rcases q with q | q
  · exact h pins s σ H x xs v us Q I rx rs q
  · exact h' pins s σ H x xs v us Q I rx rs q
theorem pe_ix {r : R2} (hr : IxR X r) (ha : PE X a ta) (hb : PE X b tb) (hs : PlainIx b) : PE X (.Subscript a b pos) (tOp r ta tb) := by
  intro pins s σ H Q I h
  exact Subscript_ (binT ha hb I h fun v u s2 x y H2 I2 rx ry q => hr a b pins s2 σ H2 x y v u Q I2 rx ry q (hs _ _))
def rIxL (K : PySem.W.Frag) : R2 := fun x y H Q => ∃ p xs i v, x = .ref p ∧ y = .int i ∧ SqL K H p xs ∧ atI xs i = some v ∧ Q v H
def rIxT (K : PySem.W.Frag) : R2 := fun x y H Q => ∃ p xs i v, x = .ref p ∧ y = .int i ∧ SqT K H p xs ∧ atI xs i = some v ∧ Q v H
def rIxS : R2 := fun x y H Q => ∃ z i c, x = .str z ∧ y = .int i ∧ z.length ≤ sizeLine ∧ atI z.cps.toList i = some c ∧ Q (.str ⟨#[c]⟩) H
theorem ix_list : IxR X (rIxL X.K) := by
  intro value slice pins s σ H x y v u Q I rx ry h hs
  obtain ⟨p, xs, i, z, rfl, rfl, hq, he, q⟩ := h
  cases rx
  obtain ⟨t, rfl⟩ := ry
  obtain ⟨its, r, pl, hz⟩ := I.list hq
  obtain ⟨j, h1, h2, h3, h4, h5⟩ := atI_get he
  obtain ⟨w, ew, rw'⟩ := r.get h2
  have hl := r.length
  have hn := line63
  have fin : EP X pins σ Q w s := ⟨z, H, I, rw', q⟩
  by_cases h0 : 0 ≤ i
  · have hj : i.toNat = j := by
      rw [seqIndex_of h0 h5] at h1
      exact Option.some.inj h1
    exact item_listR pl.isList h0 (by omega) (by rw [hj]; simpa using ew) fin hs
  · have hj : (i + (its.toArray.size : Int)).toNat = j := by
      rw [seqIndex_neg (by omega) h4] at h1
      rw [List.size_toArray, ← hl]
      exact Option.some.inj h1
    exact subscriptTail_builtinR (x := w) pl.isList.typeIs slot_list_getitem.lookup
      (wpAny_getItem_list_neg (Q := fun r s' => r = w ∧ EP X pins σ Q r s') pl.isList (by omega) (by rw [List.size_toArray] <;> omega) (by omega) (by rw [hj]; simpa using ew) ⟨rfl, fin⟩) hs
theorem ix_tup : IxR X (rIxT X.K) := by
  intro value slice pins s σ H x y v u Q I rx ry h hs
  obtain ⟨p, xs, i, z, rfl, rfl, hq, he, q⟩ := h
  cases rx
  obtain ⟨t, rfl⟩ := ry
  obtain ⟨its, r, pl, hz⟩ := I.tuple hq
  obtain ⟨j, h1, h2, h3, h4, h5⟩ := atI_get he
  obtain ⟨w, ew, rw'⟩ := r.get h2
  have hl := r.length
  have hn := line63
  have fin : EP X pins σ Q w s := ⟨z, H, I, rw', q⟩
  exact subscriptTail_builtinR (x := w) pl.typeIs slot_tuple_getitem.lookup
    (getItem_tuple (j := j) (Q := fun r s' => r = w ∧ EP X pins σ Q r s') pl (by omega) (by omega) (by rw [List.size_toArray, ← hl]; exact h1) (by simpa using ew) ⟨rfl, fin⟩) hs
theorem ix_str : IxR X rIxS := by
  intro value slice pins s σ H x y v u Q I rx ry h hs
  obtain ⟨z, i, c, rfl, rfl, hz, he, q⟩ := h
  obtain ⟨t, rfl⟩ := rx
  obtain ⟨t', rfl⟩ := ry
  obtain ⟨j, h1, h2, h3, h4, h5⟩ := atI_get he
  have hl : z.cps.toList.length = z.length := by simp [Str.length]
  rw [hl] at h1 h4 h5
  have hn := line63
  exact tail_any (typeIs_str s z t) slot_str_getitem.lookup (getItem_str (c := c) (by
    have e1 : decide (i < -(2 ^ 63 : Int)) = false := decide_eq_false (by omega)
    have e2 : decide (i ≥ 2 ^ 63) = false := decide_eq_false (by omega)
    rw [e1, e2, Bool.or_false]) (by rw [h1]; simpa using h2) ⟨.str ⟨#[c]⟩, H, I.tok _, ⟨_, rfl⟩, q⟩) hs
def rIx (K : PySem.W.Frag) : R2 := fun x y H Q => rIxL K x y H Q ∨ rIxT K x y H Q ∨ rIxS x y H Q
theorem ix_seq : IxR X (rIx X.K) := ix_list.or (ix_tup.or ix_str)
theorem mapSeq_set (its : List Value) (n j : Nat) (u : Value) : Obj.mapSeq (·.setIfInBounds j u) { cls := .type "list", data := .seq its.toArray n } = { cls := .type "list", data := .seq (its.set j u).toArray n } := by
  simp [Obj.mapSeq]
theorem Inv.lst {pins : List (Addr × Obj)} {σ : St} {H : Hp} {s : Shared} {p : Addr} {xs : List V} (I : Inv X pins σ H s) (h : H p = some (.lst xs)) :
    ∃ (its : List Value) (n : Nat), Vals xs its ∧ s.heap.get? p = some { cls := .type "list", data := .seq its.toArray n } ∧ xs.length ≤ sizeLine := by
  obtain ⟨z, its, n, r, e⟩ := I.hok p _ h
  exact ⟨its, n, r, e, z⟩
theorem Inv.lstUpd {pins : List (Addr × Obj)} {σ : St} {H : Hp} {s : Shared} {p : Addr} {xs ys : List V} {its its' : List Value} {n n' : Nat} {f : Obj → Obj} (I : Inv X pins σ H s) (h : H p = some (.lst xs))
    (ho : s.heap.get? p = some { cls := .type "list", data := .seq its.toArray n }) (hf : f { cls := .type "list", data := .seq its.toArray n } = { cls := .type "list", data := .seq its'.toArray n' }) (r : Vals ys its') (hz : ys.length ≤ sizeLine) (t : Nat) :
    Inv X pins σ (upd H p (.lst ys)) { s with heap := s.heap.update p f, toks := t } := by
  have e : (s.heap.update p f).get? p = some { cls := .type "list", data := .seq its'.toArray n' } := by
    rw [Heap.get?_update_self f ho (by rw [hf] <;> rfl), hf]
  refine I.write (x := p) (e := p) (by rw [h]; trivial) (.inl rfl) (fun b u hb q => (Heap.get?_update_other _ _ (Ne.symm hb)).trans q) ⟨_, e⟩ ?_
  exact ⟨hz, its', n', r, e⟩
def rSetL : V → V → V → Hp → (Hp → Prop) → Prop := fun o i v H Q => ∃ p xs k j, o = .ref p ∧ i = .int k ∧ H p = some (.lst xs) ∧ ixN xs.length k = some j ∧ Q (upd H p (.lst (xs.set j v)))
theorem set_list : PSet X rSetL := by
  intro pins s σ H o i v ov iv u Q I ro ri rv h
  obtain ⟨p, xs, k, j, rfl, rfl, hp, hj, q⟩ := h
  cases ro
  obtain ⟨t, rfl⟩ := ri
  obtain ⟨its, n, r, ho, hz⟩ := I.lst hp
  obtain ⟨h1, h2, h3, h4⟩ := ixN_seq hj
  have hl := r.length
  have hn := line63
  have I' : Inv X pins σ (upd H p (.lst (xs.set j v))) { s with heap := s.heap.update p (Obj.mapSeq (·.setIfInBounds j u)) } :=
    I.lstUpd hp ho (mapSeq_set its n j u) (r.set rv j) (by rw [List.length_set]; exact hz) s.toks
  by_cases h0 : 0 ≤ k
  · have hk : k.toNat = j := by
      rw [seqIndex_of h0 h4] at h1
      exact Option.some.inj h1
    exact PySem.W.ki_setAt ho h0 (by omega) (by rw [List.size_toArray, ← hl]; exact h4) (by rw [hk]; exact ⟨_, I', q⟩)
  · have hk : (k + (its.toArray.size : Int)).toNat = j := by
      rw [seqIndex_neg (by omega) h3] at h1
      rw [List.size_toArray, ← hl]
      exact Option.some.inj h1
    exact PySem.W.ki_setBack ho (by omega) (by rw [List.size_toArray, ← hl]; exact h3) (by omega) (by rw [hk]; exact ⟨_, I', q⟩)
theorem slice_bounds (lo hi : Option Int) (n : Nat) : (sliceBounds lo hi none n).1 = ((HT.sIx n 0 lo : Nat) : Int) ∧ (sliceBounds lo hi none n).2.1 = ((HT.sIx n n hi : Nat) : Int) ∧ (sliceBounds lo hi none n).2.2 = 1 := by
  refine ⟨?_, ?_, rfl⟩
  · cases lo with
    | none => simp [sliceBounds, HT.sIx]
    | some i =>
      simp only [sliceBounds, HT.sIx, Option.getD_none, show (1 : Int) > 0 by decide, if_true]
      by_cases h : i < 0
      · simp only [h, if_true] <;> omega
      · simp only [h, if_false] <;> omega
  · cases hi with
    | none => simp [sliceBounds, HT.sIx]
    | some i =>
      simp only [sliceBounds, HT.sIx, Option.getD_none, show (1 : Int) > 0 by decide, if_true]
      by_cases h : i < 0
      · simp only [h, if_true] <;> omega
      · simp only [h, if_false] <;> omega
theorem slicePick_cut (its : List Value) (lo hi : Option Int) : slicePick its.toArray lo hi none = ((its.drop (HT.sIx its.length 0 lo)).take (HT.sIx its.length its.length hi - HT.sIx its.length 0 lo)).toArray := by
  obtain ⟨h1, h2, h3⟩ := slice_bounds lo hi its.toArray.size
  unfold slicePick
  rw [h1, h2, h3]
  simp only [sliceRange_one, pick_run, List.size_toArray] <;> rfl
def rSlL (K : PySem.W.Frag) : V → Option Int → Option Int → Hp → VK → Prop := fun x lo hi H Q => ∃ a xs, x = .ref a ∧ SqL K H a xs ∧ ∀ p, H p = none → Q (.ref p) (upd H p (.lst (cutV xs lo hi)))
theorem sl_list : SlR X (rSlL X.K) := by
  intro pins s σ H x v vl vu lo hi sl Q I rx hs pl pu h
  obtain ⟨a, xs, rfl, hx, q⟩ := h
  cases rx
  obtain ⟨its, r, ht, hz⟩ := I.list hx
  have hlen := r.length
  refine ⟨"list", _, slot_list_getitem.lookup, ht.isList.typeIs, ?_⟩
  refine wpAny_getItem_list_slice ht.isList hs pl pu .none (by simp) ?_ (by rw [List.size_toArray] <;> omega)
  rw [slicePick_cut, ← hlen]
  refine ⟨.ref s.heap.objs.size, _, I.laid (t' := s.toks) (o := .lst (cutV xs lo hi)) (fun b ob q => Heap.get?_push_of_some _ q) (Nat.le_refl _) ?_, rfl, q _ (I.hok.fresh (Nat.le_refl _))⟩
  exact ⟨Nat.le_trans (cutV_length xs lo hi) hz, _, 0, (r.drop (HT.sIx xs.length 0 lo)).take (HT.sIx xs.length xs.length hi - HT.sIx xs.length 0 lo), Heap.get?_push_size _ rfl⟩
def flatV : V → Bool
  | .non => true
  | .bl _ => true
  | .int _ => true
  | .str _ => true
  | _ => false
def eqV : V → V → Bool
  | .non, .non => true
  | .bl a, .bl b => a == b
  | .bl a, .int b => (if a then 1 else 0) == b
  | .int a, .bl b => a == (if b then 1 else 0)
  | .int a, .int b => a == b
  | .str a, .str b => a == b
  | _, _ => false
theorem eqAt_V {A : Around} {s : Shared} {y x : V} {u v : Value} (ry : RelV y u) (rx : RelV x v) (fy : flatV y = true) (fx : flatV x = true) : SeqAt.EqAt A s u v (eqV y x) := by
  cases y with
  | non =>
    cases ry
    cases x with
    | non => cases rx; exact SeqAt.EqAt.same _
    | bl b => cases rx; exact SeqAt.EqAt.none_bool b
    | int b => obtain ⟨t, rfl⟩ := rx; exact SeqAt.EqAt.none_int b t
    | str b => obtain ⟨t, rfl⟩ := rx; exact SeqAt.EqAt.none_str b t
    | _ => exact absurd (show false = true from fx) Bool.false_ne_true
  | bl a =>
    cases ry
    cases x with
    | non => cases rx; exact SeqAt.EqAt.bool_none a
    | bl b => cases rx; exact SeqAt.EqAt.bool_bool a b
    | int b => obtain ⟨t, rfl⟩ := rx; exact SeqAt.EqAt.bool_int a b t
    | str b => obtain ⟨t, rfl⟩ := rx; exact SeqAt.EqAt.bool_str a b t
    | _ => exact absurd (show false = true from fx) Bool.false_ne_true
  | int a =>
    obtain ⟨t', rfl⟩ := ry
    cases x with
    | non => cases rx; exact SeqAt.EqAt.int_none a t'
    | bl b => cases rx; exact SeqAt.EqAt.int_bool a t' b
    | int b => obtain ⟨t, rfl⟩ := rx; exact SeqAt.EqAt.int_int a t' b t
    | str b => obtain ⟨t, rfl⟩ := rx; exact SeqAt.EqAt.int_str a t' b t
    | _ => exact absurd (show false = true from fx) Bool.false_ne_true
  | str a =>
    obtain ⟨t', rfl⟩ := ry
    cases x with
    | non => cases rx; exact SeqAt.EqAt.str_none a t'
    | bl b => cases rx; exact SeqAt.EqAt.str_bool a t' b
    | int b => obtain ⟨t, rfl⟩ := rx; exact SeqAt.EqAt.str_int a t' b t
    | str b => obtain ⟨t, rfl⟩ := rx; exact SeqAt.EqAt.str_str a t' b t
    | _ => exact absurd (show false = true from fx) Bool.false_ne_true
  | _ => exact absurd (show false = true from fy) Bool.false_ne_true
def eqU (x : V) (u : Value) : Bool := match u with
  | .none => eqV .non x
  | .bool b => eqV (.bl b) x
  | .int i _ => eqV (.int i) x
  | .str z _ => eqV (.str z) x
  | _ => false
theorem eqU_of {x y : V} {u : Value} (r : RelV y u) (f : flatV y = true) : eqU x u = eqV y x := by
  cases y with
  | non => cases r; rfl
  | bl b => cases r; rfl
  | int i => obtain ⟨t, rfl⟩ := r; rfl
  | str z => obtain ⟨t, rfl⟩ := r; rfl
  | _ => exact absurd (show false = true from f) Bool.false_ne_true
theorem any_eqU {x : V} : ∀ {xs : List V} {us : List Value}, Vals xs us → xs.all flatV = true → us.any (eqU x) = xs.any fun y => eqV y x
  | _, _, .nil, _ => rfl
  | y :: xs, u :: us, .cons r t, f => by
    rw [List.all_cons, Bool.and_eq_true] at f
    rw [List.any_cons, List.any_cons, eqU_of r f.1, any_eqU t f.2]
theorem mem_eqAt {A : Around} {s : Shared} {x : V} {v : Value} (rx : RelV x v) (fx : flatV x = true) : ∀ {xs : List V} {us : List Value}, Vals xs us → xs.all flatV = true → ∀ u ∈ us, SeqAt.EqAt A s u v (eqU x u)
  | _, _, .nil, _ => fun u hu => by cases hu
  | y :: xs, u :: us, .cons r t, f => fun u' hu => by
    rw [List.all_cons, Bool.and_eq_true] at f
    rcases List.mem_cons.mp hu with rfl | hu
    · rw [eqU_of r f.1]; exact eqAt_V r rx f.1 fx
    · exact mem_eqAt rx fx t f.2 u' hu
def inV (x : V) (xs : List V) : Bool := xs.any fun y => eqV y x
def rIn (K : PySem.W.Frag) (neg : Bool) : R2 := fun x y H Q => ∃ p xs, y = .ref p ∧ (SqL K H p xs ∨ SqT K H p xs) ∧ flatV x = true ∧ xs.all flatV = true ∧ Q (.bl (if neg then !inV x xs else inV x xs)) H
theorem op_in_seq : OpR X (compareOp .In) (rIn X.K false) := by
  intro pins s σ H x y v u Q I rx ry h
  obtain ⟨p, xs, rfl, hq, fx, fs, q⟩ := h
  cases ry
  rcases hq with hq | hq
  · obtain ⟨its, r, pl, hz⟩ := I.list hq
    refine SeqAt.in_listAt (eqU x) pl.isList (fun w hw => mem_eqAt rx fx r fs w (by simpa using hw)) ⟨.bl _, H, I, rfl, ?_⟩
    rw [show its.toArray.any (eqU x) = its.any (eqU x) by simp, any_eqU r fs]
    exact q
  · obtain ⟨its, r, pl, hz⟩ := I.tuple hq
    refine SeqAt.in_tupleAt (eqU x) pl (fun w hw => mem_eqAt rx fx r fs w (by simpa using hw)) ⟨.bl _, H, I, rfl, ?_⟩
    rw [show its.toArray.any (eqU x) = its.any (eqU x) by simp, any_eqU r fs]
    exact q
theorem op_notIn_seq : OpR X (compareOp .NotIn) (rIn X.K true) := by
  intro pins s σ H x y v u Q I rx ry h
  obtain ⟨p, xs, rfl, hq, fx, fs, q⟩ := h
  cases ry
  rcases hq with hq | hq
  · obtain ⟨its, r, pl, hz⟩ := I.list hq
    refine SeqAt.notIn_listAt (eqU x) pl.isList (fun w hw => mem_eqAt rx fx r fs w (by simpa using hw)) ⟨.bl _, H, I, rfl, ?_⟩
    rw [show its.toArray.any (eqU x) = its.any (eqU x) by simp, any_eqU r fs]
    exact q
  · obtain ⟨its, r, pl, hz⟩ := I.tuple hq
    refine SeqAt.notIn_tupleAt (eqU x) pl (fun w hw => mem_eqAt rx fx r fs w (by simpa using hw)) ⟨.bl _, H, I, rfl, ?_⟩
    rw [show its.toArray.any (eqU x) = its.any (eqU x) by simp, any_eqU r fs]
    exact q
theorem call_len_seq : CallR X (.builtin "len") (fun xs H Q => ∃ p ys, xs = [.ref p] ∧ (SqL X.K H p ys ∨ SqT X.K H p ys) ∧ Q (.int ys.length) H) := by
  intro pins s σ H xs us Q I r h
  obtain ⟨p, ys, rfl, hq, q⟩ := h
  obtain ⟨u, rfl, rx⟩ := vals1 r
  cases rx
  have hn := line63
  rcases hq with hq | hq
  · obtain ⟨its, r', pl, hz⟩ := I.list hq
    have hlen := r'.length
    exact Calls.call_len_list pl.isList (by simp only [List.size_toArray] <;> omega) ⟨.int ys.length, H, I.tok _, ⟨s.toks + 1, by rw [List.size_toArray, hlen]⟩, q⟩
  · obtain ⟨its, r', pl, hz⟩ := I.tuple hq
    have hlen := r'.length
    exact len_tuple pl (by simp only [List.size_toArray] <;> omega) ⟨.int ys.length, H, I.tok _, ⟨s.toks + 1, by rw [List.size_toArray, hlen]⟩, q⟩
theorem CallR.or {f : Value} {r r' : List V → Hp → VK → Prop} (h : CallR X f r) (h' : CallR X f r') : CallR X f (fun xs H Q => r xs H Q ∨ r' xs H Q) := by
  intro pins s σ H xs us Q I rs q
  rcases q with q | q
  · exact h pins s σ H xs us Q I rs q
  · exact h' pins s σ H xs us Q I rs q
def tyV (K : PySem.W.Frag) (T : String) (x : V) (H : Hp) : Prop := match x with
  | .str _ => T = "str"
  | .int _ => T = "int"
  | .ref p => (T = "list" ∧ ∃ xs, SqL K H p xs) ∨ (T = "tuple" ∧ ∃ o, K.lookup p = some o ∧ o.cls = .type "tuple" ∧ o.dict = none) ∨
      (T = "dict" ∧ ((∃ kvs, H p = some (.dK kvs)) ∨ ∃ kvs, H p = some (.dT kvs))) ∨ (T = "set" ∧ ∃ S n, H p = some (.set S n))
  | _ => False
theorem tyV_is {pins : List (Addr × Obj)} {σ : St} {H : Hp} {s : Shared} {T : String} {x : V} {v : Value} (I : Inv X pins σ H s) (r : RelV x v) (ty : tyV X.K T x H) :
    s.TypeIs v T ∧ ∀ a, v = .ref a → ∃ ob, s.heap.get? a = some ob ∧ ob.dict = none := by
  cases x with
  | str z =>
    obtain ⟨t, rfl⟩ := r
    cases (show T = "str" from ty)
    exact ⟨typeIs_str s z t, fun _ e => nomatch e⟩
  | int i =>
    obtain ⟨t, rfl⟩ := r
    cases (show T = "int" from ty)
    exact ⟨typeIs_int s i t, fun _ e => nomatch e⟩
  | ref p =>
    cases r
    rcases ty with ⟨rfl, xs, hq⟩ | ⟨rfl, o, hk, hc, hd⟩ | ⟨rfl, hk⟩ | ⟨rfl, S, n, hk⟩
    · obtain ⟨its, _, pl, _⟩ := I.list hq
      refine ⟨pl.isList.typeIs, fun a e => ?_⟩
      cases e
      obtain ⟨o, n, e, c, hd, _⟩ := pl
      exact ⟨o, e, hd⟩
    · refine ⟨⟨o, I.kIn p o hk, hc⟩, fun a e => ?_⟩
      cases e
      exact ⟨o, I.kIn _ o hk, hd⟩
    · have z : ∃ o, s.heap.get? p = some o ∧ o.ExactDict := by
        rcases hk with ⟨kvs, hk⟩ | ⟨kvs, hk⟩
        · obtain ⟨_, _, _, _, o, _, _, e, ex, _⟩ := I.hok p _ hk
          exact ⟨o, e, ex⟩
        · obtain ⟨_, _, _, _, o, _, _, e, ex, _⟩ := I.hok p _ hk
          exact ⟨o, e, ex⟩
      obtain ⟨o, e, ex⟩ := z
      refine ⟨⟨o, e, ex.1⟩, fun a e2 => ?_⟩
      cases e2
      exact ⟨o, e, ex.2.1⟩
    · obtain ⟨o, _, _, _, e, ex, _⟩ := I.hok p _ hk
      refine ⟨⟨o, e, ex.1⟩, fun a e2 => ?_⟩
      cases e2
      exact ⟨o, e, ex.2.1⟩
  | _ => exact False.elim ty
def tBM (K : PySem.W.Frag) (T : String) (r : V → List V → Hp → VK → Prop) (to : TE) (t : TA) : TE := fun σ H Q => to σ H fun x H1 => tyV K T x H1 ∧ t σ H1 fun xs H2 => r x xs H2 Q
variable {o e : Expr} {es : List Expr} {to : TE} {t : TA} {name : Str} {apos cpos : Pos} {T id : String} {r : V → List V → Hp → VK → Prop}
theorem pe_bm (pa : PlainAttrs T) (slot : Slot T name id) (hty : typeOf (.builtin id) = pure (.type "method_descriptor")) (hm : MtR X id r) (ho : PE X o to) (ha : PA X (e :: es) t)
    (hbase : attributeBase o name X.env (eval o X.env) = eval o X.env := by rfl)
    (hfew : ((backTo cpos (starEach (e :: es) X.env)).all (fun x => !x.1) && (backToKw cpos (keywordEach [] X.env)).all (fun x => x.1.isSome)
      && decide ((e :: es).length + ([] : List Keyword).length + (if ([] : List Keyword).isEmpty then 0 else 1) < 30)) = true := by rfl)
    (hline : (apos.endLine == cpos.line) = true := by rfl) (hs : starEach (e :: es) X.env = (false, eval e X.env) :: starEach es X.env := by rfl) (hplain : (backTo cpos (starEach es X.env)).any (·.1) = false := by rfl) :
    PE X (.Call (.Attribute o name apos) (e :: es) [] cpos) (tBM X.K T r to t) := by
  intro pins s σ H Q I h
  refine wpAny_Call_method_late hbase hfew hline rfl (thn (ho pins s σ H _ I h) fun v s1 ⟨x, H1, I1, r1, ty, q1⟩ => ?_)
  obtain ⟨h1, h2⟩ := tyV_is I1 r1 ty
  refine ⟨T, id, pa, slot, hty, h1, h2, ?_⟩
  have hA := ha cpos pins s1 σ H1 _ I1 q1
  rw [hs] at hA ⊢
  refine Calls.callWith_builtin (by show (false || (backTo cpos (starEach es X.env)).any (·.1)) = false; rw [hplain] <;> rfl) (Calls.evalArgs_plain ?_)
  exact thn hA fun us s2 ⟨vs, H2, I2, r2, q2⟩ => hm pins s2 σ H2 x vs v us Q I2 r1 r2 q2
end
end L2
namespace L2
open PySem PySem.Spec PyProof.Rows
def MtM (X : Cx) (id : String) (r : V → List V → Hp → VK → Prop) : Prop :=
  ∀ (pins : List (Addr × Obj)) (s : Shared) (σ : St) (H : Hp) (x : V) (xs : List V) (v : Value) (us : List Value) (Q : VK), Inv X pins σ H s → RelV x v → Vals xs us → r x xs H Q →
    wpAny (model X.prog X.w) X.A (call (.builtin id) (v :: us)) (EP X pins σ Q) X.xe s
theorem Vals.one : ∀ {x : V} {us : List Value}, Vals [x] us → ∃ u, us = [u] ∧ RelV x u
  | _, _, .cons r .nil => ⟨_, rfl, r⟩
theorem Vals.zero : ∀ {us : List Value}, Vals [] us → us = []
  | _, .nil => rfl
theorem Vals.dropLast {xs : List V} {us : List Value} (h : Vals xs us) : Vals xs.dropLast us.dropLast := by
  induction h with
  | nil => exact .nil
  | cons r t ih =>
    cases t with
    | nil => exact .nil
    | cons q t' => exact .cons r ih
theorem Vals.reverse {xs : List V} {us : List Value} (h : Vals xs us) : Vals xs.reverse us.reverse := by
  induction h with
  | nil => exact .nil
  | cons r t ih => rw [List.reverse_cons, List.reverse_cons]; exact Vals.append ih (.cons r .nil)
theorem Vals.rep {xs : List V} {us : List Value} (h : Vals xs us) : ∀ k : Nat, Vals (List.replicate k xs).flatten (List.replicate k us).flatten
  | 0 => .nil
  | k + 1 => by
    rw [List.replicate_succ, List.replicate_succ, List.flatten_cons, List.flatten_cons]
    exact Vals.append h (Vals.rep h k)
theorem foldl_rep (its : List Value) : ∀ (k : Nat) (acc : List Value),
    List.foldl (fun x1 x2 => x1 ++ x2) acc.toArray (List.replicate k its.toArray) = (acc ++ (List.replicate k its).flatten).toArray
  | 0, acc => by simp
  | k + 1, acc => by
    have e : acc.toArray ++ its.toArray = (acc ++ its).toArray := by simp
    have e2 : (acc ++ its) ++ (List.replicate k its).flatten = acc ++ (List.replicate (k + 1) its).flatten := by
      rw [List.replicate_succ, List.flatten_cons, List.append_assoc]
    rw [← e2, ← foldl_rep its k (acc ++ its), ← e, List.replicate_succ, List.foldl_cons]
section
variable {X : Cx} {pins : List (Addr × Obj)} {σ : St} {H : Hp} {s : Shared} {l b : Addr} {xs ys zs : List V}
theorem Inv.lset {its its' : List Value} {n : Nat} {f : Array Value → Array Value} {t' : Nat} (I : Inv X pins σ H s) (hH : H l = some (.lst xs))
    (e : s.heap.get? l = some { cls := .type "list", data := .seq its.toArray n }) (hf : f its.toArray = its'.toArray) (hv : Vals ys its') (hz : ys.length ≤ sizeLine) :
    Inv X pins σ (upd H l (.lst ys)) { s with heap := s.heap.update l (Obj.mapSeq f), toks := t' } := by
  have q := PySem.IsL.update e f
  rw [hf] at q
  refine I.write (x := l) (e := l) (by rw [hH]; exact trivial) (.inl rfl) (fun b' u hb hu => (Heap.get?_update_other s.heap (Obj.mapSeq f) (Ne.symm hb)).trans hu) ⟨_, q⟩ ?_
  exact ⟨hz, its', _, hv, q⟩
theorem Inv.lnew {its : List Value} {t' : Nat} (I : Inv X pins σ H s) (hv : Vals ys its) (hz : ys.length ≤ sizeLine) :
    Inv X pins σ (upd H s.heap.objs.size (.lst ys)) { s with heap := s.heap.push { cls := .type "list", data := .seq its.toArray }, toks := t' } :=
  I.laid (fun _ _ q => Heap.get?_push_of_some _ q) (Nat.le_refl _) ⟨hz, its, 0, hv, Heap.get?_push_size _ rfl⟩
theorem Inv.fresh (I : Inv X pins σ H s) : H s.heap.objs.size = none := I.hok.fresh (Nat.le_refl _)
theorem Inv.lstM (I : Inv X pins σ H s) (hH : H l = some (.lst xs)) : xs.length ≤ sizeLine ∧ ∃ (its : List Value) (n : Nat), Vals xs its ∧ xs.length = its.length ∧ s.heap.get? l = some { cls := .type "list", data := .seq its.toArray n } := by
  obtain ⟨z, its, n, r, e⟩ := I.hok l _ hH
  exact ⟨z, its, n, r, r.length, e⟩
theorem notLongL {n : Nat} (h : n ≤ sizeLine) : Builtin.List.listTooLong n = false := by
  unfold Builtin.List.listTooLong
  exact decide_eq_false (by omega)
end
section
variable {X : Cx}
def rAppend : V → List V → Hp → VK → Prop := fun x vs H Q => ∃ l xs y, x = .ref l ∧ vs = [y] ∧ H l = some (.lst xs) ∧ xs.length < sizeLine ∧ Q .non (upd H l (.lst (xs ++ [y])))
theorem mt_append : MtM X "list.append" rAppend := by
  intro pins s σ H x vs v us Q I rx rv h
  obtain ⟨l, xs, y, rfl, rfl, hH, hz, q⟩ := h
  cases rx
  obtain ⟨u, rfl, ru⟩ := rv.one
  obtain ⟨z, its, n, r, hl, e⟩ := I.lstM hH
  refine call_meets F.slot_list_append ⟨_, e, rfl⟩ F.entry_list_append (F.args_list_append_2 _ _) (PySem.list_append l its.toArray n u (by rw [List.size_toArray]; omega)) ⟨e, ?_⟩
  refine ⟨.non, _, I.lset (its' := its ++ [u]) hH e (by simp) (r.append (.cons ru .nil)) ?_, rfl, q⟩
  rw [List.length_append, List.length_singleton]
  omega
def rExtend : V → List V → Hp → VK → Prop := fun x vs H Q => ∃ l b xs zs, x = .ref l ∧ vs = [.ref b] ∧ H l = some (.lst xs) ∧ H b = some (.lst zs) ∧ xs.length + zs.length ≤ sizeLine ∧ Q .non (upd H l (.lst (xs ++ zs)))
theorem mt_extend : MtM X "list.extend" rExtend := by
  intro pins s σ H x vs v us Q I rx rv h
  obtain ⟨l, b, xs, zs, rfl, rfl, hH, hB, hz, q⟩ := h
  cases rx
  obtain ⟨u, rfl, ru⟩ := rv.one
  cases ru
  obtain ⟨z, its, n, r, hl, e⟩ := I.lstM hH
  obtain ⟨z2, its2, n2, r2, hl2, e2⟩ := I.lstM hB
  have hsz : its.toArray.size + its2.toArray.size ≤ sizeLine := by rw [List.size_toArray, List.size_toArray]; omega
  have hlong : ¬ (!its.toArray.isEmpty && Builtin.List.listTooLong (its.toArray.size + its2.toArray.size)) = true := by
    rw [notLongL hsz, Bool.and_false]
    exact Bool.false_ne_true
  refine call_meets F.slot_list_extend ⟨_, e, rfl⟩ F.entry_list_extend (F.args_list_extend_2 _ _)
    (AutoSeq1.list_extend_list_list_0 l its.toArray n b its2.toArray n2 hlong (by rw [List.size_toArray]; omega) (by omega)) ⟨e, e2, ?_⟩
  refine ⟨.non, _, I.lset (its' := its ++ its2) hH e (by simp) (r.append r2) ?_, rfl, q⟩
  rw [List.length_append]
  omega
def rCat : R2 := fun x y H Q => ∃ l b xs zs, x = .ref l ∧ y = .ref b ∧ H l = some (.lst xs) ∧ H b = some (.lst zs) ∧ xs.length + zs.length ≤ sizeLine ∧ ∀ p, H p = none → Q (.ref p) (upd H p (.lst (xs ++ zs)))
theorem op_cat : OpR X (binaryOp .Add) rCat := by
  intro pins s σ H x y v u Q I rx ry h
  obtain ⟨l, b, xs, zs, rfl, rfl, hH, hB, hz, q⟩ := h
  cases rx
  cases ry
  obtain ⟨z, its, n, r, hl, e⟩ := I.lstM hH
  obtain ⟨z2, its2, n2, r2, hl2, e2⟩ := I.lstM hB
  refine PySem.P.add_list e e2 ?_ (by rw [List.size_toArray, List.size_toArray]; omega)
  have ea : its.toArray ++ its2.toArray = (its ++ its2).toArray := by simp
  rw [ea]
  exact ⟨.ref _, _, I.lnew (t' := s.toks) (r.append r2) (by rw [List.length_append]; omega), rfl, q _ I.fresh⟩
def rRep : R2 := fun x y H Q => ∃ l k xs, x = .ref l ∧ y = .int k ∧ H l = some (.lst xs) ∧ -(2 ^ 63) ≤ k ∧ k < 2 ^ 63 ∧ xs.length * k.toNat ≤ sizeLine ∧
  ∀ p, H p = none → Q (.ref p) (upd H p (.lst (List.replicate k.toNat xs).flatten))
theorem len_rep {α : Type} (xs : List α) (k : Nat) : (List.replicate k xs).flatten.length = k * xs.length := by
  induction k with
  | zero => simp
  | succ k ih => rw [List.replicate_succ, List.flatten_cons, List.length_append, ih, Nat.succ_mul, Nat.add_comm]
theorem op_rep : OpR X (binaryOp .Mult) rRep := by
  intro pins s σ H x y v u Q I rx ry h
  obtain ⟨l, k, xs, rfl, rfl, hH, h1, h2, hz, q⟩ := h
  cases rx
  obtain ⟨t, rfl⟩ := ry
  obtain ⟨z, its, n, r, hl, e⟩ := I.lstM hH
  have hlen : its.toArray.size * k.toNat ≤ sizeLine := by rw [List.size_toArray, ← hl]; exact hz
  have hcap : ¬ its.toArray.size * k.toNat > (2 ^ 63 - 1) / 8 := by
    have : (sizeLine : Nat) ≤ (2 ^ 63 - 1) / 8 := by decide
    omega
  have hfit : ¬ (!Builtin.List.listFitsIndex k) = true := by
    rw [fitsIndex_both h1 h2]
    exact Bool.false_ne_true
  have hlong : ¬ Builtin.List.listTooLong (its.toArray.size * k.toNat) = true := by
    rw [notLongL hlen]
    exact Bool.false_ne_true
  have hnew : List.foldl (fun x1 x2 => x1 ++ x2) #[] (List.replicate (if its.toArray.isEmpty = true then 0 else k.toNat) its.toArray) = (List.replicate k.toNat its).flatten.toArray := by
    have f0 : ∀ m : Nat, List.foldl (fun x1 x2 => x1 ++ x2) #[] (List.replicate m its.toArray) = (List.replicate m its).flatten.toArray := fun m => by
      have := foldl_rep its m []
      rw [List.nil_append] at this
      exact this
    rw [f0]
    cases its with
    | nil => simp
    | cons a r' => rw [if_neg (by simp)]
  refine wpAny_binaryOp_repeat_ref (T := "list") (U := "int") (by decide) ⟨_, e, rfl⟩ (fun s' => typeIs_int s' k t) noFill_list_mul F.fills_int_mul F.slot_int_rmul repeat_list F.slot_int_index.lookup
    (call_meets F.slot_int_rmul (typeIs_int s k t) F.entry_int_rmul (F.args_int_rmul_2 _ _) (int___rmul___int_list k t l its.toArray n)
      ⟨e, rfl, ⟨_, e, rfl⟩, call_meets F.slot_list_mul ⟨_, e, rfl⟩ F.entry_list_mul (F.args_list_mul_2 _ _) (AutoListH.list___mul___list_int_3 l its.toArray n k t hfit hcap hlong) ⟨e, ?_⟩⟩)
  rw [hnew]
  exact ⟨.ref _, _, I.lnew (t' := s.toks) (r.rep k.toNat) (by rw [len_rep, Nat.mul_comm]; exact hz), rfl, q _ I.fresh⟩
end
section
variable {prog : Program} {w : World} {A : Around} {E : Value → Shared → Prop} {s : Shared}
end
section
variable {X : Cx}
end
end L2
namespace Att
open PySem PySem.W PySem.Calls PyProof.Rows
theorem ints_of_wellAll {P : Params} {h : Heap} : ∀ (ns : List Int) (vs : List Value), WellAll P h vs (ns.map WData.int) → IntsAre vs ns := by
  intro ns
  induction ns with
  | nil =>
    intro vs w
    rw [List.map_nil] at w
    cases w
    exact .nil
  | cons n ns ih =>
    intro vs w
    rw [List.map_cons] at w
    cases w with
    | cons a b =>
      cases a
      exact .cons _ _ (ih _ b)
theorem script_of {l : OpenLaw} {n : Nat} (hn : l.most = some n) {P : Params} {h : Heap} {args : List WData} {vals : List Value}
    (hpre : l.row.toRowW.claim.pre args = true) (hwl : WellAll P h vals args) :
    ∃ a vs ns, vals = [Value.ref a] ∧ args = [WData.list (ns.map WData.int)] ∧ h.get? a = some { cls := .type "list", data := .seq vs.toArray } ∧ IntsAre vs ns ∧ ns.length ≤ n := by
  have hsh : WShape.hasAll [] args [.list .int] = true := (pre_splitW hpre).1
  have hc : l.pre.holds [] { args := args } = true := (pre_splitW hpre).2
  obtain ⟨d, r, rfl, h1, h2⟩ := hasAllW_cons hsh
  obtain rfl := hasAllW_nil h2
  obtain ⟨xs, rfl, h3⟩ := hasW_list h1
  obtain ⟨ns, rfl⟩ := items_int h3
  have hlen : ns.length ≤ n := by
    unfold OpenLaw.pre at hc
    have h4 : (WTm.not (.lt (.lit (.int (n : Int))) (.len (.arg 0)))).holds [] { args := [.list (ns.map .int)] } = true := by
      have h4 := (holds_andW hc).1
      rw [hn] at h4
      exact h4
    have h5 := condW_of h4 (w_not (w_lt w_lit (w_len_list (w_arg rfl))))
    rw [List.length_map] at h5
    refine Nat.le_of_not_lt fun q => ?_
    have q' : (n : Int) < ((ns.length : Nat) : Int) := by omega
    first
      | (rw [decide_eq_true q'] at h5; exact absurd h5 (by decide))
      | (simp at h5; omega)
  cases hwl with
  | cons w1 w2 =>
    cases w2
    cases w1 with
    | list ho hall => exact ⟨_, _, ns, rfl, rfl, ho, ints_of_wellAll ns _ hall, hlen⟩
theorem post_true (l : OpenLaw) (args : List WData) : l.row.toRowW.claim.post args (.bool true) args = true :=
  postW_of (r := l.row.toRowW) (X := (true == true))
    (show WShape.has [] (.bool true) .bool = true by first | rfl | decide | simp [WShape.has, WShape.arms, WShape.armsAll])
    (show (WTm.eq .res (.lit (.bool true))).value [] { args := args, res := some (.bool true), after := args } = some (.bool (true == true)) from w_eq_bool (w_res rfl) w_lit) rfl
theorem attach_call {l : OpenLaw} {n : Nat} {q : Program} {loose : List Str} {XP : (Str → Option Value) → Heap → Prop} {YP : World → Heap → Prop} {d : DefRec}
    (hn : l.most = some n) (hdf : d.params.defaults = [])
    (call : ∀ (w : World) (s₀ s₁ : Shared) (mg mb : Str → Option Value) (fa : Addr) (o : Obj) (pm cd doc : Value) (a : Addr) (vs : List Value) (ns : List Int),
      Ground q loose [] XP w s₀ mg mb s₁.heap → YP w s₁.heap →
      s₁.heap.get? fa = some o → o.data = .func (docDef d.name d.params d.body d.scope pm cd doc) → s₁.heap.CodeRec cd d.name → mg d.name = some (.ref fa) →
      s₁.heap.get? a = some { cls := .type "list", data := .seq vs.toArray } → IntsAre vs ns → ns.length ≤ n → s₁.gens = #[] →
      codeAny (model l.prog w) callerA (.call (.ref fa) ⟨[.ref a], []⟩) (fun r s' => r = .ok (.ret (.bool true)) ∧ OldK s₁.heap s'.heap ∧ s'.os = s₁.os ∧ AllBare s'.gens) s₁) :
    WalkO q loose XP YP l.row.toRowW d [] (fun f vs => PySem.call f vs) := by
  intro w s₀ s₁ mg mb G Y fa o pm cd doc dV kV ho hd hcd hD hmg hg args vals as hpre hlay hrd hwl hlo
  obtain rfl : dV = .none := Dflts.none hD hdf
  obtain rfl : kV = .none := Dflts.noKw hD
  obtain ⟨a, vs, ns, rfl, rfl, hobj, hints, hlen⟩ := script_of hn hpre hwl
  refine enter_call (codeAny_mono (call w s₀ s₁ mg mb fa o pm cd doc a vs ns G Y ho (fd_plain hd) hcd hmg hobj hints hlen hg) fun r s' hq => ?_)
  obtain ⟨rfl, h2, h3, h4⟩ := hq
  exact ⟨.inl ⟨.bool true, .bool true, [], rfl, fun _ => rfl, .bool true, post_true l _, fun _ => ⟨List.Pairwise.nil, fun _ hm => (nomatch hm)⟩⟩, h2, h3, h4⟩
section
variable {prog : Program} {w : World} {A : Around} {E : Value → Shared → Prop} {s : Shared} {K : Frag}
end
end Att
namespace L2
open PySem PySem.Spec PyProof.Rows
theorem vals_ints : ∀ {vs : List Value} {ns : List Int}, IntsAre vs ns → Vals (ns.map V.int) vs
  | _, _, .nil => .nil
  | _, _, .cons n t h => .cons ⟨t, rfl⟩ (vals_ints h)
def Only (H : Hp) : Prop := ∀ b, H b = none ∨ ∃ o xs, H b = some (.frz o (.lst xs))
theorem law_call {P : Program} {w : World} {K : PySem.W.Frag} {mg mb : Str → Option Value} {CX : CXT} {k : Nat} {fa a : Addr} {fd : FuncData} {x : Str} {sp : Sp} {s₁ : Shared} {vs : List Value} {ns : List Int}
    (KX : K.In s₁.heap) (hns : s₁.heap.Ns mainGlobals mg) (hb : s₁.heap.Ns builtinsNs mb) (hbb : ∀ x : Str, x ≠ "__name__" → mb x = bootBuiltins x) (hlim : s₁.heap.NoLimit) (hg : s₁.gens = #[])
    (ha : s₁.heap.get? a = some { cls := .type "list", data := .seq vs.toArray }) (hi : IntsAre vs ns) (hl : ns.length ≤ sizeLine) (hr : Room k callerA)
    (F : ∀ base : Heap, K.In base → base.Ns mainGlobals mg → FnOk P w K mg base CX k fa fd [x] sp) (hbind : ∀ (s : Shared) (u : Value), BindsTo s fd ⟨[u], []⟩ [(x, u)])
    (hsp : ∀ H : Hp, Only H → SqL K H a (ns.map V.int) → sp [.ref a] H (fun v _ => v = .bl true) fun _ _ _ => False)
    (hCX : ∀ H e s', CX [] H s₁ (fun _ _ _ => False) e s' → False) :
    codeAny (model P w) callerA (.call (.ref fa) ⟨[.ref a], []⟩) (fun r s' => r = .ok (.ret (.bool true)) ∧ OldK s₁.heap s'.heap ∧ s'.os = s₁.os ∧ AllBare s'.gens) s₁ := by
  have rv := vals_ints hi
  have lenV := hi.length
  have core : ∀ H : Hp, Only H → SqL K H a (ns.map V.int) → HOk P w H s₁.heap → (∀ b, H b ≠ none → b = a) → (H a ≠ none → K.lookup a = none) →
      codeAny (model P w) callerA (.call (.ref fa) ⟨[.ref a], []⟩) (fun r s' => r = .ok (.ret (.bool true)) ∧ OldK s₁.heap s'.heap ∧ s'.os = s₁.os ∧ AllBare s'.gens) s₁ := by
    intro H hO hS hok hA hK
    have base_of : ∀ {b : Addr} {o : Obj}, s₁.heap.get? b = some o → H b = none → (hidT s₁.heap H).get? b = some o := fun e n => hidT_get e n
    have noA : ∀ {b : Addr} {o : Obj} {es : Array DictEntry} {ep : Nat}, s₁.heap.get? b = some o → o.data = .dict es ep → H b = none := fun {b o es ep} e d => by
      cases q : H b with
      | none => rfl
      | some u =>
        have e' : b = a := hA b (by rw [q]; simp)
        subst e'
        rw [ha] at e; cases e
        have d' : Data.seq vs.toArray _ = Data.dict es ep := d
        cases d'
    have nsK : ∀ {b : Addr} {m : Str → Option Value}, s₁.heap.Ns b m → (hidT s₁.heap H).Ns b m := fun {b m} ⟨o, es, ep, e, d, r⟩ => ⟨o, es, ep, base_of e (noA e d), d, r⟩
    have hKb : K.In (hidT s₁.heap H) := fun b o e => base_of (KX b o e) (by
      cases q : H b with
      | none => rfl
      | some u =>
        have e' : b = a := hA b (by rw [q]; simp)
        subst e'
        rw [hK (by rw [q]; simp)] at e; cases e)
    have hM : Mod K mg (hidT s₁.heap H) := ⟨hKb, nsK hns, ⟨mb, nsK hb, hbb⟩, let ⟨mc, h1, h2⟩ := hlim; ⟨mc, nsK h1, h2⟩⟩
    have e0 : Env0 P w K mg (hidT s₁.heap H) callerA [] s₁ H := ⟨rfl, hM, fun b o e => of_hidT e, Nat.le_of_eq (hidT_size _ _), trivial, fun b hb => absurd (show b ∈ ([] : List Addr) from hb) (by simp), hok, .of_eq hg⟩
    refine codeAny_mono ((F _ hKb (nsK hns)).run callerA [] s₁ H ⟨[.ref a], []⟩ [.ref a] [.ref a] _ _ hr e0 (hbind s₁ (.ref a)) (.cons rfl .nil) (hsp H hO hS)) fun r s' h => ?_
    cases r with
    | error e => exact (hCX H e s' h).elim
    | ok fl =>
      cases fl with
      | next => exact False.elim h
      | brk => exact False.elim h
      | cont => exact False.elim h
      | ret u =>
        obtain ⟨v, H', os, bare, un, hok', r', q⟩ := h
        have q' : v = .bl true := q
        subst q'
        obtain rfl : u = Value.bool true := r'
        refine ⟨rfl, OldK.of_keep fun b o e => ?_, os, bare⟩
        cases q : H b with
        | none => exact un.keep b o e q (by intro z; exact absurd (show b ∈ ([] : List Addr) from z) (by simp)) (by simp)
        | some u =>
          rcases hO b with z | ⟨ob, xs, z⟩
          · rw [q] at z; cases z
          · have z2 := un.frzs b ob _ z
            obtain ⟨e1, _⟩ := hok b _ z
            obtain ⟨e2, _⟩ := hok' b _ z2
            rw [e] at e1; cases e1
            exact e2
  cases hk : K.lookup a with
  | some o =>
    have e := KX a o hk
    rw [ha] at e
    cases e
    refine core (fun _ => none) (fun _ => .inl rfl) (.inr ⟨_, vs.toArray, _, hk, rfl, rfl, rfl, by rw [List.size_toArray, lenV]; exact hl, by simpa using rv⟩) (fun b u z => by have z' : (none : Option HO) = some u := z; cases z') (fun b z => absurd rfl z) fun z => absurd rfl z
  | none =>
    refine core (fun b => if b = a then some (.frz { cls := .type "list", data := .seq vs.toArray } (.lst (ns.map V.int))) else none) (fun b => ?_) (.inl (.inr ⟨{ cls := .type "list", data := .seq vs.toArray }, if_pos rfl⟩)) (fun b u z => ?_) (fun b z => ?_) fun _ => hk
    · by_cases hb : b = a
      · exact .inr ⟨_, _, if_pos hb⟩
      · exact .inl (if_neg hb)
    · by_cases hb : b = a
      · have z' := (if_pos hb).symm.trans z
        cases z'
        subst hb
        exact ⟨ha, by rw [List.length_map]; exact hl, vs, _, rv, ha⟩
      · have z' := (if_neg hb).symm.trans z
        cases z'
    · by_cases hb : b = a
      · exact hb
      · exact absurd (if_neg hb) z
end L2
namespace L2
open PySem PySem.Spec PyProof.Rows
theorem walk_of {l : PySem.W.OpenLaw} {n k : Nat} {q : Program} {loose : List Str} {XP : (Str → Option Value) → Heap → Prop} {YP : World → Heap → Prop} {d : DefRec} {K : Params → PySem.W.Frag} {CX : World → CXT} {sp : World → Sp} {x : Str}
    (hn : l.most = some n) (hn2 : n ≤ sizeLine) (hdf : d.params.defaults = []) (hr : Room k callerA)
    (hY : ∀ (w : World) (h : Heap), YP w h → (K w.params).In h)
    (F : ∀ (w : World) (mg : Str → Option Value) (fa : Addr) (h : Heap), (K w.params).In h → h.Ns mainGlobals mg → mg d.name = some (.ref fa) →
      ∃ fd : FuncData, (∀ (s : Shared) (u : Value), BindsTo s fd ⟨[u], []⟩ [(x, u)]) ∧
        ∀ base : Heap, (K w.params).In base → base.Ns mainGlobals mg → FnOk l.prog w (K w.params) mg base (CX w) k fa fd [x] (sp w))
    (hsp : ∀ (w : World) (H : Hp) (a : Addr) (ns : List Int), ns.length ≤ n → Only H → SqL (K w.params) H a (ns.map V.int) → sp w [.ref a] H (fun v _ => v = .bl true) fun _ _ _ => False)
    (hCX : ∀ (w : World) (H : Hp) (s : Shared) (e : Value) (s' : Shared), CX w [] H s (fun _ _ _ => False) e s' → False) :
    PySem.W.WalkO q loose XP YP l.row.toRowW d [] (fun f vs => PySem.call f vs) := by
  refine Att.attach_call hn hdf fun w s₀ s₁ mg mb fa o pm cd doc a vs ns G Y ho hd hcd hmg hobj hints hlen hg => ?_
  have KX := hY w _ Y
  obtain ⟨fd, hb, hF⟩ := F w mg fa _ KX G.T.g hmg
  exact law_call KX G.T.g G.T.b G.T.builtins G.T.nolimit hg hobj hints (Nat.le_trans hlen hn2) hr hF hb (fun H hO hS => hsp w H a ns hlen hO hS) fun H e s' => hCX w H s₁ e s'
end L2
namespace L2
open PySem PySem.Spec PyProof.Rows
def defArgs (s : Stmt) : Arguments := match s with
  | .FunctionDef _ a _ _ _ _ _ _ _ _ => a
  | _ => { posonlyargs := [], args := [], vararg := none, kwonlyargs := [], kw_defaults := [], kwarg := none, defaults := [] }
def defBody (s : Stmt) : List Stmt := match s with
  | .FunctionDef _ _ b _ _ _ _ _ _ _ => b
  | _ => []
def defScope (s : Stmt) : Scope := match s with
  | .FunctionDef _ _ _ _ _ _ sc _ _ _ => sc
  | _ => { kind := .function, names := [], isGenerator := false, isCoroutine := false }
abbrev CX0 : CXT := fun _ _ _ _ _ _ => False
abbrev E0 : XK := fun _ _ _ => False
structure Fun (K : PySem.W.Frag) (x qual : Str) (st : Stmt) (f : Addr) (fd : FuncData) : Prop where
  ex : ∃ (oc : Value) (od : Option Addr) (kV doc pm : Value) (an : Option Addr) (cdv ct : Value) (osl : Array (Option Value)),
    fd = PySem.W.fnOf x qual (defArgs st) (defBody st) (defScope st) .none kV doc pm an cdv ct ∧ K.lookup f = some ⟨oc, od, .func fd, osl⟩ ∧ PySem.W.codeIn K cdv qual = true
  kp : PySem.W.keepIn K (.ref f) = true
section
variable {P : Program} {w : World} {K : PySem.W.Frag} {mg : Str → Option Value} {base : Heap}
theorem Fun.ok {x qual : Str} {st : Stmt} {f : Addr} {fd : FuncData} {N ps : List Str} {k : Nat} {sp : Sp} (F : Fun K x qual st f fd) (S : FnScope N ps (defScope st)) (len : ∀ vs H Q E, sp vs H Q E → vs.length = ps.length)
    (hbody : ∀ (cdv : Value) (A : Around) (outer : List Env) (s : Shared) (H : Hp) (vs : List V) (Q : VK) (E : XK), Room k (A.deeper (envOfC qual (defScope st) s.heap.objs.size f cdv)) → sp vs H Q E →
      ∃ t, PSs (cxOf CX0 P w K mg base N qual (defScope st) f cdv A outer s H E).nox (defBody st) t ∧ t { nx := fun _ H' => Q .non H', rt := Q } (start N vs) H) : FnOk P w K mg base CX0 (k + 1) f fd ps sp := by
  obtain ⟨oc, od, kV, doc, pm, an, cdv, ct, osl, rfl, lk, hcd⟩ := F.ex
  refine fn_of lk hcd S len fun A outer s H vs Q E hr hsp => ?_
  obtain ⟨t, h, q⟩ := hbody cdv A outer s H vs Q E hr hsp
  exact ⟨t, h.nox, q⟩
theorem Fun.binds {x qual : Str} {st : Stmt} {f : Addr} {fd : FuncData} {ps : List Str} (F : Fun K x qual st f fd)
    (h : ∀ (kV doc pm : Value) (an : Option Addr) (cdv ct : Value) (us : List Value), us.length = ps.length → bindArgs (PySem.W.fnOf x qual (defArgs st) (defBody st) (defScope st) .none kV doc pm an cdv ct) ⟨us, []⟩ = pure (ps.zip us)) : Binds K fd ps [] := by
  obtain ⟨oc, od, kV, doc, pm, an, cdv, ct, osl, rfl, lk, hcd⟩ := F.ex
  exact .all (h kV doc pm an cdv ct)
theorem fun_mk {x qual : Str} {st : Stmt} {f : Addr} {oc : Value} {od an : Option Addr} {osl : Array (Option Value)} {kV doc pm cdv ct : Value} (l : K.lookup f = some ⟨oc, od, .func (PySem.W.fnOf x qual (defArgs st) (defBody st) (defScope st) .none kV doc pm an cdv ct), osl⟩)
    (c : PySem.W.codeIn K cdv qual = true) (k : PySem.W.keepIn K (.ref f) = true) : Fun K x qual st f (PySem.W.fnOf x qual (defArgs st) (defBody st) (defScope st) .none kV doc pm an cdv ct) := ⟨⟨oc, od, kV, doc, pm, an, cdv, ct, osl, rfl, l, c⟩, k⟩
end
section
variable {X : Cx}
theorem pv (i : Nat) {x : Str} {pos : Pos} (hN : X.N[i]? = some x := by rfl) (hv : Vis X.env.scope x := by first | exact Or.inl rfl | exact Or.inr (Or.inl rfl) | exact Or.inr (Or.inr rfl)) (hd : (x == ("__debug__" : Str)) = false := by decide)
    (hcd : (x == ("__classdict__" : Str)) = false := by decide) : PE X (.Name x pos) (tVar i) := pe_var hN hv hd hcd
end
theorem iteF {A B : Prop} (h : B) : if false = true then A else B := by
  rw [if_neg Bool.false_ne_true]
  exact h
theorem iteT {A B : Prop} (h : A) : if true = true then A else B := by
  rw [if_pos rfl]
  exact h
theorem ite2 {c A B : Prop} [Decidable c] (h1 : c → A) (h2 : ¬ c → B) : if c then A else B := by
  by_cases h : c
  · rw [if_pos h]
    exact h1 h
  · rw [if_neg h]
    exact h2 h
def Same (H H' : Hp) : Prop := ∀ b o, H b = some o → H' b = some o
theorem Same.refl (H : Hp) : Same H H := fun _ _ h => h
theorem Same.trans {H H1 H2 : Hp} (a : Same H H1) (b : Same H1 H2) : Same H H2 := fun c o h => b c o (a c o h)
theorem Same.free {H H' : Hp} (e : Same H H') {l : Addr} (h : H' l = Option.none) : H l = Option.none := by
  cases q : H l with
  | none => rfl
  | some o =>
    rw [e l o q] at h
    cases h
theorem Same.seq {K : PySem.W.Frag} {H H' : Hp} {a : Addr} {xs : List V} (e : Same H H') (h : SqL K H a xs) : SqL K H' a xs := by
  rcases h with (h | ⟨o, h⟩) | h
  · exact .inl (.inl (e _ _ h))
  · exact .inl (.inr ⟨o, e _ _ h⟩)
  · exact .inr h
end L2
namespace L2
open PySem PySem.Spec PyProof.Rows
def FlyAt (a T : Addr) (C fl : Value) (h : Heap) : Prop :=
  ∃ oe vs oT ts a0, h.get? a = some oe ∧ oe.cls = C ∧ oe.data = .fields vs ∧ vs[0]? = some a0 ∧ vs[1]? = some (.ref T) ∧ T ≠ a ∧ h.get? T = some oT ∧ oT.data = .fields ts ∧ ts[3]? = some fl
structure Moved (fr ch : List Addr) (h h' : Heap) : Prop where
  keep : ∀ b o, b ∉ fr → b ∉ ch → h.get? b = some o → h'.get? b = some o
  slot : ∀ b o, b ∈ fr → h.get? b = some o → ∃ sl, h'.get? b = some { o with slots := sl }
section
variable {M : Model} {A : Around} {E : Value → Shared → Prop} {s : Shared}
theorem frame_rec {bs h : Heap} {l : List Env} {b : Addr} {o : Obj} {ws : Array Value} (hl : h.FunFrames bs l) (hb : b ∈ frs l) (e : h.get? b = some o) (d : o.data = .fields ws) : False := by
  obtain ⟨_, o', e', n⟩ := hl.mem hb
  rw [e] at e'
  cases e'
  exact n ws d
theorem moved_of {bs h h' : Heap} {l : List Env} {ch : List Addr} (hl : h.FunFrames bs l) (st : (PySem.W.hideAll h (frs l ++ ch)).StaysIn h') (up : h.UpToSlots h') : Moved (frs l) ch h h' := by
  refine ⟨fun b o hb hc e => st b o (PySem.W.hideAll_get _ e fun z => (List.mem_append.mp z).elim hb hc), fun b o hb e => ?_⟩
  exact up b o e fun ws d => frame_rec hl hb e d
theorem new_head {bs h h' : Heap} {l : List Env} {a T T' : Addr} {oT : Obj} {ts : Array Value} (hl : h.FunFrames bs l) (up : h.UpToSlots h') (hn : (PySem.W.hideAll h (frs l ++ [a, T])).get? T' = none) (hne : T' ≠ a) (e : h'.get? T' = some oT) (d : oT.data = .fields ts) :
    h.get? T' = none ∨ T' = T := by
  cases q : h.get? T' with
  | none => exact .inl rfl
  | some o =>
    right
    by_cases hm : T' ∈ frs l ++ [a, T]
    · rcases List.mem_append.mp hm with hm | hm
      · obtain ⟨sl, z⟩ := up T' o q fun ws d' => frame_rec hl hm q d'
        rw [e] at z
        cases z
        exact (frame_rec hl hm q d).elim
      · rcases List.mem_cons.mp hm with z | z
        · exact absurd z hne
        · simpa using z
    · rw [PySem.W.hideAll_get _ q hm] at hn
      cases hn
theorem fly_base {bs h : Heap} {env : Env} {outer : List Env} {a T : Addr} {C : Value} (hl : h.FunFrames bs (env :: outer)) (x : FlyAt a T C .none h) :
    ∃ a0, Heap.FlyingW (PySem.W.hideAll h (frs (env :: outer) ++ [a, T])) (env :: outer) a C a0 h := by
  obtain ⟨oe, vs, oT, ts, a0, e1, e2, e3, e4, e5, e6, e7, e8, e9⟩ := x
  refine ⟨a0, fun b o q => PySem.W.of_hideAll _ q, PySem.W.hideAll_none _ (by simp), PySem.W.funFrames_hide hl (fun env' he b hb => List.mem_append_left _ (List.mem_filterMap.mpr ⟨env', he, hb⟩)),
    oe, vs, T, oT, ts, e1, ⟨e2, e4⟩, e3, e5, PySem.W.hideAll_none _ (by simp), e6, e7, e8, e9⟩
theorem leave_fly {bs : Heap} {env : Env} {outer : List Env} {L a T : Addr} {C : Value} {Q : Unit → Shared → Prop} (hfr : A.frames = some (env :: outer)) (hf : env.frame = some L) (hl : s.heap.FunFrames bs (env :: outer)) (x : FlyAt a T C .none s.heap)
    (hQ : ∀ h' T', FlyAt a T' C .none h' → (s.heap.get? T' = none ∨ T' = T) → Moved (frs (env :: outer)) [a, T] s.heap h' → Q () { s with heap := h' }) : wpAny M A (leaving env (.ref a)) Q E s := by
  obtain ⟨a0, hB⟩ := fly_base hl x
  refine wpAny_leaves_onW hfr hf hB fun h' x1 x2 => ?_
  obtain ⟨st, _, _, oe', vs', T', oT', ts', f1, ⟨f2, f4⟩, f3, f5, f6, f7, f8, f9, f10⟩ := x1
  exact hQ h' T' ⟨oe', vs', oT', ts', a0, f1, f2, f3, f4, f5, f7, f8, f9, f10⟩ (new_head hl x2 f6 f7 f8 f9) (moved_of hl st x2)
theorem note_fly {bs : Heap} {env : Env} {outer : List Env} {L a T : Addr} {C : Value} {Q : Unit → Shared → Prop} (hfr : A.frames = some (env :: outer)) (hf : env.frame = some L) (hl : s.heap.FunFrames bs (env :: outer)) (x : FlyAt a T C .none s.heap)
    (hQ : ∀ h' T', FlyAt a T' C (rawInt L) h' → (s.heap.get? T' = none ∨ T' = T) → Moved (frs (env :: outer)) [a, T] s.heap h' → Q () { s with heap := h' }) : wpAny M A (noteFrame (.ref a) env) Q E s := by
  obtain ⟨a0, hB⟩ := fly_base hl x
  refine wpAny_looks_onW hfr hf hB fun h' x1 x2 => ?_
  obtain ⟨st, _, _, oe', vs', T', oT', ts', f1, ⟨f2, f4⟩, f3, f5, f6, f7, f8, f9, f10⟩ := x1
  exact hQ h' T' ⟨oe', vs', oT', ts', a0, f1, f2, f3, f4, f5, f7, f8, f9, f10⟩ (new_head hl x2 f6 f7 f8 f9) (moved_of hl st x2)
theorem land_fly {a T : Addr} {C fl : Value} {Q : Unit → Shared → Prop} (x : FlyAt a T C fl s.heap)
    (hQ : ∀ h', FlyAt a T C .none h' → (∀ b o, b ≠ T → s.heap.get? b = some o → h'.get? b = some o) → Q () { s with heap := h' }) : wpAny M A (setFlight (.ref a) none) Q E s := by
  obtain ⟨oe, vs, oT, ts, a0, e1, e2, e3, e4, e5, e6, e7, e8, e9⟩ := x
  have hsz : 3 < ts.size := (Array.getElem?_eq_some_iff.mp e9).1
  refine wpAny_setFlight_none e1 e3 e5 e7 e8 hsz (hQ _ ⟨oe, vs, _, _, a0, (Heap.get?_update_other _ _ e6).trans e1, e2, e3, e4, e5, e6, Heap.get?_update_self _ e7 (Obj.isFreed_of_fields (Obj.data_mapFields e8 _)), Obj.data_mapFields e8 _, by simp [hsz]⟩
    fun b o hb q => (Heap.get?_update_other _ _ (Ne.symm hb)).trans q)
end
theorem ObjOk.get {P : Program} {w : World} {H : Hp} {h : Heap} {a : Addr} {o : HO} (x : ObjOk P w H h a o) : ∃ ob, h.get? a = some ob := by
  cases o with
  | lst xs => obtain ⟨_, _, _, _, e⟩ := x; exact ⟨_, e⟩
  | tup xs => obtain ⟨_, _, _, p⟩ := x; obtain ⟨o, e, _⟩ := p; exact ⟨_, e⟩
  | dK kvs => obtain ⟨_, _, _, _, o, _, _, e, _⟩ := x; exact ⟨_, e⟩
  | dT kvs => obtain ⟨_, _, _, _, o, _, _, e, _⟩ := x; exact ⟨_, e⟩
  | set S n => obtain ⟨o, _, _, _, e, _⟩ := x; exact ⟨_, e⟩
  | ins C dx fs => obtain ⟨_, _, _, e, _⟩ := x; exact ⟨_, e⟩
  | own y => obtain ⟨_, e⟩ := x; exact ⟨_, e⟩
  | xd fs => obtain ⟨_, ⟨_, _, _, e, _⟩, _⟩ := x; exact ⟨_, e⟩
  | rng lo hi => obtain ⟨_, _, _, e⟩ := x; exact ⟨_, e⟩
  | frz ob u => obtain ⟨e, _⟩ := x; exact ⟨_, e⟩
  | tbl ps => exact ⟨_, (show h.get? a = some _ from x)⟩
  | met f y => exact ⟨_, (show h.get? a = some _ from x)⟩
  | ext φ => obtain ⟨_, ⟨_, e⟩, _⟩ := x; exact ⟨_, e⟩
theorem HOk.none_of {P : Program} {w : World} {H : Hp} {h : Heap} {a : Addr} (x : HOk P w H h) (e : h.get? a = none) : H a = none := by
  cases q : H a with
  | none => rfl
  | some o =>
    obtain ⟨ob, z⟩ := (x a o q).get
    rw [e] at z
    cases z
section
variable {X : Cx} {pins : List (Addr × Obj)} {σ : St} {H H' : Hp} {s s' : Shared} {h' : Heap}
structure NewTo (X : Cx) (pins : List (Addr × Obj)) (b : Addr) : Prop where
  ent : X.s₀.heap.get? b = none
  loc : b ≠ X.env.locals
  cel : ∀ x c, X.env.cells.lookup x = some c → c ≠ b
  pin : ∀ p ∈ X.pn ++ pins, p.1 ≠ b
  fr : b ∉ X.fs
theorem Inv.old (I : Inv X pins σ H s) {b : Addr} (hx : b ∉ X.ex) (e : s.heap.get? b = none) : X.s₀.heap.get? b = none := by
  cases q : X.s₀.heap.get? b with
  | none => rfl
  | some o =>
    obtain ⟨o', z⟩ := I.base.there b o q hx
    rw [e] at z
    cases z
theorem Inv.newTo (I : Inv X pins σ H s) (hx : X.ex = []) {b : Addr} (e : s.heap.get? b = none) : NewTo X pins b := by
  refine ⟨I.old (by rw [hx]; simp) e, ?_, fun x c ec z => ?_, fun p hp z => ?_, fun z => ?_⟩
  · rintro rfl
    obtain ⟨_, ⟨o, _, _, ho, _⟩, _⟩ := I.loc
    rw [e] at ho
    cases ho
  · obtain ⟨v, o, ho, _⟩ := I.cell x c ec
    rw [z, e] at ho
    cases ho
  · have ho := (I.pin p hp).1
    rw [z, e] at ho
    cases ho
  · obtain ⟨_, o, ho, _⟩ := I.funs.mem z
    rw [e] at ho
    cases ho
theorem Inv.flew {fr ch : List Addr} (I : Inv X pins σ H s) (hfr : ∀ b ∈ fr, b ∈ X.env.locals :: X.fs) (mv : Moved fr ch s.heap h') (hch : ∀ b ∈ ch, NewTo X pins b ∧ H b = none) : Inv X pins σ H { s with heap := h' } := by
  have frN : ∀ b ∈ fr, H b = none := fun b hb => by
    rcases List.mem_cons.mp (hfr b hb) with z | z
    · rw [z]; exact I.free
    · obtain ⟨_, o, ho, _⟩ := I.ok.funs.mem z
      exact I.base.free b o ho (I.ok.frf b z) fun q => I.ok.exfs b q z
  have any : ∀ b o, b ∉ ch → s.heap.get? b = some o → ∃ sl, h'.get? b = some { o with slots := sl } := fun b o hc e => by
    by_cases hb : b ∈ fr
    · exact mv.slot b o hb e
    · exact ⟨o.slots, mv.keep b o hb hc e⟩
  refine I.step' (g' := s.gens) (d' := s.drawn) (t' := s.toks) (ch := ch) (fun b hb => ⟨.inr (hch b hb).1.ent, (hch b hb).1.loc, (hch b hb).1.cel, (hch b hb).1.pin⟩)
    (fun b o hL hb hc e _ => ?_) (fun b o _ _ hc e _ => any b o hc e) (fun _ _ _ _ n => n) (fun b o hc e => let ⟨sl, z⟩ := any b o hc e; ⟨_, z⟩) (fun _ _ e => e) (fun _ _ _ e => e) (fun b ps e => ⟨#[], by rw [e]; simp⟩) (fun m hm => ?_) (fun b u e => ?_) I.bare
  · refine mv.keep b o (fun z => ?_) hc e
    rcases List.mem_cons.mp (hfr b z) with q | q
    · exact hL q
    · exact hb q
  · obtain ⟨o, es, ep, ho, r⟩ := hm
    obtain ⟨sl, z⟩ := any _ o (fun q => (hch _ q).1.loc rfl) ho
    exact ⟨_, es, ep, z, r⟩
  · refine (I.hok b u e).stay (fun c v hc q => ?_) (fun _ q => q) fun _ _ q => q
    have hc' : H c ≠ none := by
      rcases hc with z | z
      · rw [z, e]; exact fun q => nomatch q
      · rw [z]; exact fun q => nomatch q
    exact mv.keep c v (fun z => hc' (frN c z)) (fun z => hc' (hch c z).2) q
end
def CXE (P : Program) (w : World) : CXT := fun outer H s E e s' => ∃ (a T C : Addr) (H' : Hp), e = .ref a ∧ s'.os = s.os ∧ AllBare s'.gens ∧ Un (frs outer) [] H H' s.heap s'.heap ∧ HOk P w H' s'.heap ∧
  FlyAt a T (.ref C) .none s'.heap ∧ s.heap.get? a = none ∧ s.heap.get? T = none ∧ H' a = none ∧ H' T = none ∧ E (.ref C) none H'
theorem passE {P : Program} {w : World} {X : Cx} : Passes (CXE P w) X E0 := fun _ _ _ _ _ _ _ h => by
  obtain ⟨_, _, _, _, _, _, _, _, _, _, _, _, _, _, z⟩ := h
  exact z.elim
def Throws (X : Cx) (E : XK) : Prop := ∀ (pins : List (Addr × Obj)) (σ : St) (H : Hp) (s : Shared) (C e : Addr) (us : List Value) (h' : Heap), Inv X pins σ H s → E (.ref C) none H → Heap.MadeExcOf s.heap h' e (.ref C) us → X.xe (.ref e) { s with heap := h' }
section
variable {P : Program} {w : World} {K : PySem.W.Frag} {mg : Str → Option Value} {base : Heap} {N : List Str} {qual : Str} {scope : Scope} {f : Addr} {cd : Value} {A : Around} {outer : List Env} {s : Shared} {H : Hp} {E : XK}
theorem throws_cx : Throws (cxOf (CXE P w) P w K mg base N qual scope f cd A outer s H E) E := by
  intro pins σ H1 s1 C e us h' I q hx
  show wpAny _ _ (leaving (envOfC qual scope s.heap.objs.size f cd) (.ref e)) _ _ _
  have hl := I.stack
  refine wpAny_leaves_madeW (base := PySem.W.hideAll s1.heap (frs (envOfC qual scope s.heap.objs.size f cd :: outer) ++ [])) (h := s1.heap) I.ok.frames rfl (fun b o z => PySem.W.of_hideAll _ z)
    (PySem.W.funFrames_hide hl (fun env' he b hb => List.mem_append_left _ (List.mem_filterMap.mpr ⟨env', he, hb⟩))) hx fun h2 t x1 x2 x3 x4 => ?_
  obtain ⟨st, eb, _, oe, vs, T, oT, ts, f1, ⟨f2, f4⟩, f3, f5, f6, f7, f8, f9, f10⟩ := x1
  have up : s1.heap.UpToSlots h2 := (Heap.UpToSlots.of_keeps hx.keeps).trans x4
  have mv : Moved (frs (envOfC qual scope s.heap.objs.size f cd :: outer)) [] s1.heap h2 := moved_of hl st up
  have I2 := I.flew (fr := frs (envOfC qual scope s.heap.objs.size f cd :: outer)) (ch := []) I.stkSub mv (fun b z => nomatch z)
  have Tn : s1.heap.get? T = none := by
    cases z : s1.heap.get? T with
    | none => rfl
    | some o =>
      by_cases hm : T ∈ frs (envOfC qual scope s.heap.objs.size f cd :: outer)
      · obtain ⟨sl, y⟩ := mv.slot T o hm z
        rw [f8] at y
        cases y
        exact (frame_rec hl hm z f9).elim
      · rw [PySem.W.hideAll_get _ z (by simpa using hm)] at f6
        cases f6
  exact ⟨e, T, C, H1, rfl, I2.os, I2.bare, I2.base, I2.hok, ⟨oe, vs, oT, ts, _, f1, f2, f3, f4, f5, f7, f8, f9, f10⟩, I.old (fun z => nomatch z) hx.new, I.old (fun z => nomatch z) Tn, I.hok.none_of hx.new, I.hok.none_of Tn, q⟩
theorem pass_cx : Passes (CXE P w) (cxOf (CXE P w) P w K mg base N qual scope f cd A outer s H E) E := by
  intro pins σ H1 s1 e s' I h
  obtain ⟨a, T, C, H2, rfl, os, bare, un, hok, fly, aN, TN, ha, hT, q⟩ := h
  have I1 := I.call' (ch := []) os un hok bare (fun b z => nomatch z)
  show wpAny _ _ (leaving (envOfC qual scope s.heap.objs.size f cd) (.ref a)) _ _ s'
  refine leave_fly I1.ok.frames rfl I1.stack fly fun h2 T' fly' tn mv => ?_
  have na := I.newTo rfl aN
  have nT := I.newTo rfl TN
  have I2 := I1.flew (fr := frs (envOfC qual scope s.heap.objs.size f cd :: outer)) (ch := [a, T]) I1.stkSub mv (fun b hb => by
    rcases List.mem_cons.mp hb with z | z
    · rw [z]; exact ⟨na, ha⟩
    · have z' : b = T := by simpa using z
      rw [z']; exact ⟨nT, hT⟩)
  have T'n : s.heap.get? T' = none ∧ H2 T' = none := by
    rcases tn with z | z
    · exact ⟨I1.old (fun y => nomatch y) z, I1.hok.none_of z⟩
    · rw [z]; exact ⟨nT.ent, hT⟩
  exact ⟨a, T', C, H2, rfl, I2.os, I2.bare, I2.base, I2.hok, fly', na.ent, T'n.1, ha, T'n.2, q⟩
end
abbrev bmVE : List Value := [.type "ValueError", .type "Exception", .type "BaseException", .type "object"]
theorem own_at {K : PySem.W.Frag} {h : Heap} {mg : Str → Option Value} {x : Str} {C : Addr} (X : K.In h) (hm : mg x = some (.ref C)) (q : PySem.W.excIn K C bmVE "ValueError.__new__" = true) : OwnCls x C bmVE "ValueError.__new__" mg h := by
  refine ⟨hm, ?_⟩
  unfold PySem.W.excIn at q
  split at q
  · rename_i dd cd sl ho
    split at q
    · rename_i C' bm k0 k1 k2 k3 n k5 hm' hs
      simp only [Bool.and_eq_true, beq_iff_eq, Bool.not_eq_true'] at q
      obtain ⟨⟨⟨⟨⟨rfl, rfl⟩, hdel⟩, ht⟩, hok⟩, hni⟩ := q
      obtain ⟨nm, bs, mro, ns, qn, hd, sn, sub, ab, col, del⟩ := cd
      dsimp only at hm' hdel hok hni
      subst hm' hdel
      have hsl : sl = #[k0, k1, k2, k3, some (.builtin "ValueError.__new__"), k5] := by
        obtain ⟨l⟩ := sl
        simp only at hs
        rw [hs]
      subst hsl
      exact ⟨bm, ns, nm, qn, bs, hd, sn, sub, ab, col, dd, k0, k1, k2, k3, k5, _, X _ _ ho, .of_isNs (PySem.W.isNs_of_in X hok), PySem.W.nsMap_none_of_in X hok hni, PySem.W.tail_of_in X ht⟩
    · cases q
  · cases q
def tRaise (t : TA) (C : Addr) (E : XK) : TS := fun _ σ H => t σ H fun vs H1 => vs.length ≤ sizeLine ∧ E (.ref C) none H1
theorem ps_raise {X : Cx} {E : XK} {x : Str} {C : Addr} {np cpos pos : Pos} {e : Expr} {es : List Expr} {t : TA} (hc : X.calm = true) (hg : Gl X x) (hm : X.mg x = some (.ref C)) (q : PySem.W.excIn X.K C bmVE "ValueError.__new__" = true) (ht : Throws X E) (ha : PA X (e :: es) t)
    (hdb : (x == ("__debug__" : Str)) = false := by decide) (he : starEach (e :: es) X.env = (false, eval e X.env) :: starEach es X.env := by rfl) (hpl : (backTo cpos (starEach es X.env)).any (·.1) = false := by rfl) :
    PS X (.Raise (some (.Call (.Name x np) (e :: es) [] cpos)) none pos) (tRaise t C E) := by
  intro pins s σ H D I h
  obtain ⟨tl, N, nm, qn, bs, hdct, sn, sub, ab, col, dd, k0, k1, k2, k3, k5, mN, hC, hN, hni, T⟩ := (own_at I.ok.mod.kin hm q).obj
  refine wpAny_Raise_call_subT (C := C) (nm := nm) (q := qn) (N := N) (bs := bs) (bm := tl) (hdct := hdct) (sn := sn) (sub := sub) (ab := ab) (col := col) (dd := dd) (k0 := k0) (k1 := k1) (k2 := k2) (k3 := k3) (k5 := k5)
    PySem.F.excBase_ValueError (mN := mN) (T.hasType PySem.F.excBase_ValueError.hasBase) (I.ok.hd hc) (by rw [he]; show (false || (backTo cpos (starEach es X.env)).any (·.1)) = false; rw [hpl]; rfl) hni (ld_glob I hg hm ⟨rfl, ?_⟩ hdb)
  have h2 := ha cpos pins s σ H _ I h
  rw [he] at h2 ⊢
  refine Calls.evalArgs_plain (wpAny_mono h2 (fun us s2 ⟨vs, H2, I2, r2, z, q2⟩ => ⟨rfl, by rw [← r2.length]; exact z, I2.bk _ _ hC, hN.keeps I2.bk, T.keeps I2.bk, fun h' e' hx => ht pins σ H2 s2 C e' us h' I2 q2 hx⟩) fun _ _ y => y)
end L2
namespace L2
open PySem PySem.Spec PyProof.Rows
abbrev Cx.into (X : Cx) (p0 : List (Addr × Obj)) (E : Value → Shared → Prop) : Cx := { X with xe := E, pn := X.pn ++ p0 }
abbrev Cx.inH (X : Cx) (a : Addr) : Cx := { X with A := X.A.mark (some (.ref a)), calm := false, xe := fun _ _ => False }
theorem Cx.Ok.into {X : Cx} (ok : X.Ok) (p0 : List (Addr × Obj)) (E : Value → Shared → Prop) : (X.into p0 E).Ok :=
  ⟨ok.mod, ok.kind, ok.glob, ok.blt, ok.above, ok.inj, ok.has, ok.cab, ok.hd, ok.frames, ok.stk, ok.exf, ok.bs, ok.bsz, ok.noex, ok.exfs, ok.funs, ok.frf⟩
theorem Cx.Ok.outof {X : Cx} {p0 : List (Addr × Obj)} {E : Value → Shared → Prop} (ok : (X.into p0 E).Ok) : X.Ok :=
  ⟨ok.mod, ok.kind, ok.glob, ok.blt, ok.above, ok.inj, ok.has, ok.cab, ok.hd, ok.frames, ok.stk, ok.exf, ok.bs, ok.bsz, ok.noex, ok.exfs, ok.funs, ok.frf⟩
theorem Cx.Ok.inH {X : Cx} (ok : X.Ok) (a : Addr) : (X.inH a).Ok :=
  ⟨ok.mod, ok.kind, ok.glob, ok.blt, ok.above, ok.inj, ok.has, ok.cab, (fun z => by cases z), ok.frames, ok.stk, ok.exf, ok.bs, ok.bsz, ok.noex, ok.exfs, ok.funs, ok.frf⟩
theorem Cx.Ok.unH {X : Cx} {a : Addr} (ok : (X.inH a).Ok) (hd : X.calm = true → X.A.handled = none) : X.Ok :=
  ⟨ok.mod, ok.kind, ok.glob, ok.blt, ok.above, ok.inj, ok.has, ok.cab, hd, ok.frames, ok.stk, ok.exf, ok.bs, ok.bsz, ok.noex, ok.exfs, ok.funs, ok.frf⟩
section
variable {X : Cx} {pins p0 : List (Addr × Obj)} {σ : St} {H : Hp} {s : Shared} {E : Value → Shared → Prop} {a : Addr}
theorem Inv.into (I : Inv X p0 σ H s) (E : Value → Shared → Prop) : Inv (X.into p0 E) [] σ H s :=
  ⟨I.ok.into p0 E, I.os, I.bare, I.base, I.loc, I.cell, I.free, I.freeC, fun p hp => I.pin p (by simpa using hp), I.hok, I.len⟩
theorem Inv.outof (I : Inv (X.into p0 E) pins σ H s) : Inv X p0 σ H s :=
  ⟨I.ok.outof, I.os, I.bare, I.base, I.loc, I.cell, I.free, I.freeC, fun p hp => I.pin p (List.mem_append_left _ hp), I.hok, I.len⟩
theorem Inv.inH (I : Inv X pins σ H s) (a : Addr) : Inv (X.inH a) pins σ H s :=
  ⟨I.ok.inH a, I.os, I.bare, I.base, I.loc, I.cell, I.free, I.freeC, I.pin, I.hok, I.len⟩
theorem Inv.unH (I : Inv (X.inH a) pins σ H s) (hd : X.calm = true → X.A.handled = none) : Inv X pins σ H s :=
  ⟨I.ok.unH hd, I.os, I.bare, I.base, I.loc, I.cell, I.free, I.freeC, I.pin, I.hok, I.len⟩
theorem SP.outof {D : Ends} {f : Flow} {s' : Shared} (h : SP (X.into p0 E) [] D f s') : SP X p0 D f s' := by
  cases f with
  | next => obtain ⟨σ', H', I, q⟩ := h; exact ⟨σ', H', I.outof, q⟩
  | brk => obtain ⟨σ', H', I, q⟩ := h; exact ⟨σ', H', I.outof, q⟩
  | cont => obtain ⟨σ', H', I, q⟩ := h; exact ⟨σ', H', I.outof, q⟩
  | ret u => obtain ⟨v, σ', H', I, r, q⟩ := h; exact ⟨v, σ', H', I.outof, r, q⟩
end
def Catches (X : Cx) (p0 : List (Addr × Obj)) (Hd : St → Addr → Hp → Prop) (E' : Value → Shared → Prop) : Prop :=
  ∀ (σ : St) (H : Hp) (s : Shared) (a T C : Addr), Inv X p0 σ H s → FlyAt a T (.ref C) .none s.heap → H a = none → H T = none → NewTo X p0 a → NewTo X p0 T → Hd σ C H → E' (.ref a) s
def tCallT (sp : Sp) (dvs : List V) (Hd : St → Addr → Hp → Prop) (t : TA) : TE := fun σ H Q => t σ H fun vs H1 => sp (vs ++ dvs) H1 Q fun cls _ H' => ∃ C, cls = .ref C ∧ Hd σ C H'
section
variable {X : Cx} {k : Nat} {f : Addr} {fd : FuncData} {ps : List Str} {sp : Sp} {dvs : List V} {ds : List Value} {x : Str} {p pos : Pos} {e : Expr} {es : List Expr} {t : TA} {p0 : List (Addr × Obj)} {Hd : St → Addr → Hp → Prop} {E' : Value → Shared → Prop}
theorem pe_callT (F : FnOk X.prog X.w X.K X.mg X.base (CXE X.prog X.w) k f fd ps sp) (hr : Room k X.A) (hg : Gl X x) (hm : X.mg x = some (.ref f)) (hk : PySem.W.keepIn X.K (.ref f) = true) (hb : Binds X.K fd ps ds) (hd : Vals dvs ds) (hex : X.ex = [])
    (hx : Catches X p0 Hd E') (ha : PA (X.into p0 E') (e :: es) t) (hdb : (x == ("__debug__" : Str)) = false := by decide) (he : starEach (e :: es) X.env = (false, eval e X.env) :: starEach es X.env := by rfl) (hpl : (backTo pos (starEach es X.env)).any (·.1) = false := by rfl) :
    PE (X.into p0 E') (.Call (.Name x p) (e :: es) [] pos) (tCallT sp dvs Hd t) := by
  intro pins s σ H Q I h
  refine wpAny_Call_Name_kw (ld_glob I hg hm ?_ hdb)
  refine PySem.W.callWith_K (h₀ := X.base) I.ok.mod.kin hk (thn (ha pos pins s σ H _ I h) fun us s1 ⟨vs, H1, I1, r, q⟩ => ⟨I1.kIn, ?_⟩) he hpl
  have r2 : Vals (vs ++ dvs) (us ++ ds) := r.append hd
  have hl : (us ++ ds).length = ps.length := by rw [← r2.length]; exact F.len _ _ _ _ q
  refine wpAny_call (codeAny_mono (F.run X.A X.stack s1 H1 ⟨us, []⟩ (us ++ ds) (vs ++ dvs) Q _ hr I1.env0 (hb s1 us I1.kIn hl) r2 q) fun r s' hq => ?_)
  cases r with
  | error er =>
    obtain ⟨a, T, C, H2, rfl, os, bare, un, hok, fly, aN, TN, hna, hnT, C', eC, hd'⟩ := hq
    cases eC
    have J := I1.outof
    have J2 := J.call' (ch := []) os un hok bare (fun b z => nomatch z)
    exact hx σ H2 s' a T C J2 fly hna hnT (J.newTo hex aN) (J.newTo hex TN) hd'
  | ok fl =>
    cases fl with
    | ret u => exact I1.after hq
    | next => exact False.elim hq
    | brk => exact False.elim hq
    | cont => exact False.elim hq
end
def excO (a C : Addr) : HO := .ext fun h => ∃ o vs, h.get? a = some o ∧ o.cls = .ref C ∧ o.data = .fields vs
theorem excO_ok {P : Program} {w : World} {H : Hp} {h : Heap} {a C : Addr} {o : Obj} {vs : Array Value} (e : h.get? a = some o) (c : o.cls = .ref C) (d : o.data = .fields vs) : ObjOk P w H h a (excO a C) :=
  ⟨⟨o, vs, e, c, d⟩, ⟨o, e⟩, fun h1 h2 ⟨o', vs', e', c', d'⟩ k => ⟨o', vs', k o' e', c', d'⟩⟩
theorem Inv.track {X : Cx} {pins : List (Addr × Obj)} {σ : St} {H : Hp} {s : Shared} {a : Addr} {o : HO} (I : Inv X pins σ H s) (hn : H a = none) (nw : NewTo X pins a) (ok : ObjOk X.prog X.w (upd H a o) s.heap a o) : Inv X pins σ (upd H a o) s := by
  have ne : ∀ b u, H b = some u → b ≠ a := fun b u e => ne_of_none e hn
  refine ⟨I.ok, I.os, I.bare, ⟨I.base.keep, I.base.slot, fun b ob e n hx => ?_, I.base.there, fun b xs e => ?_, fun b ob u e => ?_, fun b ps e => ?_⟩, I.loc, I.cell, ?_, fun x c e => ?_, fun p hp => ?_, fun b u e => ?_, I.len⟩
  · rw [upd_ne (fun z => by rw [z, nw.ent] at e; cases e)]
    exact I.base.free b ob e n hx
  · have z := I.base.tups b xs e
    rw [upd_ne (ne b _ z)]; exact z
  · have z := I.base.frzs b ob u e
    rw [upd_ne (ne b _ z)]; exact z
  · obtain ⟨more, z⟩ := I.base.tbls b ps e
    exact ⟨more, by rw [upd_ne (ne b _ z)]; exact z⟩
  · rw [upd_ne (Ne.symm nw.loc)]; exact I.free
  · rw [upd_ne (nw.cel x c e)]; exact I.freeC x c e
  · obtain ⟨e1, e2, e3⟩ := I.pin p hp
    exact ⟨e1, by rw [upd_ne (nw.pin p hp)]; exact e2, e3⟩
  · by_cases hb : b = a
    · subst hb
      rw [upd_same] at e
      cases e
      exact ok
    · rw [upd_ne hb] at e
      exact (I.hok b u e).stay (fun _ _ _ q => q) (fun c q => by rw [upd_ne (ne c _ q)]; exact q) fun c xs q => by rw [upd_ne (ne c _ q)]; exact q
theorem Inv.unset {X : Cx} {pins : List (Addr × Obj)} {σ : St} {H : Hp} {s : Shared} {i : Nat} {x : Str} {h' : Heap} {tk : Nat} {v : Option Value} {m : Str → Option Value} (I : Inv X pins σ H s) (hN : X.N.Nodup) (hi : X.N[i]? = some x)
    (hl : ∀ (j : Nat) (y : Str) (v' : V), X.N[j]? = some y → σ[j]? = some (some v') → Vis X.env.scope y → ∃ u, RelV v' u ∧ Look X.env s.heap m y u)
    (hn : h'.Ns X.env.locals (fun y => if y = x then v else m y)) (hs : Heap.SameBut X.env.locals s.heap h') : Inv X pins (σ.set i none) H { s with heap := h', toks := tk } := by
  have hiσ : i < σ.length := by rw [I.len]; exact (List.getElem?_eq_some_iff.mp hi).1
  refine ⟨I.ok, I.os, I.bare, ⟨fun b o e n hb hx => ?_, fun b o e n hb hx => ?_, I.base.free, fun b o e hx => ?_, I.base.tups, I.base.frzs, I.base.tbls⟩, ⟨_, hn, fun j y v' e1 e2 e3 => ?_⟩, fun y c e => ?_, I.free, I.freeC, fun p hp => ?_, fun b ob e => ?_, by simpa using I.len⟩
  · exact (hs.2 b (Nat.ne_of_lt (Nat.lt_of_lt_of_le (Heap.lt_size e) I.ok.above))).trans (I.base.keep b o e n hb hx)
  · obtain ⟨sl, e1⟩ := I.base.slot b o e n hb hx
    exact ⟨sl, (hs.2 b (Nat.ne_of_lt (Nat.lt_of_lt_of_le (Heap.lt_size e) I.ok.above))).trans e1⟩
  · obtain ⟨o', e1⟩ := I.base.there b o e hx
    exact ⟨o', (hs.2 b (Nat.ne_of_lt (Nat.lt_of_lt_of_le (Heap.lt_size e) I.ok.above))).trans e1⟩
  · by_cases hj : j = i
    · subst hj
      rw [List.getElem?_set_self hiσ] at e2
      cases e2
    · rw [List.getElem?_set_ne (Ne.symm hj)] at e2
      obtain ⟨u', r', q⟩ := hl j y v' e1 e2 e3
      refine ⟨u', r', ?_⟩
      rcases q with ⟨k, e⟩ | ⟨k, c, e, z⟩
      · by_cases hy : y = x
        · subst hy
          have hj' : X.N[j]? = some y := e1
          exact .inl ⟨k, (by exfalso; exact hj (nodup_ix hN hj' hi))⟩
        · exact .inl ⟨k, by show (if y = x then v else m y) = some u'; rw [if_neg hy]; exact e⟩
      · exact .inr ⟨k, c, e, z.sameBut hs (I.cne y c e)⟩
  · obtain ⟨w', z⟩ := I.cell y c e
    exact ⟨w', z.sameBut hs (I.cne y c e)⟩
  · obtain ⟨e, n, ne, nf, d⟩ := I.pin p hp
    exact ⟨(hs.2 p.1 ne).trans e, n, ne, nf, d⟩
  · refine (I.hok b ob e).stay (fun c w' hc q => (hs.2 c ?_).trans q) (fun _ q => q) fun _ _ q => q
    rintro rfl
    rcases hc with z | hc
    · rw [← z, I.free] at e; cases e
    · rw [I.free] at hc; cases hc
end L2
namespace L2
open PySem PySem.Spec PyProof.Rows
theorem exc_matches {M : Model} {A : Around} {E : Value → Shared → Prop} {s : Shared} {K : PySem.W.Frag} {a B C : Addr} {o : Obj} {Q : Bool → Shared → Prop} (X : K.In s.heap) (ho : s.heap.get? a = some o) (hc : o.cls = .ref C)
    (tB : PySem.W.typeIn K (.ref B) = some (.type "type")) (cB : (PySem.W.clsIn K B).isSome = true) (hB : PySem.W.mroIn K B (.type "BaseException") = some true) (hCB : PySem.W.mroIn K C (.ref B) = some true) (q : Q true s) :
    wpAny M A (excMatches (.ref a) (.ref B)) Q E s := by
  have L1 : PySem.W.Looks M s.heap (isInstance (.ref B) (.type "tuple")) false := (PySem.W.looks_typeIn X tB).andThen (PySem.W.Looks.of_pure tc_notTuple)
  have L2 : PySem.W.Looks M s.heap (isType (.ref B)) true := by
    obtain ⟨cd, e⟩ := Option.isSome_iff_exists.mp cB
    unfold PySem.W.clsIn at e
    split at e
    · rename_i c' d' cd' sl' ho'
      intro A' Q' E' s' k q'
      unfold isType loadHead
      exact wpAny_bind (wpAny_loadPart (k _ _ (X _ _ ho')) (wpAny_pure q'))
    · cases e
  have L3 := PySem.W.looks_mroIn (M := M) X hB
  have L4 : PySem.W.Looks M s.heap (typeOf (.ref a)) (.ref C) := hc ▸ (PySem.W.Looks.ld ho).andThen .now
  have L5 := PySem.W.looks_mroIn (M := M) X hCB
  have L23 : PySem.W.Looks M s.heap (isExcClass (.ref B)) true := by
    unfold isExcClass
    exact L2.andThen L3
  unfold excMatches
  refine wpAny_bind (L1.here ?_)
  simp only [Bool.false_eq_true, if_false]
  refine wpAny_bind (wpAny_pure ?_)
  simp only [List.forIn_cons, List.forIn_nil]
  refine wpAny_bind (wpAny_bind (wpAny_bind (L23.here ?_)))
  simp only [Bool.not_true, Bool.false_eq_true, if_false]
  refine wpAny_pure (wpAny_pure ?_)
  refine wpAny_bind (L4.here ?_)
  refine wpAny_bind (wpAny_bind (wpAny_bind (L5.here ?_)))
  simp only [if_true]
  exact wpAny_pure (wpAny_pure (wpAny_pure q))
def tTryAs (K : PySem.W.Frag) (tb : (St → Addr → Hp → Prop) → TS) (th : TS) (i : Nat) (B : Addr) : TS := fun D σ H => tb (fun σ' C H' => PySem.W.mroIn K C (.ref B) = some true ∧ ∀ a, H' a = none →
  th { nx := fun σ2 H2 => D.nx (σ2.set i none) H2, rt := fun _ _ => False } (σ'.set i (some (.ref a))) (upd H' a (excO a C))) D σ H
theorem ps_tryAs {X : Cx} {body : List Stmt} {x n : Str} {i : Nat} {B : Addr} {b0 : Stmt} {suite : List Stmt} {np hpos pos : Pos} {tb : (St → Addr → Hp → Prop) → TS} {th : TS} (hst : X.stack = X.env :: X.outer) (hfr : X.env.frame = some X.env.locals) (hex : X.ex = [])
    (hg : Gl X x) (hm : X.mg x = some (.ref B)) (tB : PySem.W.typeIn X.K (.ref B) = some (.type "type")) (cB : (PySem.W.clsIn X.K B).isSome = true) (hB : PySem.W.mroIn X.K B (.type "BaseException") = some true)
    (hN : X.N.Nodup) (hi : X.N[i]? = some n) (hn : X.env.scope.names.lookup n = some .local)
    (hb : ∀ p0 Hd E', Catches X p0 Hd E' → PSs (X.into p0 E') body (tb Hd)) (hs : ∀ a, PSs (X.inH a) (b0 :: suite) th) (hdb : (x == ("__debug__" : Str)) = false := by decide) :
    PS X (.Try body [.ExceptHandler (some (.Name x np)) (some n) (b0 :: suite) hpos] [] [] pos) (tTryAs X.K tb th i B) := by
  intro pins s σ H D I h
  have hcatch : Catches X pins (fun σ' C H' => PySem.W.mroIn X.K C (.ref B) = some true ∧ ∀ a, H' a = none → th { nx := fun σ2 H2 => D.nx (σ2.set i none) H2, rt := fun _ _ => False } (σ'.set i (some (.ref a))) (upd H' a (excO a C)))
      (fun e s₁ => wpAny (model X.prog X.w) X.A (noteFrame e X.env) (fun _ s₂ => wpAny (model X.prog X.w) X.A (setFlight e none) (fun _ s₃ =>
        wpAny (model X.prog X.w) X.A (handleBy e X.env [.ExceptHandler (some (.Name x np)) (some n) (b0 :: suite) hpos]) (SP X pins D) X.xe s₃) X.xe s₂) X.xe s₁) := by
    intro σ' H' s' a T C I' fly ha hT na nT hH
    obtain ⟨hsub, hd⟩ := hH
    have hfrm : X.A.frames = some (X.env :: X.outer) := by rw [← hst]; exact I'.ok.frames
    have hl : s'.heap.FunFrames X.base (X.env :: X.outer) := by rw [← hst]; exact I'.stack
    have sub : ∀ b ∈ frs (X.env :: X.outer), b ∈ X.env.locals :: X.fs := by rw [← hst]; exact I'.stkSub
    refine note_fly hfrm hfr hl fly fun h1 T1 fly1 t1 mv1 => ?_
    have I1 : Inv X pins σ' H' { s' with heap := h1 } := I'.flew sub mv1 (fun b hb' => by
      rcases List.mem_cons.mp hb' with z | z
      · rw [z]; exact ⟨na, ha⟩
      · have z' : b = T := by simpa using z
        rw [z']; exact ⟨nT, hT⟩)
    have nT1 : NewTo X pins T1 ∧ H' T1 = none := by
      rcases t1 with z | z
      · exact ⟨I'.newTo hex z, I'.hok.none_of z⟩
      · rw [z]; exact ⟨nT, hT⟩
    refine land_fly fly1 fun h2 fly2 k2 => ?_
    have I2 : Inv X pins σ' H' { s' with heap := h2 } := Inv.flew (s := { s' with heap := h1 }) I1 (fr := []) (ch := [T1]) (fun b z => nomatch z) ⟨fun b o _ hc e => k2 b o (by simpa using hc) e, fun b o z => nomatch z⟩ (fun b hb' => by
      have z : b = T1 := by simpa using hb'
      rw [z]; exact nT1)
    refine wpAny_handleBy_cons (codeAny_handlers_test (ld_glob (I2.inH a) hg hm ?_ hdb)) (by intro q; cases q)
    obtain ⟨oe, vs, oT, ts, a0, e1, e2, e3, _⟩ := id fly2
    refine exc_matches I2.kIn e1 e2 tB cB hB hsub ?_
    show codeAny _ _ (.handlers (.ref a) [.ExceptHandler none (some n) (b0 :: suite) hpos] X.env) _ _
    refine codeAny_handlers_suite_as ?_
    refine land_fly fly2 fun h3 fly3 k3 => ?_
    have I3 : Inv X pins σ' H' { s' with heap := h3 } := Inv.flew (s := { s' with heap := h2 }) I2 (fr := []) (ch := [T1]) (fun b z => nomatch z) ⟨fun b o _ hc e => k3 b o (by simpa using hc) e, fun b o z => nomatch z⟩ (fun b hb' => by
      have z : b = T1 := by simpa using hb'
      rw [z]; exact nT1)
    obtain ⟨oe3, vs3, _, _, _, f1, f2, f3, _⟩ := id fly3
    have I4 := I3.track ha na (excO_ok (C := C) f1 f2 f3)
    refine store_ok (X := X.inH a) (I4.inH a) hN hi (.inl hn) (v := .ref a) rfl (fun s5 I5 => ?_) (.inr hn)
    refine wpAny_mono (hs a pins s5 _ _ { nx := fun σ2 H2 => D.nx (σ2.set i none) H2, rt := fun _ _ => False } I5 (hd a ha)) (fun f s6 q => ?_) (fun _ _ q => q.elim)
    cases f with
    | next =>
      obtain ⟨σ6, H6, I6, q6⟩ := q
      have I6' := I6.unH I.ok.hd
      obtain ⟨m, hm6, hl6⟩ := I6'.loc
      refine wpAny_nameGoes_keeps hn hm6 (by rw [I.ok.kind]; rfl) fun h7 v7 hn7 sb7 => ?_
      exact ⟨_, _, I6'.unset hN hi hl6 hn7 sb7, q6⟩
    | brk => obtain ⟨_, _, _, z⟩ := q; exact z.elim
    | cont => obtain ⟨_, _, _, z⟩ := q; exact z.elim
    | ret u => obtain ⟨_, _, _, _, _, z⟩ := q; exact z.elim
  refine wpAny_Try_except (wpAny_mono (hb pins _ _ hcatch [] s σ H D (I.into _) h) (fun f s1 q => ?_) (fun e s1 q => q))
  have q' := SP.outof q
  cases f with
  | next => exact wpAny_execs_nil q'
  | brk => exact q'
  | cont => exact q'
  | ret u => exact q'
end L2
namespace L2
open PySem PySem.Spec PyProof.Rows PySem.W
theorem looks_find_data {K : PySem.W.Frag} {M : Model} {h : Heap} (X : K.In h) {x C : Addr} {name : Str} {g a : Value} (ha : PySem.W.findIn K (.ref C) name = some (some a)) (hg : PySem.W.specialIn K a "__get__" = some (some g)) (ht : PySem.W.takesIn K a = some true) :
    PySem.W.Looks M h (PySem.Builtin.ObjectAttr.find (.ref x) (.ref C) name) (.bind g a) := by
  have L1 := PySem.W.looks_findIn (M := M) X ha
  have L2 : PySem.W.Looks M h (PySem.Builtin.ObjectAttr.getOf (some a)) (some g) := PySem.W.looks_specialIn (M := M) X hg
  have L3 := PySem.W.looks_takesIn (M := M) X ht
  exact L1.andThen (L2.andThen ((show PySem.W.Looks M h (PySem.Builtin.ObjectAttr.dataDescriptor? (some a) (some g)) (some (g, a)) from L3.andThen .now).andThen (PySem.W.Looks.tag .now)))
structure ErrAt (h : Heap) (x C : Addr) : Prop where
  at_ : ∃ o vs, h.get? x = some o ∧ o.cls = .ref C ∧ o.data = .fields vs
theorem ErrAt.type {M : Model} {h : Heap} {x C : Addr} (I : ErrAt h x C) : PySem.W.Looks M h (typeOf (.ref x)) (.ref C) := by
  obtain ⟨o, vs, h1, h2, _⟩ := I.at_
  exact h2 ▸ (PySem.W.Looks.ld h1).andThen .now
section
variable {prog : Program} {w : World} {A : Around} {E : Value → Shared → Prop} {s : Shared} {K : PySem.W.Frag} {x C : Addr} {R : Result → Shared → Prop}
theorem err_class_get {tp : Value} (X : K.In s.heap) (I : ErrAt s.heap x C) (hm : mroIn K C (.type "object") = some true)
    (h : R (.ok (.ret (.ref C))) s) : codeAny (model prog w) A (.call (.builtin "getset_descriptor.__get__") ⟨[.builtin "object.__class__", .ref x, tp], []⟩) R s := by
  obtain ⟨o, vs, h1, h2, h3⟩ := I.at_
  obtain ⟨hh, g, dr, t, os⟩ := s
  have L0 := I.type (M := model prog w)
  have L1 := looks_mroIn (M := model prog w) X hm
  refine codeAny_call_builtin KF.slot_gs.plain KF.entry_gs (KF.slot_gs.check _ _ _ _ _ _ _ _ KF.type_class (KF.args_gs _ _ _) ?_)
  unfold Builtin.«getset_descriptor.__get__» Builtin.Getset_descriptor.descrGet
  rw [dga_obj]
  refine wpAny_bind (wpAny_pure ?_)
  unfold Builtin.Getset_descriptor.descrGetter Builtin.Getset_descriptor.descrCheckInstance Builtin.Getset_descriptor.descrNameAndClass isInstance
  simp only [KF.owner_class]
  repeat lk
  refine ⟨Code.quiet_builtin _ (by decide +kernel), codeAny_builtin KF.entry_class ?_⟩
  unfold Builtin.«object.__class__» shownTypeOf
  repeat lk
  exact h
variable (hga : findIn K (.ref C) "__getattribute__" = some (some (.builtin "BaseException.__getattribute__"))) (hha : findIn K (.ref C) "__getattr__" = some none) (ha : findIn K (.ref C) "__class__" = some (some (.builtin "object.__class__")))
  (hn : specialIn K (.builtin "object.__class__") "__get__" = some (some (.builtin "getset_descriptor.__get__"))) (htk : takesIn K (.builtin "object.__class__") = some true) (hm : mroIn K C (.type "object") = some true) (hb : mroIn K C (.type "BaseException") = some true)
include ha hn htk hm in
theorem err_entry {tk : Tok} {Q : Fin → Shared → Prop} (X : K.In s.heap) (I : ErrAt s.heap x C) (h : Q (.done (.ret (.ref C))) s) : wpAny (model prog w) A (Builtin.«object.__getattribute__» ⟨[.ref x, .str "__class__" tk], []⟩) Q E s := by
  have X0 := X
  have I0 := I
  obtain ⟨hh, g, dr, t, os⟩ := s
  have L0 := I.type (M := model prog w)
  have L1 := looks_find_data (M := model prog w) (x := x) X ha hn htk
  unfold Builtin.«object.__getattribute__»
  repeat lk
  refine wpAny_run (codeAny_mono (err_class_get X0 I0 hm ?_) fun r s' z => z)
  refine wpAny_pure ?_
  exact wpAny_pure h
include hb in
theorem err_check {M : Model} {nameV : Value} {Q : Unit → Shared → Prop} (X : K.In s.heap) (I : ErrAt s.heap x C) (h : Q () s) : wpAny M A (checkBuiltinCall "BaseException.__getattribute__" ⟨[.ref x, nameV], []⟩) Q E s := by
  obtain ⟨hh, g, dr, t, os⟩ := s
  have L0 := I.type (M := M)
  have L1 := looks_mroIn (M := M) X hb
  have hk : builtinKind "BaseException.__getattribute__" = some .slot := by decide +kernel
  have hsplit : splitId "BaseException.__getattribute__" = some ("BaseException", "__getattribute__") := by decide +kernel
  have ha := F.args_bexc_ga (.ref x) nameV
  simp only [checkBuiltinCall, hk, hsplit]
  refine wpAny_bind ?_
  unfold isInstance
  repeat lk
  exact h
include hga hha ha hn htk hm hb in
theorem err_class {Q : Option Value → Shared → Prop} (X : K.In s.heap) (I : ErrAt s.heap x C) (h : Q (some (.ref C)) { s with toks := s.toks + 1 }) : wpAny (model prog w) A (getAttr? (.ref x) "__class__") Q E s := by
  have fb := PySem.F.attr_ValueError.ga.bind (.ref x)
  obtain ⟨hh, g, dr, t, os⟩ := s
  have L0 := I.type (M := model prog w)
  have L1 := looks_findIn (M := model prog w) X hga
  have L2 := looks_findIn (M := model prog w) X hha
  unfold getAttr? getAttrBy? getAttrBy
  refine wpAny_bind (wpAny_mkText (wpAny_bind (wpAny_attempt (wpAny_holding (wpAny_bind (L0.at (wpAny_bind (L1.at ?_))))))))
  show wpAny _ _ (getAttrByItsOwn _ _ _ _ _ _) _ _ _
  refine wpAny_bind (L2.at (wpAny_bind (wpAny_attempt (wpAny_holding ?_))))
  show wpAny _ _ (boundAndCalled _ _ _) _ _ _
  refine wpAny_bind (wpAny_of_eq fb ?_)
  refine wpAny_call (codeAny_call_builtin PySem.F.attr_ValueError.ga.plain F.entry_bexc_ga (err_check hb X I (err_entry ha hn htk hm X I ?_)))
  exact wpAny_pure (wpAny_pure h)
end
structure ErrCls (K : Frag) (C : Addr) : Prop where
  ga : findIn K (.ref C) "__getattribute__" = some (some (.builtin "BaseException.__getattribute__"))
  gn : findIn K (.ref C) "__getattr__" = some none
  cl : findIn K (.ref C) "__class__" = some (some (.builtin "object.__class__"))
  gt : specialIn K (.builtin "object.__class__") "__get__" = some (some (.builtin "getset_descriptor.__get__"))
  tk : takesIn K (.builtin "object.__class__") = some true
  ob : mroIn K C (.type "object") = some true
  be : mroIn K C (.type "BaseException") = some true
  cs : (clsIn K C).isSome = true
theorem kitx_err {K : Frag} {x C : Addr} (c : ErrCls K C) : KitX K (.ref x) (.ref C) (fun h => ErrAt h x C) where
  ty := fun _ _ _ I => I.type
  it := fun _ _ X _ => by
    obtain ⟨cd, e⟩ := Option.isSome_iff_exists.mp c.cs
    unfold clsIn at e
    split at e
    · rename_i c' d' cd' sl' ho
      intro A' Q' E' s' k q
      unfold isType loadHead
      exact wpAny_bind (wpAny_loadPart (k _ _ (X _ _ ho)) (wpAny_pure q))
    · cases e
  ne := fun h tp dd its n sl X htp => by
    obtain ⟨cd, e⟩ := Option.isSome_iff_exists.mp c.cs
    refine Bool.eq_false_iff.mpr fun q => ?_
    have e' : C = tp := Value.ref.inj (beq_iff_eq.mp q)
    subst e'
    unfold clsIn at e
    split at e
    · rename_i c' d' cd' sl' ho
      have z := (X _ _ ho).symm.trans htp
      cases z
    · cases e
  ca := fun X I k => err_class c.ga c.gn c.cl c.gt c.tk c.ob c.be X I k
def clsV : V → Option Value
  | .ty n => some (.type n)
  | .ref a => some (.ref a)
  | _ => none
theorem clsV_rel {v : V} {u c : Value} (e : clsV v = some c) (r : RelV v u) : u = c := by
  cases v with
  | ty n => cases (show some (Value.type n) = some c from e); exact r
  | ref a => cases (show some (Value.ref a) = some c from e); exact r
  | _ => cases e
theorem call_isi {X : Cx} : CallR X (.builtin "isinstance") (fun xs H Q => ∃ x c cv t b, xs = [x, c] ∧ clsV c = some cv ∧ (TyOf X.K H x t ∨ ∃ a C, x = .ref a ∧ t = .ref C ∧ H a = some (excO a C) ∧ ErrCls X.K C) ∧ kitOne X.K t cv = some b ∧ Q (.bl b) H) := by
  intro pins s σ H xs us Q I r h
  obtain ⟨x, c, cv, t, b, rfl, hc, ty, hk, q⟩ := h
  obtain ⟨u, w', rfl, r1, r2⟩ := vals2 r
  have e := clsV_rel hc r2
  subst e
  rcases ty with ty | ⟨a, C, rfl, rfl, ha, hC⟩
  · exact isinst_ok I r1 ty hk fun tk => ⟨.bl b, H, I.tok tk, rfl, q⟩
  · cases (show u = Value.ref a from r1)
    obtain ⟨p, _, _⟩ := (show ObjOk X.prog X.w H s.heap a (excO a C) from I.hok a _ ha)
    exact kia_one (kitx_err hC) I.kIn ⟨p⟩ hk (fun z => nomatch z) fun tk => ⟨.bl b, H, I.tok tk, rfl, q⟩
end L2
namespace L2
open PySem PySem.Spec PyProof.Rows
mutual
inductive Dt (K : PySem.W.Frag) (H : Hp) : V → PyData → Prop where
  | non : Dt K H .non .none
  | bl (b : Bool) : Dt K H (.bl b) (.bool b)
  | int (i : Int) : Dt K H (.int i) (.int i)
  | str (x : Str) : Dt K H (.str x) (.str x)
  | lst {a : Addr} {xs : List V} {ds : List PyData} : SqL K H a xs → DtA K H xs ds → Dt K H (.ref a) (.list ds)
  | tup {a : Addr} {xs : List V} {ds : List PyData} : SqT K H a xs → DtA K H xs ds → Dt K H (.ref a) (.tuple ds)
inductive DtA (K : PySem.W.Frag) (H : Hp) : List V → List PyData → Prop where
  | nil : DtA K H [] []
  | cons {x : V} {d : PyData} {xs : List V} {ds : List PyData} : Dt K H x d → DtA K H xs ds → DtA K H (x :: xs) (d :: ds)
end
section
variable {X : Cx} {pins : List (Addr × Obj)} {σ : St} {H : Hp} {s : Shared}
mutual
theorem Dt.reads (I : Inv X pins σ H s) : ∀ {x : V} {d : PyData} {u : Value}, Dt X.K H x d → RelV x u → ∃ as, Reads s.heap u d as
  | _, _, _, .non, r => by cases (show _ = Value.none from r); exact ⟨_, .none⟩
  | _, _, _, .bl b, r => by cases (show _ = Value.bool b from r); exact ⟨_, .bool b⟩
  | _, _, u, .int i, r => by obtain ⟨t, e⟩ := (show ∃ t, u = Value.int i t from r); subst e; exact ⟨_, .int i t⟩
  | _, _, u, .str x, r => by obtain ⟨t, e⟩ := (show ∃ t, u = Value.str x t from r); subst e; exact ⟨_, .str x t⟩
  | _, _, u, .lst (a := a) hs hd, r => by
    cases (show u = Value.ref a from r)
    obtain ⟨its, rv, pl, _⟩ := I.list hs
    obtain ⟨as, ra⟩ := DtA.reads I hd rv
    obtain ⟨o, ho, hc, n, hdt⟩ := pl.isList
    exact ⟨_, .list ho hc hdt (by simpa using ra)⟩
  | _, _, u, .tup (a := a) hs hd, r => by
    cases (show u = Value.ref a from r)
    obtain ⟨its, rv, pl, _⟩ := I.tuple hs
    obtain ⟨as, ra⟩ := DtA.reads I hd rv
    obtain ⟨o, ho, hc, n, hdt⟩ := pl
    exact ⟨_, .tuple ho hc hdt (by simpa using ra)⟩
theorem DtA.reads (I : Inv X pins σ H s) : ∀ {xs : List V} {ds : List PyData} {us : List Value}, DtA X.K H xs ds → Vals xs us → ∃ as, ReadsAll s.heap us ds as
  | _, _, _, .nil, .nil => ⟨_, .nil⟩
  | _, _, _, .cons hd ht, .cons r rs => by
    obtain ⟨as, h1⟩ := Dt.reads I hd r
    obtain ⟨bs, h2⟩ := DtA.reads I ht rs
    exact ⟨_, .cons h1 h2⟩
end
end
theorem DtA.ints {K : PySem.W.Frag} {H : Hp} : ∀ ns : List Int, DtA K H (ns.map V.int) (ns.map PyData.int)
  | [] => .nil
  | n :: r => .cons (.int n) (DtA.ints r)
theorem DtA.bls {K : PySem.W.Frag} {H : Hp} : ∀ ns : List Bool, DtA K H (ns.map V.bl) (ns.map PyData.bool)
  | [] => .nil
  | n :: r => .cons (.bl n) (DtA.bls r)
def rEqD (K : PySem.W.Frag) (neg : Bool) : R2 := fun x y H Q => ∃ d e, Dt K H x d ∧ Dt K H y e ∧ SeqAt.shaped d = true ∧ SeqAt.shaped e = true ∧ Q (.bl (if neg then !PyData.eqv d e else PyData.eqv d e)) H
theorem op_eqD {X : Cx} (hu : X.A.units + 64 < cLine) : OpR X (compareOp .Eq) (rEqD X.K false) := by
  intro pins s σ H x y v u Q I rx ry h
  obtain ⟨d, e, h1, h2, s1, s2, q⟩ := h
  obtain ⟨as, r1⟩ := h1.reads I rx
  obtain ⟨bs, r2⟩ := h2.reads I ry
  exact eq_dataH r1 r2 s1 s2 hu ⟨.bl _, H, I, rfl, q⟩
theorem op_neD {X : Cx} (hu : X.A.units + 64 < cLine) : OpR X (compareOp .NotEq) (rEqD X.K true) := by
  intro pins s σ H x y v u Q I rx ry h
  obtain ⟨d, e, h1, h2, s1, s2, q⟩ := h
  obtain ⟨as, r1⟩ := h1.reads I rx
  obtain ⟨bs, r2⟩ := h2.reads I ry
  exact ne_dataH r1 r2 s1 s2 hu ⟨.bl _, H, I, rfl, q⟩
def tChain3 (r r' r'' : R2) (ta tb tc td : TE) : TE := fun σ H Q => ta σ H fun x H1 => tb σ H1 fun y H2 => r x y H2 fun z H3 => ∃ k, z = .bl k ∧
  (if k = true then tc σ H3 fun w' H4 => r' y w' H4 fun z' H5 => ∃ k', z' = .bl k' ∧ (if k' = true then td σ H5 fun v' H6 => r'' w' v' H6 Q else Q (.bl false) H5) else Q (.bl false) H3)
theorem pt_chain3 {X : Cx} {op op' op'' : CmpOp} {r r' r'' : R2} {a b c d : Expr} {ta tb tc td : TE} {pos : Pos} (ho : OpR X (compareOp op) r) (ho' : OpR X (compareOp op') r') (ho'' : OpR X (compareOp op'') r'') (ha : PE X a ta) (hb : PE X b tb) (hc : PE X c tc) (hd : PE X d td)
    (hm : lastMarks [op, op', op''] [b, c, d] = false := by with_unfolding_all rfl) : PT X (.Compare a [op, op', op''] [b, c, d] pos) (tTest (tChain3 r r' r'' ta tb tc td)) := by
  intro pins s σ H Q I h
  refine isTrue_chain (thn (ha pins s σ H _ I h) fun v s1 ⟨x, H1, I1, r1, q1⟩ => test_link (thn (hb pins s1 σ H1 _ I1 q1) fun u s2 ⟨y, H2, I2, r2, q2⟩ =>
    thn (ho pins s2 σ H2 x y v u _ I2 r1 r2 q2) fun d1 s3 ⟨z, H3, I3, r3, k, e, q3⟩ => ?_)) hm
  subst e
  cases r3
  refine wpAny_truthy_bool ?_
  cases k with
  | false =>
    obtain ⟨k', e', q'⟩ := q3
    cases e'
    exact ite_ff ⟨H3, I3, q'⟩
  | true =>
    refine ite_tt (test_link (thn (hc pins s3 σ H3 _ I3 q3) fun w' s4 ⟨z', H4, I4, r4, q4⟩ => thn (ho' pins s4 σ H4 y z' u w' _ I4 r2 r4 q4) fun d2 s5 ⟨z2, H5, I5, r5, k2, e2, q5⟩ => ?_))
    subst e2
    cases r5
    refine wpAny_truthy_bool ?_
    cases k2 with
    | false =>
      obtain ⟨k', e', q'⟩ := q5
      cases e'
      exact ite_ff ⟨H5, I5, q'⟩
    | true =>
      refine ite_tt (test_last (thn (hd pins s5 σ H5 _ I5 q5) fun v' s6 ⟨z3, H6, I6, r6, q6⟩ => thn (ho'' pins s6 σ H6 z' z3 w' v' _ I6 r4 r6 q6) fun d3 s7 ⟨z4, H7, I7, r7, k3, e3, q7⟩ => ?_))
      subst e3
      cases r7
      exact wpAny_truthy_bool ⟨H7, I7, q7⟩
def tJoin : List TE → Nat → TE
  | [], n => fun _ H Q => ∀ z : Str, z.length ≤ n → Q (.str z) H
  | t :: ts, n => fun σ H Q => t σ H fun x H1 => ∃ (z : Str) (m : Nat), x = .str z ∧ z.length ≤ m ∧ n + m ≤ sizeLine ∧ tJoin ts (n + m) σ H1 Q
inductive PJ (X : Cx) : List Expr → List TE → Prop where
  | nil : PJ X [] []
  | cons {e : Expr} {es : List Expr} {t : TE} {ts : List TE} : PE X e t → PJ X es ts → PJ X (e :: es) (t :: ts)
theorem joins_of {X : Cx} {pins : List (Addr × Obj)} {σ : St} {Q : VK} : ∀ {es : List Expr} {ts : List TE}, PJ X es ts → ∀ (n : Nat) (acc : Str) (s : Shared) (H : Hp), acc.length ≤ n → n ≤ sizeLine → Inv X pins σ H s → tJoin ts n σ H Q →
    Joins (model X.prog X.w) X.A X.xe (evalEach es X.env) acc (fun out s₁ => out.length ≤ sizeLine ∧ EP X pins σ Q (.str out s₁.toks) { s₁ with toks := s₁.toks + 1 }) s
  | _, _, .nil, n, acc, s, H, hn, hz, I, h => ⟨Nat.le_trans hn hz, .str acc, H, I.tok _, ⟨_, rfl⟩, h acc hn⟩
  | _, _, .cons he hr, n, acc, s, H, hn, hz, I, h => by
    refine thn (he pins s σ H _ I h) fun v s1 ⟨x, H1, I1, r1, z, m, ex, hm, hs, hq⟩ => ?_
    subst ex
    obtain ⟨t, rfl⟩ := r1
    have hl : (acc ++ z).length ≤ n + m := by rw [strLen_append]; omega
    exact ⟨z, t, rfl, Nat.le_trans hl hs, joins_of hr (n + m) (acc ++ z) s1 H1 hl hs I1 hq⟩
theorem pe_fstr {X : Cx} {v₁ v₂ : Expr} {rest : List Expr} {ts : List TE} {pos : Pos} (h : PJ X (v₁ :: v₂ :: rest) ts) : PE X (.JoinedStr (v₁ :: v₂ :: rest) pos) (tJoin ts 0) := by
  intro pins s σ H Q I hw
  exact wpAny_JoinedStr (joins_of h 0 Str.empty s H (Nat.zero_le _) (Nat.zero_le _) I hw)
def tAnyS (te : TE) (pre : V → Hp → Prop) : TE := fun σ H Q => te σ H fun x H1 => pre x H1 ∧ ∀ z : Str, z.length ≤ 5000 → Q (.str z) H1
theorem small_int {i : Int} (h : i.natAbs < 2 ^ 64) : i.natAbs.log2 < 1920 := by
  by_cases h0 : i.natAbs = 0
  · rw [h0]; decide
  · exact (Nat.log2_lt h0).mpr (Nat.lt_of_lt_of_le h (Nat.pow_le_pow_right (by decide) (by decide)))
theorem int_text_short {i : Int} (h : i.natAbs < 2 ^ 64) : (Str.ofString (toString i)).length ≤ 2000 := by
  have e := int_text_length_le (k := 1920) (by decide) (small_int h)
  rw [PySem.ofString_length]; omega
theorem pe_fmtI {X : Cx} {e : Expr} {te : TE} {pos : Pos} (he : PE X e te) : PE X (.FormattedValue e (-1) none pos) (tAnyS te fun x _ => ∃ i, x = .int i ∧ i.natAbs < 2 ^ 64) := by
  intro pins s σ H Q I h
  refine wpAny_FormattedValue_plain (thn (he pins s σ H _ I h) fun v s1 ⟨x, H1, I1, r1, ⟨i, ex, hi⟩, hq⟩ => ?_)
  subst ex
  obtain ⟨t, rfl⟩ := r1
  exact wpAny_formatField_int (small_int hi) ⟨.str _, H1, I1.tok _, ⟨_, rfl⟩, hq _ (Nat.le_trans (int_text_short hi) (by decide))⟩
theorem pe_reprI {X : Cx} {e : Expr} {te : TE} {pos : Pos} (he : PE X e te) : PE X (.FormattedValue e 114 none pos) (tAnyS te fun x _ => ∃ i, x = .int i ∧ i.natAbs < 2 ^ 64) := by
  intro pins s σ H Q I h
  refine wpAny_FormattedValue_repr (thn (he pins s σ H _ I h) fun v s1 ⟨x, H1, I1, r1, ⟨i, ex, hi⟩, hq⟩ => ?_)
  subst ex
  obtain ⟨t, rfl⟩ := r1
  have hz := int_text_short hi
  refine wpAny_pyReprObj_gives (typeIs_int _ _ _) F.slot_int_repr F.entry_int_repr (F.args_int_repr_1 _) (gives_int_repr i t (small_int hi)) ?_ rfl (int_text_fits (small_int hi))
  exact formatField_str (fun t' tk => ⟨.str _, H1, I1.tok _, ⟨_, rfl⟩, hq _ (Nat.le_trans hz (by decide))⟩) (int_text_fits (small_int hi))
theorem pe_reprT {X : Cx} {e : Expr} {te : TE} {pos : Pos} (he : PE X e te) (hg : X.A.guards = some []) (hu : X.A.units + 64 < cLine) :
    PE X (.FormattedValue e 114 none pos) (tAnyS te fun x H => ∃ a i j, x = .ref a ∧ SqT X.K H a [.int i, .int j] ∧ i.natAbs < 2 ^ 64 ∧ j.natAbs < 2 ^ 64) := by
  intro pins s σ H Q I h
  refine wpAny_FormattedValue_repr (thn (he pins s σ H _ I h) fun v s1 ⟨x, H1, I1, r1, ⟨a, i, j, ex, hs, hi, hj⟩, hq⟩ => ?_)
  subst ex
  cases r1
  obtain ⟨as, rd0⟩ := Dt.reads I1 (Dt.tup hs (DtA.ints [i, j])) (show RelV (.ref a) (.ref a) from rfl)
  have rd : Reads s1.heap (.ref a) (.tuple [.int i, .int j]) as := rd0
  have hz : (PyData.shown (.tuple [.int i, .int j])).length ≤ 5000 := by
    have h1 := int_text_short hi
    have h2 := int_text_short hj
    have e0 : PyData.shown (.tuple [.int i, .int j]) = tupleText [Str.ofString (toString i), Str.ofString (toString j)] := by
      simp only [PyData.shown, PyData.shownAll]
    rw [e0]
    generalize Str.ofString (toString i) = x1 at h1
    generalize Str.ofString (toString j) = x2 at h2
    have h3 : (Str.join ", " [x1, x2]).length + 2 = piled [x1, x2] := join_length_add _ (by simp)
    have h4 : piled [x1, x2] = x1.length + 2 + (x2.length + 2) := by simp [piled]
    show ((("(" : String) : Str) ++ Str.join ", " [x1, x2] ++ ((")" : String) : Str)).length ≤ 5000
    have e1 : (((("(" : String) : Str))).length = 1 := rfl
    have e2 : ((((")" : String)) : Str)).length = 1 := rfl
    rw [strLen_append, strLen_append, e1, e2]
    omega
  have hz2 : (PyData.shown (.tuple [.int i, .int j])).length ≤ sizeLine := Nat.le_trans hz (by decide)
  refine pyReprObj_of_reads rd ?_ (PyData.noDict_hsm (by simp [PyData.hasDict, PyData.hasDictAll])) hg ?_ (fun _ _ q => q) (fun h' u tk kp => ?_) hz2
  · simp only [PyData.showable, PyData.showableAll, Bool.and_true, Bool.and_eq_true, decide_eq_true_eq]
    exact ⟨small_int hi, small_int hj⟩
  · have : PyData.depth (.tuple [.int i, .int j]) = 1 := by simp [PyData.depth, PyData.depthAll]
    rw [this]; omega
  · exact formatField_str (fun t' tk' => ⟨.str _, H1, I1.kept (t' := _) kp, ⟨_, rfl⟩, hq _ hz⟩) hz2
end L2
namespace L2
open PySem PySem.Spec PyProof.Rows
theorem closure_go {env : Env} : ∀ (names : List (Str × NameKind)) (acc : List (Str × Addr)), (∀ y ∈ names, y.2 = .free → ∃ c, env.cells.lookup y.1 = some c) → (∀ y c, acc.lookup y = some c → env.cells.lookup y = some c) →
    ∃ cl, (forIn names acc (fun (x : Str × NameKind) (cs : List (Str × Addr)) => (match x with
      | (name, kind) => if (kind == NameKind.free) = true then do let a ← cellOf env name; pure (ForInStep.yield ((name, a) :: cs)) else pure (ForInStep.yield cs) : Sem (ForInStep (List (Str × Addr))))) : Sem (List (Str × Addr))) = pure cl ∧
      (∀ y c, cl.lookup y = some c → env.cells.lookup y = some c) ∧ (∀ y, (acc.lookup y).isSome = true → (cl.lookup y).isSome = true) ∧ ∀ y ∈ names, y.2 = .free → (cl.lookup y.1).isSome = true
  | [], acc, _, h2 => ⟨acc, rfl, h2, fun _ z => z, fun _ z => nomatch z⟩
  | (n, k) :: r, acc, h1, h2 => by
    by_cases hk : k = .free
    · subst hk
      obtain ⟨c, hc⟩ := h1 _ (.head _) rfl
      have e : cellOf env n = pure c := by unfold cellOf; rw [hc]
      obtain ⟨cl, q1, q2, q3, q4⟩ := closure_go r ((n, c) :: acc) (fun y hy => h1 y (.tail _ hy)) (fun y c' z => by
        rw [List.lookup_cons] at z
        by_cases hy : y = n
        · subst hy; simp at z; rw [← z]; exact hc
        · have : (y == n) = false := by simpa using hy
          rw [this] at z; exact h2 y c' z)
      refine ⟨cl, ?_, q2, fun y z => q3 y (by rw [List.lookup_cons]; split <;> simp_all), fun y hy hf => ?_⟩
      · rw [List.forIn_cons]
        show ((do let a ← cellOf env n; pure (ForInStep.yield ((n, a) :: acc))) >>= _) = _
        rw [e]
        exact q1
      · rcases List.mem_cons.mp hy with z | z
        · subst z; exact q3 n (by simp [List.lookup_cons])
        · exact q4 y z hf
    · have hk' : (k == NameKind.free) = false := by simpa using hk
      obtain ⟨cl, q1, q2, q3, q4⟩ := closure_go r acc (fun y hy => h1 y (.tail _ hy)) h2
      refine ⟨cl, ?_, q2, q3, fun y hy hf => ?_⟩
      · rw [List.forIn_cons]
        show ((if (k == NameKind.free) = true then _ else _) >>= _) = _
        rw [hk']
        exact q1
      · rcases List.mem_cons.mp hy with z | z
        · subst z; exact absurd hf hk
        · exact q4 y z hf
theorem closure_of {scope : Scope} {env : Env} (h : ∀ y ∈ scope.names, y.2 = .free → ∃ c, env.cells.lookup y.1 = some c) :
    ∃ cl, closureFor scope env = pure cl ∧ (∀ y c, cl.lookup y = some c → env.cells.lookup y = some c) ∧ ∀ y ∈ scope.names, y.2 = .free → cl.lookup y.1 = env.cells.lookup y.1 := by
  obtain ⟨cl, q1, q2, _, q4⟩ := closure_go scope.names [] h (fun _ _ z => nomatch z)
  refine ⟨cl, ?_, q2, fun y hy hf => ?_⟩
  · unfold closureFor
    exact (bind_pure _).trans q1
  · obtain ⟨c, hc⟩ := Option.isSome_iff_exists.mp (q4 y hy hf)
    rw [hc, q2 _ _ hc]
abbrev Cx.comp (X : Cx) (scope : Scope) (cl : List (Str × Addr)) (C : Addr) (N' : List Str) (s1 : Shared) (H1 : Hp) (fp : List Addr) : Cx :=
  { prog := X.prog, w := X.w, K := X.K, mg := X.mg, base := X.base, A := X.A, N := N', s₀ := s1, H₀ := H1, env := compEnvC scope cl C X.env, outer := X.stack, stack := X.stack, ex := fp, fn := fun _ => false, calm := X.calm, pn := [], xe := fun _ _ => False }
def compSt (σ : St) (ix : List Nat) (v : Option V) : St := v :: ix.map fun j => (σ[j]?).join
structure CompSc (X : Cx) (scope : Scope) (x : Str) (fr : List Str) (ix : List Nat) : Prop where
  kind : scope.kind = .function
  nocell : ∀ y ∈ scope.names, y.2 ≠ .cell
  names : ∀ y ∈ scope.names, y.2 = .local → scope.names.lookup y.1 = some .local
  own : scope.names.lookup x = some .local
  nd : (x :: fr).Nodup
  free : ∀ y ∈ scope.names, y.2 = .free → X.env.kindOf y.1 = some .cell ∨ X.env.kindOf y.1 = some .free
  len : fr.length = ix.length
  at_ : ∀ (i j : Nat) (y : Str), ix[i]? = some j → fr[i]? = some y → X.N[j]? = some y ∧ (X.env.kindOf y = some .cell ∨ X.env.kindOf y = some .free) ∧ Vis X.env.scope y ∧ ((relabel scope X.env).names.lookup y = some .cell ∨ (relabel scope X.env).names.lookup y = some .free) ∧ ∃ k, (y, k) ∈ scope.names ∧ k = NameKind.free
theorem lookup_relabel {scope : Scope} {env : Env} : ∀ {names : List (Str × NameKind)} {x : Str} {k : NameKind}, (names.map fun (n, k) => if (k == NameKind.free && env.scope.kind == .function && env.kindOf n == some .cell) then (n, NameKind.cell) else (n, k)).lookup x = some k →
    k = .cell ∨ k = .free → (∃ y ∈ names, y.1 = x ∧ (y.2 = .free ∨ y.2 = .cell))
  | [], _, _, h, _ => by simp at h
  | (n, k0) :: r, x, k, h, hk => by
    rw [List.map_cons] at h
    dsimp only at h
    by_cases hc : (k0 == NameKind.free && env.scope.kind == .function && env.kindOf n == some .cell) = true
    · have hf : k0 = .free := by simp at hc; exact hc.1.1
      rw [if_pos hc, List.lookup_cons] at h
      cases hx : x == n with
      | true => exact ⟨_, .head _, (beq_iff_eq.mp hx).symm, .inl hf⟩
      | false =>
        rw [hx] at h
        obtain ⟨y, hy, q⟩ := lookup_relabel (scope := scope) h hk
        exact ⟨y, .tail _ hy, q⟩
    · rw [if_neg hc, List.lookup_cons] at h
      cases hx : x == n with
      | true =>
        rw [hx] at h
        cases h
        exact ⟨_, .head _, (beq_iff_eq.mp hx).symm, hk.symm⟩
      | false =>
        rw [hx] at h
        obtain ⟨y, hy, q⟩ := lookup_relabel (scope := scope) h hk
        exact ⟨y, .tail _ hy, q⟩
section
variable {X : Cx} {pins : List (Addr × Obj)} {σ : St} {H H1 : Hp} {s s1 : Shared} {scope : Scope} {x : Str} {fr : List Str} {ix : List Nat} {cl : List (Str × Addr)} {fp : List Addr}
theorem Inv.block {h4 : Heap} {m4 : Str → Option Value} {tk : Nat} (I : Inv X pins σ H1 s1) (S : CompSc X scope x fr ix) (hf : ∀ b ∈ fp, FpOk X pins H1 b) (hfo : ∀ b ∈ fp, b < s1.heap.objs.size)
    (q2 : ∀ y c, cl.lookup y = some c → X.env.cells.lookup y = some c) (q3 : ∀ y ∈ scope.names, y.2 = .free → cl.lookup y.1 = X.env.cells.lookup y.1)
    (hn : h4.Ns s1.heap.objs.size m4) (hk : ∀ b o, s1.heap.get? b = some o → h4.get? b = some o) :
    Inv (X.comp scope cl s1.heap.objs.size (x :: fr) s1 H1 fp) [] (compSt σ ix none) H1 { s1 with heap := h4, toks := tk } := by
  have hkind : (relabel scope X.env).kind = .function := S.kind
  have stN : ∀ b ∈ frs X.stack, b ∉ fp := fun b hb hm => by
    obtain ⟨_, f1, f2, _⟩ := hf b hm
    rcases List.mem_cons.mp (I.stkSub b hb) with z | z
    · exact f1 z
    · exact f2 z
  refine ⟨⟨I.ok.mod, hkind, I.ok.glob, I.ok.blt, Nat.le_refl _, fun y z c h1 h2 => I.ok.inj y z c (q2 y c h1) (q2 z c h2), fun y hy => ?_, (fun y c z _ => by cases z), I.ok.hd, I.ok.frames, .inl rfl, fun b hb => ⟨Nat.ne_of_lt (hfo b hb), fun y c e z => ?_⟩,
    I.bs, Nat.le_trans I.ok.bsz I.sz, fun b o e hb => ?_, fun b hb z => stN b z hb, I.stack, I.stkFree⟩, rfl, I.bare, Un.kept hk, ⟨m4, hn, fun i y v h1 h2 h3 => ?_⟩, fun y c e => ?_, I.hok.fresh (Nat.le_refl _), fun y c e => I.freeC y c (q2 y c e), (fun p hp => absurd (show p ∈ ([] : List (Addr × Obj)) from hp) (by simp)), I.hok.kept hk, ?_⟩
  · -- every name of a cell has one
    have hy' : ∃ k, (relabel scope X.env).names.lookup y = some k ∧ (k = .cell ∨ k = .free) := by
      rcases hy with z | z
      · exact ⟨_, z, .inl rfl⟩
      · exact ⟨_, z, .inr rfl⟩
    obtain ⟨k, e, hk'⟩ := hy'
    obtain ⟨z, hz, e1, e2⟩ := lookup_relabel (scope := scope) e hk'
    have hfree : z.2 = .free := e2.resolve_right (S.nocell z hz)
    obtain ⟨c, hc⟩ := I.ok.has z.1 (S.free z hz hfree)
    exact ⟨c, by show cl.lookup y = some c; rw [← e1, q3 z hz hfree]; exact hc⟩
  · obtain ⟨_, _, _, _, f4, _⟩ := hf b hb
    exact f4 y c (q2 y c e) z
  · obtain ⟨_, _, _, f3, _⟩ := hf b hb
    rcases f3 with z | z
    · exact I.ok.noex b o e z
    · exact absurd (Nat.lt_of_lt_of_le (Nat.lt_of_lt_of_le (Heap.lt_size e) I.ok.bsz) z) (Nat.lt_irrefl _)
  · cases i with
    | zero => simp [compSt] at h2
    | succ i =>
      have h1' : fr[i]? = some y := by simpa using h1
      have h2' : (ix.map fun j => (σ[j]?).join)[i]? = some (some v) := by simpa [compSt] using h2
      rw [List.getElem?_map] at h2'
      cases ej : ix[i]? with
      | none => rw [ej] at h2'; cases h2'
      | some j =>
        rw [ej] at h2'
        have hσ : σ[j]? = some (some v) := by
          have z : (σ[j]?).join = some v := by simpa using h2'
          cases w : σ[j]? with
          | none => rw [w] at z; cases z
          | some o => rw [w] at z; simp at z; rw [z]
        obtain ⟨a1, a2, a3, a4, k, a5, a6⟩ := S.at_ i j y ej h1'
        obtain ⟨m, hm, hl⟩ := I.loc
        obtain ⟨u, r, l⟩ := hl j y v a1 hσ a3
        refine ⟨u, r, .inr ⟨a4, ?_⟩⟩
        rcases l with ⟨b1, _⟩ | ⟨_, c, b2, b3⟩
        · rcases a2 with z | z
          · rw [z] at b1; cases b1
          · rw [z] at b1; cases b1
        · refine ⟨c, ?_, ?_⟩
          · show cl.lookup y = some c
            rw [q3 (y, k) a5 a6]; exact b2
          · obtain ⟨o, ho, hd⟩ := b3
            exact ⟨o, hk _ _ ho, hd⟩
  · obtain ⟨v, o, ho, hd⟩ := I.cell y c (q2 y c e)
    exact ⟨v, o, hk _ _ ho, hd⟩
  · simp [compSt, S.len]
end
theorem compLoop_go {prog : Program} {w : World} {A : Around} {R : Result → Shared → Prop} {s : Shared} {elt target iter : Expr} {ifs : List Expr} {scope : Scope} {pos : Pos} {it acc : Value} {env : Env} (I : Nat → Shared → Prop)
    (turn : ∀ n s, I n s → wpAny (model prog w) A (pyNext it) (fun r s₁ => match r with
      | none => R (.ok .next) s₁
      | some v => wpAny (model prog w) A (letOwnedTupleGo target it v) (fun _ s₀ => wpAny (model prog w) A (assign target env v) (fun _ s₂ =>
          wpAny (model prog w) A (forIn ifs true fun c r => if r = true then do let ok ← isTrue c env (eval c env); pure (ForInStep.yield ok) else pure (ForInStep.yield r)) (fun ok s₃ =>
            if ok = true then wpAny (model prog w) A (eval elt env) (fun x s₄ =>
              wpAny (model prog w) A (call (.builtin "list.append") [acc, x]) (fun _ s₅ => ∃ m, m < n ∧ I m s₅) (fun _ _ => False) s₄) (fun _ _ => False) s₃
            else ∃ m, m < n ∧ I m s₃) (fun _ _ => False) s₂) (fun _ _ => False) s₀) (fun _ _ => False) s₁) (fun _ _ => False) s)
    (n : Nat) (h : I n s) :
    codeAny (model prog w) A (.compLoop (.ListComp elt [⟨target, iter, ifs, 0⟩] scope pos) 0 it acc env) R s := by
  refine codeAny_loop rfl I (fun n s hI => ?_) n h
  show wpAny _ A ((compTurn (.ListComp elt [⟨target, iter, ifs, 0⟩] scope pos) 0 it acc env).onRaise (fun x => do noteFrame x env; theTreesLotGoes x)) _ _ s
  refine wpAny_noted ?_
  rw [compTurn_list]
  refine wpAny_bind (wpAny_standAt (wpAny_bind (wpAny_mono (turn n s hI) (fun r s₁ h₁ => ?_) fun _ _ h' => h'.elim)))
  cases r with
  | none => exact wpAny_pure h₁
  | some v =>
    refine wpAny_bind (wpAny_mono h₁ (fun _ s₀ h₀ => ?_) fun _ _ h' => h'.elim)
    refine wpAny_bind (wpAny_mono h₀ (fun _ s₂ h₂ => wpAny_bind (wpAny_mono h₂ (fun ok s₃ h₃ => ?_) fun _ _ h' => h'.elim)) fun _ _ h' => h'.elim)
    cases ok with
    | false => exact wpAny_pure ⟨rfl, h₃⟩
    | true =>
      exact wpAny_bind (wpAny_bind (wpAny_mono h₃ (fun x s₄ h₄ => wpAny_bind (wpAny_mono h₄ (fun _ s₅ h₅ => wpAny_pure (wpAny_pure ⟨rfl, h₅⟩)) fun _ _ h' => h'.elim)) fun _ _ h' => h'.elim))
def PTs (X : Cx) (ifs : List Expr) (t : TT) : Prop := ∀ (pins : List (Addr × Obj)) (s : Shared) (σ : St) (H : Hp) (Q : Bool → Hp → Prop), Inv X pins σ H s → t σ H Q →
  wpAny (model X.prog X.w) X.A (forIn ifs true fun c r => if r = true then do let ok ← isTrue c X.env (eval c X.env); pure (ForInStep.yield ok) else pure (ForInStep.yield r)) (TP X pins σ Q) X.xe s
def tTrue : TT := fun _ H Q => Q true H
theorem pts_nil {X : Cx} : PTs X [] tTrue := fun _ _ _ H _ I h => wpAny_tests_nil ⟨H, I, h⟩
theorem pts_one {X : Cx} {c : Expr} {t : TT} (h : PT X c t) : PTs X [c] t := fun pins s σ H Q I q => wpAny_tests_one (h pins s σ H Q I q)
def tComp (wi : TI) (ix : List Nat) (tt : TT) (te : TE) : TE := fun σ H Q => wi σ H fun J H1 => ∀ acc, H1 acc = none → ∃ W : Nat → Nat → List V → Hp → Prop, (∃ m, W 0 m [] (upd H1 acc (.lst []))) ∧ ∀ i m ys H2, W i m ys H2 →
  (J.stop i H2 ∧ Q (.ref acc) H2) ∨ (J.go i H2 ∧ ys.length < sizeLine ∧ ∀ v H3, J.yld i H2 v H3 → tt (compSt σ ix (some v)) H3 fun c H4 =>
    if c = true then te (compSt σ ix (some v)) H4 fun y H5 => H5 acc = some (.lst ys) ∧ ∃ m', m' < m ∧ W (i + 1) m' (ys ++ [y]) (upd H5 acc (.lst (ys ++ [y]))) else ∃ m', m' < m ∧ W (i + 1) m' ys H4)
section
variable {X : Cx} {scope : Scope} {x : Str} {fr : List Str} {ix : List Nat} {elt iter : Expr} {ifs : List Expr} {px pos : Pos} {wi : TI} {tt : TT} {te : TE}
theorem pe_comp (hc : X.calm = true) (S : CompSc X scope x fr ix) (hi : PI X (.Name x px) iter wi)
    (ht : ∀ cl C s1 H1 fp, PTs (X.comp scope cl C (x :: fr) s1 H1 fp) ifs tt) (he : ∀ cl C s1 H1 fp, PE (X.comp scope cl C (x :: fr) s1 H1 fp) elt te)
    (hs : ∀ z, foldedSetIterable iter X.env z = pure z := by intro _; rfl) : PE X (.ListComp elt [⟨.Name x px, iter, ifs, 0⟩] scope pos) (tComp wi ix tt te) := by
  intro pins s σ H Q I h
  obtain ⟨cl, hclos, q2, q3⟩ := closure_of (scope := scope) (env := X.env) (fun y hy hf => I.ok.has y.1 (S.free y hy hf))
  rw [eval_ListComp]
  refine wpAny_comprehension_free (use := none) rfl hs hclos S.kind S.names (thn (hi pins s σ H _ I h) fun v s1 h1 => thn h1 fun itv s2 h2 => ?_)
  obtain ⟨it, fp, tn, J, H2, rfl, I2, T, st2, f2, h2⟩ := h2
  refine wpAny_newObj_type ?_
  have hacc := I2.fresh
  have I3 : Inv X pins σ (upd H2 s2.heap.objs.size (.lst [])) { s2 with heap := s2.heap.push { cls := .type "list", dict := none, data := .seq ([] : List Value).toArray } } := I2.lnew (its := []) (t' := s2.toks) .nil (Nat.zero_le _)
  obtain ⟨W, ⟨m0, w0⟩, turn⟩ := h2 s2.heap.objs.size hacc
  generalize hs3 : ({ s2 with heap := s2.heap.push { cls := .type "list", dict := none, data := .seq ([] : List Value).toArray } } : Shared) = s3 at I3 ⊢
  have kp3 : ∀ b o, s2.heap.get? b = some o → s3.heap.get? b = some o := fun b o e => by rw [← hs3]; exact Heap.get?_push_of_some _ e
  have fpo : ∀ b ∈ fp, ∃ o, s2.heap.get? b = some o ∧ ∀ v, o.data ≠ .cell v := T.obj _ _ st2
  have accNe : ∀ b ∈ fp, b ≠ s2.heap.objs.size := fun b hb z => by
    obtain ⟨o, e, _⟩ := fpo b hb
    exact absurd (Heap.lt_size e) (by rw [z]; exact Nat.lt_irrefl _)
  have f3 : ∀ b ∈ fp, FpOk X pins (upd H2 s2.heap.objs.size (.lst [])) b := fun b hb => ⟨by rw [upd_ne (accNe b hb)]; exact (f2 b hb).1, (f2 b hb).2⟩
  have st3 : tn 0 s3.heap := T.keep _ _ _ st2 fun b _ o e => kp3 b o e
  refine wpAny_newFunctionEnv S.nocell (fun y hy => nomatch hy) (fun h4 hn4 hb4 => ?_) S.kind
  have kp4 : ∀ b o, s3.heap.get? b = some o → h4.get? b = some o := fun b o e => hb4.extBut b o (Nat.ne_of_lt (Heap.lt_size e)) (Heap.get?_push_of_some _ e)
  have I4 := I3.block (fp := fp) (cl := cl) (tk := s3.toks + ([] : List (Str × Value)).length) S f3 (fun b hb => by obtain ⟨o, e, _⟩ := fpo b hb; exact Heap.lt_size (kp3 b o e)) q2 q3 hn4 kp4
  have st4 : tn 0 h4 := T.keep _ _ _ st3 fun b _ o e => kp4 b o e
  have fpX : ∀ (pl : List (Addr × Obj)) (H' : Hp), (∀ b ∈ fp, H' b = none) → (∀ p ∈ pl, p.1 ∉ fp) → ∀ b ∈ fp, FpOk (X.comp scope cl s3.heap.objs.size (x :: fr) s3 (upd H2 s2.heap.objs.size (.lst [])) fp) pl H' b := fun pl H' hn hpl b hb => by
    refine ⟨hn b hb, (I4.ok.exf b hb).1, I4.ok.exfs b hb, .inl hb, (I4.ok.exf b hb).2, fun p hp z => ?_⟩
    exact hpl p (by simpa using hp) (by rw [z]; exact hb)
  have fin : ∀ (s' : Shared) (H' : Hp) (σ' : St), Inv (X.comp scope cl s3.heap.objs.size (x :: fr) s3 (upd H2 s2.heap.objs.size (.lst [])) fp) [] σ' H' s' → Q (.ref s2.heap.objs.size) H' →
      compPost (model X.prog X.w) X.A X.xe none (EP X pins σ Q) (.ref s2.heap.objs.size) s3.heap.objs.size (.ok .next) s' := fun s' H' σ' J q => by
    obtain ⟨m, hm, _⟩ := J.loc
    refine ⟨m, hm, fun h' sb => ?_⟩
    have neC : ∀ b o, s3.heap.get? b = some o → b ≠ s3.heap.objs.size := fun b o e => Nat.ne_of_lt (Heap.lt_size e)
    have un : Un (frs X.stack) fp (upd H2 s2.heap.objs.size (.lst [])) H' s3.heap h' :=
      ⟨fun b o e n hb hx => (sb.2 b (neC b o e)).trans (J.base.keep b o e n hb hx), fun b o e n hb hx => let ⟨sl, z⟩ := J.base.slot b o e n hb hx; ⟨sl, (sb.2 b (neC b o e)).trans z⟩, J.base.free,
        fun b o e hx => let ⟨o', z⟩ := J.base.there b o e hx; ⟨o', (sb.2 b (neC b o e)).trans z⟩, J.base.tups, J.base.frzs, J.base.tbls⟩
    have hok : HOk X.prog X.w H' h' := fun b u e => (J.hok b u e).stay (fun c w' hc z => (sb.2 c (by
      have jf : H' s3.heap.objs.size = none := J.free
      rintro rfl
      rcases hc with y | y
      · rw [← y, jf] at e; cases e
      · rw [jf] at y; cases y)).trans z) (fun _ z => z) fun _ _ z => z
    refine ⟨.ref s2.heap.objs.size, H', ?_, rfl, q⟩
    exact I3.call' (s' := { s' with heap := h' }) (ch := fp) J.os un hok J.bare fun b hb => ⟨(f3 b hb).2.2.2.1, (f3 b hb).2.1, (f3 b hb).2.2.2.2.1, (f3 b hb).2.2.2.2.2⟩
  have loop : codeAny (model X.prog X.w) X.A (.compLoop (.ListComp elt [⟨.Name x px, iter, ifs, 0⟩] scope pos) 0 (.ref it) (.ref s2.heap.objs.size) (compEnvC scope cl s3.heap.objs.size X.env))
      (compPost (model X.prog X.w) X.A X.xe none (EP X pins σ Q) (.ref s2.heap.objs.size) s3.heap.objs.size) { s3 with heap := h4, toks := s3.toks + ([] : List (Str × Value)).length } := by
    refine compLoop_go (fun n s' => ∃ i ys σv H', Inv (X.comp scope cl s3.heap.objs.size (x :: fr) s3 (upd H2 s2.heap.objs.size (.lst [])) fp) [] (compSt σ ix σv) H' s' ∧ tn i s'.heap ∧ (∀ b ∈ fp, H' b = none) ∧ W i n ys H') ?_ m0
      ⟨0, [], none, _, I4, st4, fun b hb => (f3 b hb).1, w0⟩
    rintro n s5 ⟨i, ys, σv, H5, I5, st5, fr5, w5⟩
    have fp5 := fpX [] H5 fr5 (fun p hp => nomatch hp)
    rcases turn i n ys H5 w5 with ⟨stop, qn⟩ | ⟨go, hz, step⟩
    · refine thn (T.done (X.comp scope cl s3.heap.objs.size (x :: fr) s3 (upd H2 s2.heap.objs.size (.lst [])) fp) rfl rfl rfl hc i [] s5 _ H5 (fun _ _ => False) I5 fp5 st5 stop) fun r s6 ⟨hr, I6⟩ => ?_
      subst hr
      exact fin s6 H5 _ I6 qn
    · refine thn (T.item (X.comp scope cl s3.heap.objs.size (x :: fr) s3 (upd H2 s2.heap.objs.size (.lst [])) fp) rfl rfl rfl hc i [] s5 _ H5 (fun _ _ => False) I5 fp5 st5 go) fun r s6 ⟨u, hr, h6⟩ => ?_
      subst hr
      refine thn h6 fun _ s7 ⟨xv, H7, I7, r7, y7, st7, fr7⟩ => ?_
      have I7' := I7.pinned (fpX [] H7 fr7 (fun p hp => nomatch hp)) (T.obj _ _ st7)
      have own : (relabel scope X.env).names.lookup x = some .local := lookup_relabel_local S.own
      have hg : PG (X.comp scope cl s3.heap.objs.size (x :: fr) s3 (upd H2 s2.heap.objs.size (.lst [])) fp) (.Name x px) (gName 0) := pg_name S.nd rfl (.inl own) (.inr own)
      refine thn (hg _ s7 _ H7 xv u (fun σ' H' => σ' = compSt σ ix (some xv) ∧ H' = H7) I7' r7 ⟨rfl, rfl⟩) fun _ s8 ⟨σ8, H8, I8, e8, e8'⟩ => ?_
      subst e8
      subst e8'
      have again : ∀ {H9 : Hp} {s9 : Shared} {ys' : List V} {m' : Nat}, Inv (X.comp scope cl s3.heap.objs.size (x :: fr) s3 (upd H2 s2.heap.objs.size (.lst [])) fp) ([] ++ pinsAt fp s7.heap) (compSt σ ix (some xv)) H9 s9 → W (i + 1) m' ys' H9 → m' < n →
          ∃ m, m < n ∧ ∃ i ys σv H', Inv (X.comp scope cl s3.heap.objs.size (x :: fr) s3 (upd H2 s2.heap.objs.size (.lst [])) fp) [] (compSt σ ix σv) H' s9 ∧ tn i s9.heap ∧ (∀ b ∈ fp, H' b = none) ∧ W i m ys H' := fun {H9 s9 ys' m'} I9 w9 hm => by
        refine ⟨m', hm, i + 1, ys', _, H9, I9.unpinned, T.keep _ _ _ st7 fun b hb o e => (I9.pin (b, o) (List.mem_append_right _ (List.mem_append_right _ (mem_pinsAt hb e)))).1, fun b hb => ?_, w9⟩
        obtain ⟨o, e, d⟩ := T.obj _ _ st7 b hb
        exact (I9.pin (b, o) (List.mem_append_right _ (List.mem_append_right _ (mem_pinsAt hb e)))).2.1
      refine thn (ht cl _ s3 _ fp _ s8 _ _ _ I8 (step xv _ y7)) fun ok s9 ⟨H9, I9, q9⟩ => ?_
      cases ok with
      | false =>
        obtain ⟨m', hm, w9⟩ := q9
        exact again I9 w9 hm
      | true =>
        refine thn (he cl _ s3 _ fp _ s9 _ H9 _ I9 q9) fun xv' s10 ⟨y, H10, I10, r10, hacc10, m', hm, w10⟩ => ?_
        refine thn (mt_append _ s10 _ H10 (.ref s2.heap.objs.size) [y] (.ref s2.heap.objs.size) [xv'] (fun v H' => v = .non ∧ H' = upd H10 s2.heap.objs.size (.lst (ys ++ [y]))) I10 rfl (.cons r10 .nil) ⟨_, ys, y, rfl, rfl, hacc10, hz, rfl, rfl⟩) fun _ s11 ⟨v, H11, I11, _, _, e11⟩ => ?_
        subst e11
        exact again I11 w10 hm
  exact codeAny_compStart_list loop (T.self _ 0 _ _ _ st4 loop)
end
end L2
namespace L2
open PySem PySem.Spec PyProof.Rows
section
variable {X : Cx}
theorem get_list : PGet X (rIxL X.K) := by
  intro pins s σ H x y v u Q I rx ry h
  obtain ⟨p, xs, i, z, rfl, rfl, hq, he, q⟩ := h
  cases rx
  obtain ⟨t, rfl⟩ := ry
  obtain ⟨its, r, pl, hz⟩ := I.list hq
  obtain ⟨j, h1, h2, h3, h4, h5⟩ := atI_get he
  obtain ⟨w, ew, rw'⟩ := r.get h2
  have hl := r.length
  have hn := line63
  have fin : EP X pins σ Q w s := ⟨z, H, I, rw', q⟩
  by_cases h0 : 0 ≤ i
  · have hj : i.toNat = j := by
      rw [seqIndex_of h0 h5] at h1
      exact Option.some.inj h1
    exact wpAny_getItem_list pl.isList h0 (by omega) (by rw [hj]; simpa using ew) fin
  · have hj : (i + (its.toArray.size : Int)).toNat = j := by
      rw [seqIndex_neg (by omega) h4] at h1
      rw [List.size_toArray, ← hl]
      exact Option.some.inj h1
    exact wpAny_getItem_list_neg pl.isList (by omega) (by rw [List.size_toArray] <;> omega) (by omega) (by rw [hj]; simpa using ew) fin
def rAddA : R2 := fun x y H Q => rI0 (fun i j => .int (i + j)) x y H Q ∨ rCat x y H Q
theorem op_addA : OpR X (binaryOp .Add) rAddA := op_add.or op_cat
def rMulA : R2 := fun x y H Q => rI CMul (fun i j => .int (i * j)) x y H Q ∨ rRep x y H Q
theorem op_mulA : OpR X (binaryOp .Mult) rMulA := op_mul.or op_rep
def rEqA (K : PySem.W.Frag) : R2 := fun x y H Q => rEq x y H Q ∨ rEqD K false x y H Q
theorem op_eqA (hu : X.A.units + 64 < cLine) : OpR X (compareOp .Eq) (rEqA X.K) := op_eq.or (op_eqD hu)
def rNeA (K : PySem.W.Frag) : R2 := fun x y H Q => rNe x y H Q ∨ rEqD K true x y H Q
theorem op_neA (hu : X.A.units + 64 < cLine) : OpR X (compareOp .NotEq) (rNeA X.K) := op_ne.or (op_neD hu)
end
structure New (H H' : Hp) (l : Addr) (o : HO) : Prop where
  same : Same H H'
  fresh : H l = none
  here : H' l = some o
theorem same_new {H : Hp} {p : Addr} (h : H p = none) (o : HO) : Same H (upd H p o) := fun b u q => by rw [upd_ne (ne_of_none q h)]; exact q
theorem New.one {H : Hp} {p : Addr} (h : H p = none) (o : HO) : New H (upd H p o) p o := ⟨same_new h o, h, upd_same⟩
theorem Same.seqT {K : PySem.W.Frag} {H H' : Hp} {a : Addr} {xs : List V} (e : Same H H') (h : SqT K H a xs) : SqT K H' a xs := by
  rcases h with (h | ⟨o, h⟩) | h
  · exact .inl (.inl (e _ _ h))
  · exact .inl (.inr ⟨o, e _ _ h⟩)
  · exact .inr h
theorem same_upd {H H1 : Hp} {l : Addr} {o : HO} (s : Same H H1) (h : H l = none) : Same H (upd H1 l o) := fun b u q => by rw [upd_ne (ne_of_none q h)]; exact s b u q
theorem small {n : Nat} (h : n ≤ 100000) : n ≤ sizeLine := Nat.le_trans h (by decide)
theorem small' {n : Nat} (h : n ≤ 100000) : n < sizeLine := Nat.lt_of_le_of_lt h (by decide)
section
variable {D : Ends} {σ : St} {H : Hp} {Q : VK} {t u : TS} {te ta tb tc : TE} {tt : TT} {v x y : V} {i j : Nat}
theorem rd_seq (k : t { D with nx := u D } σ H) : tSeq t u D σ H := k
theorem rd_next (k : D.nx σ H) : tNext D σ H := k
theorem rd_drop (k : te σ H fun _ H1 => D.nx σ H1) : tDrop te D σ H := k
theorem rd_ret (k : te σ H D.rt) : tRet te D σ H := k
theorem rd_ifS {c : TT} (k : c σ H fun b H1 => if b = true then t D σ H1 else u D σ H1) : tIfS c t u D σ H := k
theorem rd_asg {g : TG} (k : te σ H fun x H1 => g x σ H1 D.nx) : tAsg te g D σ H := k
theorem rd_gname {K : St → Hp → Prop} (k : K (σ.set i (some v)) H) : gName i v σ H K := k
theorem rd_var (h : σ[i]? = some (some v)) (k : Q v H) : tVar i σ H Q := ⟨v, h, k⟩
theorem rd_c (k : Q v H) : tC v σ H Q := k
theorem rd_op {r : R2} (k : ta σ H fun x H1 => tb σ H1 fun y H2 => r x y H2 Q) : tOp r ta tb σ H Q := k
theorem rd_un {r : V → Hp → VK → Prop} (k : ta σ H fun x H1 => r x H1 Q) : tUn r ta σ H Q := k
theorem rd_rU {g : Int → V} {i : Int} (k : Q (g i) H) : rU g (.int i) H Q := ⟨i, rfl, k⟩
theorem rd_I0 {g : Int → Int → V} {i j : Int} (k : Q (g i j) H) : rI0 g (.int i) (.int j) H Q := ⟨i, j, rfl, rfl, k⟩
theorem rd_add {i j : Int} (k : Q (.int (i + j)) H) : rAddA (.int i) (.int j) H Q := .inl ⟨i, j, rfl, rfl, k⟩
theorem rd_cat {a b : Addr} {xs ys : List V} (h1 : H a = some (.lst xs)) (h2 : H b = some (.lst ys)) (hz : xs.length + ys.length ≤ sizeLine) (k : ∀ p, H p = none → Q (.ref p) (upd H p (.lst (xs ++ ys)))) : rAddA (.ref a) (.ref b) H Q :=
  .inr ⟨a, b, xs, ys, rfl, rfl, h1, h2, hz, k⟩
theorem rd_test {Q : Bool → Hp → Prop} (k : te σ H fun x H' => ∃ k, x = .bl k ∧ Q k H') : tTest te σ H Q := k
theorem rd_tB {Q : Bool → Hp → Prop} (k : te σ H fun x H' => ∃ c, x = .bl c ∧ Q c H') : tB te σ H Q := k
theorem rd_bl {b : Bool} {Q : Bool → Prop} (k : Q b) : ∃ c, V.bl b = .bl c ∧ Q c := ⟨b, rfl, k⟩
theorem rd_not {Q : Bool → Hp → Prop} (k : tt σ H fun c H1 => Q (!c) H1) : tNot tt σ H Q := k
theorem rd_and {t u : TT} {Q : Bool → Hp → Prop} (k : t σ H fun c H1 => if c = true then u σ H1 Q else Q false H1) : tAnd t u σ H Q := k
theorem rd_or {t u : TT} {Q : Bool → Hp → Prop} (k : t σ H fun c H1 => if c = true then Q true H1 else u σ H1 Q) : tOr t u σ H Q := k
theorem rd_if {c : TT} (k : c σ H fun c H1 => if c = true then ta σ H1 Q else tb σ H1 Q) : tIf c ta tb σ H Q := k
theorem rd_nil {K : List V → Hp → Prop} (k : K [] H) : tNil σ H K := k
theorem rd_cons {tr : TA} {K : List V → Hp → Prop} (k : ta σ H fun x H1 => tr σ H1 fun xs H2 => K (x :: xs) H2) : tCons ta tr σ H K := k
theorem rd_lst {t : TA} (k : t σ H fun xs H1 => xs.length ≤ sizeLine ∧ ∀ p, H1 p = none → Q (.ref p) (upd H1 p (.lst xs))) : tLst t σ H Q := k
theorem rd_tup {t : TA} (k : t σ H fun xs H1 => xs.length ≤ sizeLine ∧ ∀ p, H1 p = none → Q (.ref p) (upd H1 p (.tup xs))) : tTup t σ H Q := k
theorem rd_call {sp : Sp} {dvs : List V} {E : XK} {t : TA} (k : t σ H fun vs H1 => sp (vs ++ dvs) H1 Q E) : tCall sp dvs E t σ H Q := k
theorem rd_CB {r : List V → Hp → VK → Prop} {t : TA} (k : t σ H fun vs H1 => r vs H1 Q) : tCB r t σ H Q := k
theorem rd_BM {K : PySem.W.Frag} {T : String} {r : V → List V → Hp → VK → Prop} {t : TA} (k : ta σ H fun x H1 => tyV K T x H1 ∧ t σ H1 fun xs H2 => r x xs H2 Q) : tBM K T r ta t σ H Q := k
theorem rd_ixT {K : PySem.W.Frag} {a : Addr} {xs : List V} {i : Int} {v : V} (h : SqT K H a xs) (e : atI xs i = some v) (k : Q v H) : rIx K (.ref a) (.int i) H Q := .inr (.inl ⟨a, xs, i, v, rfl, rfl, h, e, k⟩)
theorem rd_ixL {K : PySem.W.Frag} {a : Addr} {xs : List V} {i : Int} {v : V} (h : SqL K H a xs) (e : atI xs i = some v) (k : Q v H) : rIx K (.ref a) (.int i) H Q := .inl ⟨a, xs, i, v, rfl, rfl, h, e, k⟩
theorem rd_eqI {K : PySem.W.Frag} {i j : Int} (k : Q (.bl (decide (i = j))) H) : rEqA K (.int i) (.int j) H Q := .inl ⟨rfl, by
  have e : decide (V.int i = V.int j) = decide (i = j) := by rw [Bool.eq_iff_iff]; simp
  rw [e]; exact k⟩
theorem rd_neI {K : PySem.W.Frag} {i j : Int} (k : Q (.bl (!decide (i = j))) H) : rNeA K (.int i) (.int j) H Q := .inl ⟨rfl, by
  have e : decide (V.int i = V.int j) = decide (i = j) := by rw [Bool.eq_iff_iff]; simp
  rw [e]; exact k⟩
theorem rd_eqD {K : PySem.W.Frag} {d e : PyData} {b : Bool} (h1 : Dt K H x d) (h2 : Dt K H y e) (s1 : SeqAt.shaped d = true) (s2 : SeqAt.shaped e = true) (eb : PyData.eqv d e = b) (k : Q (.bl b) H) : rEqA K x y H Q := .inr ⟨d, e, h1, h2, s1, s2, by show Q (.bl (PyData.eqv d e)) H; rw [eb]; exact k⟩
theorem rd_neD {K : PySem.W.Frag} {d e : PyData} {b : Bool} (h1 : Dt K H x d) (h2 : Dt K H y e) (s1 : SeqAt.shaped d = true) (s2 : SeqAt.shaped e = true) (eb : PyData.eqv d e = b) (k : Q (.bl (!b)) H) : rNeA K x y H Q := .inr ⟨d, e, h1, h2, s1, s2, by show Q (.bl (!PyData.eqv d e)) H; rw [eb]; exact k⟩
theorem rd_app {a : Addr} {xs : List V} {y : V} (h : H a = some (.lst xs)) (hz : xs.length < sizeLine) (k : Q .non (upd H a (.lst (xs ++ [y])))) : rAppend (.ref a) [y] H Q := ⟨a, xs, y, rfl, rfl, h, hz, k⟩
theorem rd_mod {i j : Int} (h : 0 < j) (k : Q (.int (i % j)) H) : rI (fun _ j => 0 < j) (fun i j => .int (i % j)) (.int i) (.int j) H Q := ⟨i, j, rfl, rfl, h, k⟩
theorem rd_fdiv {i j : Int} (h : 0 < j) (h2 : j < 1073741824) (k : Q (.int (i / j)) H) : rI CDiv (fun i j => .int (i / j)) (.int i) (.int j) H Q := ⟨i, j, rfl, rfl, ⟨h, h2⟩, k⟩
theorem rd_for {wi : TI} {g : TG} {b : TS} (k : wi σ H fun J H1 => ∃ W : Nat → Nat → St → Hp → Prop, (∃ m, W 0 m σ H1) ∧ ∀ i m σ H, W i m σ H →
  (J.stop i H ∧ D.nx σ H) ∨ (J.go i H ∧ ∃ N : St → Hp → Prop, (∀ σ' H', N σ' H' → ∃ m', m' < m ∧ W (i + 1) m' σ' H') ∧ ∀ x H', J.yld i H x H' → g x σ H' fun σ2 H2 => b { D with nx := N, ct := N, bk := D.nx } σ2 H2)) : tFor wi g b D σ H := k
theorem rd_rng1 {t : TA} {R : It → Hp → Prop} (k : t σ H fun vs H1 => ∃ j : Int, vs = [.int j] ∧ -(2 ^ 62) ≤ j ∧ j < 2 ^ 62 ∧ R (Itr 0 j.toNat) H1) : iRng1 t σ H R := k
theorem rd_ilist {K : PySem.W.Frag} {R : It → Hp → Prop} (k : ta σ H fun x H1 => ∃ a, x = .ref a ∧ (∃ xs, SqL K H1 a xs) ∧ R (Itl K a) H1) : iList K ta σ H R := k
theorem rd_andV (k : ta σ H fun x H1 => ∃ c, x = .bl c ∧ if c = true then tb σ H1 Q else Q (.bl false) H1) : tAndV ta tb σ H Q := k
theorem rd_notV (k : ta σ H fun x H1 => ∃ c, x = .bl c ∧ Q (.bl (!c)) H1) : tNotV ta σ H Q := k
theorem rd_augS {tget : V → V → Hp → VK → Prop} {tip : TIp} {tset : TSet} (k : ta σ H fun o H1 => tb σ H1 fun i H2 => tget o i H2 fun x H3 => tc σ H3 fun y H4 => tip x y H4 fun z H5 => tset o i z H5 fun H6 => D.nx σ H6) : tAugS ta tb tc tget tip tset D σ H := k
theorem rd_gsub {ts : TSet} {K : St → Hp → Prop} (k : ta σ H fun o H1 => tb σ H1 fun i H2 => ts o i v H2 fun H3 => K σ H3) : gSub ta tb ts v σ H K := k
theorem rd_sl {r : V → Option Int → Option Int → Hp → VK → Prop} {tl th : TO} (k : te σ H fun x H1 => tl σ H1 fun l H2 => th σ H2 fun u H3 => r x l u H3 Q) : tSl r te tl th σ H Q := k
theorem rd_nopart {K : Option Int → Hp → Prop} (k : K none H) : tNoPart σ H K := k
theorem rd_part {K : Option Int → Hp → Prop} (k : te σ H fun x H1 => ∃ i, x = .int i ∧ K (some i) H1) : tPart te σ H K := k
theorem rd_raise {t : TA} {C : Addr} {E : XK} (k : t σ H fun vs H1 => vs.length ≤ sizeLine ∧ E (.ref C) none H1) : tRaise t C E D σ H := k
theorem rd_join_cons {t : TE} {ts : List TE} {n : Nat} (k : t σ H fun x H1 => ∃ (z : Str) (m : Nat), x = .str z ∧ z.length ≤ m ∧ n + m ≤ sizeLine ∧ tJoin ts (n + m) σ H1 Q) : tJoin (t :: ts) n σ H Q := k
theorem rd_join_nil {n : Nat} (k : ∀ z : Str, z.length ≤ n → Q (.str z) H) : tJoin [] n σ H Q := k
theorem rd_anyS {pre : V → Hp → Prop} (k : te σ H fun x H1 => pre x H1 ∧ ∀ z : Str, z.length ≤ 5000 → Q (.str z) H1) : tAnyS te pre σ H Q := k
theorem rd_comp {wi : TI} {ix : List Nat} (k : wi σ H fun J H1 => ∀ acc, H1 acc = none → ∃ W : Nat → Nat → List V → Hp → Prop, (∃ m, W 0 m [] (upd H1 acc (.lst []))) ∧ ∀ i m ys H2, W i m ys H2 →
  (J.stop i H2 ∧ Q (.ref acc) H2) ∨ (J.go i H2 ∧ ys.length < sizeLine ∧ ∀ v H3, J.yld i H2 v H3 → tt (compSt σ ix (some v)) H3 fun c H4 =>
    if c = true then te (compSt σ ix (some v)) H4 fun y H5 => H5 acc = some (.lst ys) ∧ ∃ m', m' < m ∧ W (i + 1) m' (ys ++ [y]) (upd H5 acc (.lst (ys ++ [y]))) else ∃ m', m' < m ∧ W (i + 1) m' ys H4)) : tComp wi ix tt te σ H Q := k
end
section
variable {σ : St} {Q : VK} {te : TE} {tt : TT} {ix : List Nat}
theorem comp_list {QQ : Hp → Prop} {K : PySem.W.Frag} {H1 : Hp} {a acc : Addr} {xs : List V} (p : V → Bool) (f : V → V) (hn : H1 acc = none) (hl : SqL K H1 a xs) (hz : xs.length ≤ sizeLine)
    (hstep : ∀ (v : V) (H3 : Hp), v ∈ xs → Same H1 H3 → ∀ (R : Bool → Hp → Prop) , (∀ H4, (∀ b o, H3 b = some o → H4 b = some o) → R (p v) H4) → tt (compSt σ ix (some v)) H3 R)
    (helt : ∀ (v : V) (H3 : Hp), v ∈ xs → p v = true → Same H1 H3 → ∀ (R : VK), (∀ H4, (∀ b o, H3 b = some o → H4 b = some o) → R (f v) H4) → te (compSt σ ix (some v)) H3 R)
    (hq : ∀ H2, New H1 H2 acc (.lst ((xs.filter p).map f)) → QQ H2) :
    ∃ W : Nat → Nat → List V → Hp → Prop, (∃ m, W 0 m [] (upd H1 acc (.lst []))) ∧ ∀ i m ys H2, W i m ys H2 →
      ((Itl K a).stop i H2 ∧ QQ H2) ∨ ((Itl K a).go i H2 ∧ ys.length < sizeLine ∧ ∀ v H3, (Itl K a).yld i H2 v H3 → tt (compSt σ ix (some v)) H3 fun c H4 =>
        if c = true then te (compSt σ ix (some v)) H4 fun y H5 => H5 acc = some (.lst ys) ∧ ∃ m', m' < m ∧ W (i + 1) m' (ys ++ [y]) (upd H5 acc (.lst (ys ++ [y]))) else ∃ m', m' < m ∧ W (i + 1) m' ys H4) := by
  refine ⟨fun i m ys H2 => m = xs.length - i ∧ i ≤ xs.length ∧ ys = ((xs.take i).filter p).map f ∧ Same H1 H2 ∧ H2 acc = some (.lst ys), ⟨xs.length, by simp, Nat.zero_le _, by simp, same_new hn _, upd_same⟩, ?_⟩
  rintro i m ys H2 ⟨rfl, hi, rfl, hs, ha⟩
  have q := hs.seq hl
  by_cases hlt : i < xs.length
  · have hx : xs[i]? = some xs[i] := List.getElem?_eq_getElem hlt
    have hm : xs[i] ∈ xs := List.getElem_mem hlt
    refine .inr ⟨⟨xs, xs[i], q, hx⟩, ?_, fun v H3 y => ?_⟩
    · have h1 : (((xs.take i).filter p).map f).length ≤ i := by
        rw [List.length_map]
        exact Nat.le_trans (List.length_filter_le _ _) (by rw [List.length_take]; exact Nat.min_le_left _ _)
      omega
    · obtain ⟨e, y⟩ := y
      subst e
      have ev : v = xs[i] := Option.some.inj ((y xs q).symm.trans hx)
      subst ev
      have tk : xs.take (i + 1) = xs.take i ++ [xs[i]] := by rw [List.take_add_one, hx]; rfl
      refine hstep _ _ hm hs _ fun H4 k4 => ?_
      have s4 : Same H1 H4 := fun b o z => k4 b o (hs b o z)
      cases hp : p xs[i] with
      | true =>
        refine helt _ _ hm hp s4 _ fun H5 k5 => ?_
        have s5 : Same H1 H5 := fun b o z => k5 b o (s4 b o z)
        refine ⟨k5 _ _ (k4 _ _ ha), xs.length - (i + 1), by omega, rfl, hlt, ?_, same_upd s5 hn, ?_⟩
        · rw [tk, List.filter_append, List.map_append, List.filter_cons_of_pos hp]; rfl
        · rw [upd_same]
      | false =>
        refine ⟨xs.length - (i + 1), by omega, rfl, hlt, ?_, s4, k4 _ _ ha⟩
        rw [tk, List.filter_append, List.map_append, List.filter_cons_of_neg (by rw [hp]; exact Bool.false_ne_true)]; simp
  · have e : i = xs.length := by omega
    subst e
    refine .inl ⟨⟨xs, q, Nat.le_refl _⟩, hq H2 ⟨hs, hn, ?_⟩⟩
    rw [ha, List.take_length]
theorem comp_range {QQ : Hp → Prop} {H1 : Hp} {acc : Addr} {n : Nat} (f : Nat → V) (hn : H1 acc = none) (hz : n ≤ sizeLine)
    (htst : ∀ (i : Nat) (H3 : Hp) (R : Bool → Hp → Prop), R true H3 → tt (compSt σ ix (some (.int (0 + (i : Int))))) H3 R)
    (helt : ∀ (i : Nat) (H3 : Hp), i < n → Same H1 H3 → ∀ (R : VK), (∀ H4, (∀ b o, H3 b = some o → H4 b = some o) → R (f i) H4) → te (compSt σ ix (some (.int (0 + (i : Int))))) H3 R)
    (hq : ∀ H2, New H1 H2 acc (.lst ((List.range n).map f)) → QQ H2) :
    ∃ W : Nat → Nat → List V → Hp → Prop, (∃ m, W 0 m [] (upd H1 acc (.lst []))) ∧ ∀ i m ys H2, W i m ys H2 →
      ((Itr 0 n).stop i H2 ∧ QQ H2) ∨ ((Itr 0 n).go i H2 ∧ ys.length < sizeLine ∧ ∀ v H3, (Itr 0 n).yld i H2 v H3 → tt (compSt σ ix (some v)) H3 fun c H4 =>
        if c = true then te (compSt σ ix (some v)) H4 fun y H5 => H5 acc = some (.lst ys) ∧ ∃ m', m' < m ∧ W (i + 1) m' (ys ++ [y]) (upd H5 acc (.lst (ys ++ [y]))) else ∃ m', m' < m ∧ W (i + 1) m' ys H4) := by
  refine ⟨fun i m ys H2 => m = n - i ∧ i ≤ n ∧ ys = (List.range i).map f ∧ Same H1 H2 ∧ H2 acc = some (.lst ys), ⟨n, by simp, Nat.zero_le _, by simp, same_new hn _, upd_same⟩, ?_⟩
  rintro i m ys H2 ⟨rfl, hi, rfl, hs, ha⟩
  by_cases hlt : i < n
  · refine .inr ⟨hlt, by simp; omega, fun v H3 y => ?_⟩
    obtain ⟨e, y⟩ := y
    subst e y
    refine htst i _ _ ?_
    refine iteT ?_
    refine helt i _ hlt hs _ fun H5 k5 => ?_
    have s5 : Same H1 H5 := fun b o z => k5 b o (hs b o z)
    refine ⟨k5 _ _ ha, n - (i + 1), by omega, rfl, hlt, ?_, same_upd s5 hn, ?_⟩
    · rw [List.range_succ, List.map_append]; rfl
    · rw [upd_same]
  · have e : i = n := by omega
    subst e
    exact .inl ⟨Nat.le_refl _, hq H2 ⟨hs, hn, ha⟩⟩
end
end L2
namespace L2
open PySem
theorem bt_len : bootBuiltins "len" = some (.builtin "len") := by decide +kernel
theorem bt_isinstance : bootBuiltins "isinstance" = some (.builtin "isinstance") := by decide +kernel
theorem bt_str : bootBuiltins "str" = some (.type "str") := by decide +kernel
theorem bt_ValueError : bootBuiltins "ValueError" = some (.type "ValueError") := by decide +kernel
end L2
namespace L2
open PySem PySem.Spec PyProof.Rows
section
variable {X : Cx} {K : PySem.W.Frag}
theorem op_eqK (hu : X.A.units + 64 < cLine) (hK : X.K = K := by rfl) : OpR X (compareOp .Eq) (rEqA K) := by subst hK; exact op_eqA hu
theorem op_neK (hu : X.A.units + 64 < cLine) (hK : X.K = K := by rfl) : OpR X (compareOp .NotEq) (rNeA K) := by subst hK; exact op_neA hu
theorem ix_seqK (hK : X.K = K := by rfl) : IxR X (rIx K) := by subst hK; exact ix_seq
theorem op_inK (hK : X.K = K := by rfl) : OpR X (compareOp .In) (rIn K false) := by subst hK; exact op_in_seq
theorem op_notInK (hK : X.K = K := by rfl) : OpR X (compareOp .NotIn) (rIn K true) := by subst hK; exact op_notIn_seq
theorem call_lenK (hK : X.K = K := by rfl) : CallR X (.builtin "len") (fun xs H Q => ∃ p ys, xs = [.ref p] ∧ (SqL K H p ys ∨ SqT K H p ys) ∧ Q (.int ys.length) H) := by subst hK; exact call_len_seq
theorem call_isiK (hK : X.K = K := by rfl) : CallR X (.builtin "isinstance") (fun xs H Q => ∃ x c cv t b, xs = [x, c] ∧ clsV c = some cv ∧ (TyOf K H x t ∨ ∃ a C, x = .ref a ∧ t = .ref C ∧ H a = some (excO a C) ∧ ErrCls K C) ∧ PySem.W.kitOne K t cv = some b ∧ Q (.bl b) H) := by subst hK; exact call_isi
theorem sl_listK (hK : X.K = K := by rfl) : SlR X (rSlL K) := by subst hK; exact sl_list
theorem get_listK (hK : X.K = K := by rfl) : PGet X (rIxL K) := by subst hK; exact get_list
theorem pi_listK {tg l : Expr} {tl : TE} (hl : PE X l tl) (hK : X.K = K := by rfl) : PI X tg l (iList K tl) := by subst hK; exact pi_list hl
theorem pe_bmK {o e : Expr} {es : List Expr} {to : TE} {t : TA} {name : Str} {apos cpos : Pos} {T id : String} {r : V → List V → Hp → VK → Prop} (pa : PlainAttrs T) (slot : Slot T name id) (hty : typeOf (.builtin id) = pure (.type "method_descriptor")) (hm : MtM X id r) (ho : PE X o to) (ha : PA X (e :: es) t) (hK : X.K = K := by rfl)
    (hbase : attributeBase o name X.env (eval o X.env) = eval o X.env := by rfl)
    (hfew : ((backTo cpos (starEach (e :: es) X.env)).all (fun x => !x.1) && (backToKw cpos (keywordEach [] X.env)).all (fun x => x.1.isSome)
      && decide ((e :: es).length + ([] : List Keyword).length + (if ([] : List Keyword).isEmpty then 0 else 1) < 30)) = true := by rfl)
    (hline : (apos.endLine == cpos.line) = true := by rfl) (hs : starEach (e :: es) X.env = (false, eval e X.env) :: starEach es X.env := by rfl) (hplain : (backTo cpos (starEach es X.env)).any (·.1) = false := by rfl) :
    PE X (.Call (.Attribute o name apos) (e :: es) [] cpos) (tBM K T r to t) := by subst hK; exact pe_bm pa slot hty hm ho ha hbase hfew hline hs hplain
end
end L2
namespace L2
open PySem
section
variable {rest : List Expr} {env : Env}
theorem star_Tuple {a b c} : starEach (.Tuple a b c :: rest) env = (false, eval (.Tuple a b c) env) :: starEach rest env := rfl
theorem star_List {a b} : starEach (.List a b :: rest) env = (false, eval (.List a b) env) :: starEach rest env := rfl
theorem star_Call {a b c d} : starEach (.Call a b c d :: rest) env = (false, eval (.Call a b c d) env) :: starEach rest env := rfl
theorem star_BinOp {a b c d} : starEach (.BinOp a b c d :: rest) env = (false, eval (.BinOp a b c d) env) :: starEach rest env := rfl
theorem star_Subscript {a b c} : starEach (.Subscript a b c :: rest) env = (false, eval (.Subscript a b c) env) :: starEach rest env := rfl
theorem star_ListComp {a b c d} : starEach (.ListComp a b c d :: rest) env = (false, eval (.ListComp a b c d) env) :: starEach rest env := rfl
theorem star_JoinedStr {a b} : starEach (.JoinedStr a b :: rest) env = (false, eval (.JoinedStr a b) env) :: starEach rest env := rfl
theorem star_Name {a b} : starEach (.Name a b :: rest) env = (false, eval (.Name a b) env) :: starEach rest env := rfl
theorem star_Constant {a b c} : starEach (.Constant a b c :: rest) env = (false, eval (.Constant a b c) env) :: starEach rest env := rfl
end
end L2
namespace L2
open PySem PySem.Spec PyProof.Rows
structure Has (P : Program) (w : World) (K : PySem.W.Frag) (mg : Str → Option Value) (base : Heap) (x : Str) (k : Nat) (ps : List Str) (sp : Sp) : Prop where
  ex : ∃ f fd, FnOk P w K mg base (CXE P w) k f fd ps sp ∧ Binds K fd ps [] ∧ PySem.W.keepIn K (.ref f) = true ∧ mg x = some (.ref f) ∧ ∃ oc od osl, K.lookup f = some ⟨oc, od, .func fd, osl⟩
structure HasH (P : Program) (w : World) (K : PySem.W.Frag) (mg : Str → Option Value) (base : Heap) (x : Str) (k : Nat) (ps : List Str) (sp : Sp) : Prop where
  ex : ∃ f fd, FnOkH P w K mg base (CXE P w) k f fd ps sp ∧ Binds K fd ps [] ∧ PySem.W.keepIn K (.ref f) = true ∧ mg x = some (.ref f)
structure DefAt (K : PySem.W.Frag) (mg : Str → Option Value) (x : Str) (st : Stmt) (ps : List Str) : Prop where
  ex : ∃ f fd, Fun K x x st f fd ∧ Binds K fd ps [] ∧ mg x = some (.ref f)
section
variable {P : Program} {w : World} {K : PySem.W.Frag} {mg : Str → Option Value} {base : Heap} {x : Str} {k j : Nat} {ps N : List Str} {sp : Sp} {st : Stmt}
theorem Has.mono (h : Has P w K mg base x j ps sp) (hj : j ≤ k) : Has P w K mg base x k ps sp := let ⟨f, fd, F, r⟩ := h.ex; ⟨f, fd, F.mono hj, r⟩
theorem DefAt.has (d : DefAt K mg x st ps) (S : FnScope N ps (defScope st)) (len : ∀ vs H Q E, sp vs H Q E → vs.length = ps.length)
    (hbody : ∀ (f : Addr) (cdv : Value) (A : Around) (outer : List Env) (s : Shared) (H : Hp) (vs : List V) (Q : VK) (E : XK), Room k (A.deeper (envOfC x (defScope st) s.heap.objs.size f cdv)) → sp vs H Q E →
      ∃ t, PSs (cxOf (CXE P w) P w K mg base N x (defScope st) f cdv A outer s H E) (defBody st) t ∧ t { nx := fun _ H' => Q .non H', rt := Q } (start N vs) H) : Has P w K mg base x (k + 1) ps sp := by
  obtain ⟨f, fd, F, b, m⟩ := d.ex
  obtain ⟨oc, od, kV, doc, pm, an, cdv, ct, osl, rfl, lk, hcd⟩ := F.ex
  exact ⟨f, _, fn_of lk hcd S len fun A outer s H vs Q E hr hsp => hbody f cdv A outer s H vs Q E hr hsp, b, F.kp, m, _, _, _, lk⟩
theorem DefAt.hasH (d : DefAt K mg x st ps) (S : FnScope N ps (defScope st)) (len : ∀ vs H Q E, sp vs H Q E → vs.length = ps.length)
    (hbody : ∀ (f : Addr) (cdv : Value) (A : Around) (outer : List Env) (s : Shared) (H : Hp) (vs : List V) (Q : VK) (E : XK), RoomH k (A.deeper (envOfC x (defScope st) s.heap.objs.size f cdv)) → sp vs H Q E →
      ∃ t, PSs (cxOfH (CXE P w) P w K mg base N x (defScope st) f cdv A outer s H E) (defBody st) t ∧ t { nx := fun _ H' => Q .non H', rt := Q } (start N vs) H) : HasH P w K mg base x (k + 1) ps sp := by
  obtain ⟨f, fd, F, b, m⟩ := d.ex
  obtain ⟨oc, od, kV, doc, pm, an, cdv, ct, osl, rfl, lk, hcd⟩ := F.ex
  exact ⟨f, _, fn_ofH lk hcd S len fun A outer s H vs Q E hr hsp => hbody f cdv A outer s H vs Q E hr hsp, b, F.kp, m⟩
end
theorem Has.top {P : Program} {w : World} {K : PySem.W.Frag} {mg : Str → Option Value} {base : Heap} {x : Str} {k : Nat} {ps : List Str} {sp : Sp} {fa : Addr} {oc : Value} {od : Option Addr} {fd : FuncData} {osl : Array (Option Value)} (h : Has P w K mg base x k ps sp) (hfa : mg x = some (.ref fa)) (lk : K.lookup fa = some ⟨oc, od, .func fd, osl⟩) : FnOk P w K mg base (CXE P w) k fa fd ps sp := by
  obtain ⟨f, fd', F, _, _, m, oc', od', osl', lk'⟩ := h.ex
  have e : f = fa := by have := m.symm.trans hfa; cases this; rfl
  subst e
  have e2 := Option.some.inj (lk'.symm.trans lk)
  have e3 : Data.func fd' = Data.func fd := congrArg Obj.data e2
  cases e3
  exact F
section
variable {X : Cx} {k kk : Nat} {ps : List Str} {sp : Sp} {E : XK} {x : Str} {p pos : Pos} {e : Expr} {es : List Expr} {t : TA} {p0 : List (Addr × Obj)} {Hd : St → Addr → Hp → Prop} {E' : Value → Shared → Prop}
theorem pe_callN (h : Has X.prog X.w X.K X.mg X.base x k ps sp) (hr : Room kk X.A) (hg : Gl X x) (hx : Passes (CXE X.prog X.w) X E) (ha : PA X (e :: es) t) (hk : k ≤ kk := by decide) (hdb : (x == ("__debug__" : Str)) = false := by decide)
    (he : starEach (e :: es) X.env = (false, eval e X.env) :: starEach es X.env := by rfl) (hpl : (backTo pos (starEach es X.env)).any (·.1) = false := by rfl) : PE X (.Call (.Name x p) (e :: es) [] pos) (tCall sp [] E t) := by
  obtain ⟨f, fd, F, b, kp, m, _⟩ := h.ex
  exact pe_call F (hr.mono hk) hg m kp b .nil hx ha hdb he hpl
theorem pe_callNH (h : HasH X.prog X.w X.K X.mg X.base x k ps sp) (hr : RoomH kk X.A) (hg : Gl X x) (hx : Passes (CXE X.prog X.w) X E) (ha : PA X (e :: es) t) (hk : k ≤ kk := by decide) (hdb : (x == ("__debug__" : Str)) = false := by decide)
    (he : starEach (e :: es) X.env = (false, eval e X.env) :: starEach es X.env := by rfl) (hpl : (backTo pos (starEach es X.env)).any (·.1) = false := by rfl) : PE X (.Call (.Name x p) (e :: es) [] pos) (tCall sp [] E t) := by
  obtain ⟨f, fd, F, b, kp, m⟩ := h.ex
  exact pe_callH F (hr.mono hk) hg m kp b .nil hx ha hdb he hpl
theorem pe_callNT (h : Has X.prog X.w X.K X.mg X.base x k ps sp) (hr : Room kk X.A) (hg : Gl X x) (hex : X.ex = []) (hx : Catches X p0 Hd E') (ha : PA (X.into p0 E') (e :: es) t) (hk : k ≤ kk := by decide) (hdb : (x == ("__debug__" : Str)) = false := by decide)
    (he : starEach (e :: es) X.env = (false, eval e X.env) :: starEach es X.env := by rfl) (hpl : (backTo pos (starEach es X.env)).any (·.1) = false := by rfl) : PE (X.into p0 E') (.Call (.Name x p) (e :: es) [] pos) (tCallT sp [] Hd t) := by
  obtain ⟨f, fd, F, b, kp, m, _⟩ := h.ex
  exact pe_callT F (hr.mono hk) hg m kp b .nil hex hx ha hdb he hpl
end
theorem rd_callT {sp : Sp} {Hd : St → Addr → Hp → Prop} {t : TA} {σ : St} {H : Hp} {Q : VK} (k : t σ H fun vs H1 => sp (vs ++ []) H1 Q fun cls _ H' => ∃ C, cls = .ref C ∧ Hd σ C H') : tCallT sp [] Hd t σ H Q := k
theorem Room.toH {k : Nat} {A : Around} (r : Room k A) (e : Option Value) : RoomH k (A.mark e) := ⟨r.dp, r.un, r.gd⟩
def rlNames (sc scope : Scope) : List (Str × NameKind) := scope.names.map fun (n, k) => if (k == .free && sc.kind == .function && sc.names.lookup n == some .cell) then (n, .cell) else (n, k)
def chkComp (sc : Scope) (N : List Str) (scope : Scope) (x : Str) (fr : List Str) (ix : List Nat) : Bool :=
  decide (scope.kind = .function) && scope.names.all (fun y => !decide (y.2 = .cell)) && scope.names.all (fun y => !decide (y.2 = .local) || decide (scope.names.lookup y.1 = some .local)) && decide (scope.names.lookup x = some .local) && decide (x :: fr).Nodup &&
  scope.names.all (fun y => !decide (y.2 = .free) || (decide (sc.names.lookup y.1 = some .cell) || decide (sc.names.lookup y.1 = some .free))) && decide (fr.length = ix.length) &&
  (fr.zip ix).all (fun p => decide (N[p.2]? = some p.1) && (decide (sc.names.lookup p.1 = some .cell) || decide (sc.names.lookup p.1 = some .free)) && (decide ((rlNames sc scope).lookup p.1 = some .cell) || decide ((rlNames sc scope).lookup p.1 = some .free)) && decide ((p.1, NameKind.free) ∈ scope.names))
theorem compsc {CX : CXT} {P : Program} {w : World} {K : PySem.W.Frag} {mg : Str → Option Value} {base : Heap} {N : List Str} {qual : Str} {sc : Scope} {f : Addr} {cdv : Value} {A : Around} {outer : List Env} {s : Shared} {H : Hp} {E : XK} {scope : Scope} {x : Str} {fr : List Str} {ix : List Nat}
    (h : chkComp sc N scope x fr ix = true) : CompSc (cxOf CX P w K mg base N qual sc f cdv A outer s H E) scope x fr ix := by
  unfold chkComp at h
  simp only [Bool.and_eq_true, decide_eq_true_eq, List.all_eq_true, Bool.or_eq_true, Bool.not_eq_true', decide_eq_false_iff_not] at h
  obtain ⟨⟨⟨⟨⟨⟨⟨h1, h2⟩, h3⟩, h4⟩, h5⟩, h6⟩, h7⟩, h8⟩ := h
  refine ⟨h1, h2, fun y hy hl => (h3 y hy).resolve_left (fun z => z hl), h4, h5, fun y hy hf => ?_, h7, fun i j y hi hy => ?_⟩
  · exact (h6 y hy).resolve_left (fun z => z hf)
  · have hz : (y, j) ∈ fr.zip ix := by
      have e : (fr.zip ix)[i]? = some (y, j) := by rw [List.getElem?_zip_eq_some]; exact ⟨hy, hi⟩
      exact List.mem_of_getElem? e
    obtain ⟨⟨⟨a1, a2⟩, a3⟩, a4⟩ := h8 _ hz
    exact ⟨a1, a2, a2.elim (fun z => .inr (.inl z)) (fun z => .inr (.inr z)), a3, _, a4, rfl⟩
theorem CXE_no {P : Program} {w : World} {outer : List Env} {H : Hp} {s s' : Shared} {e : Value} (z : CXE P w outer H s (fun _ _ _ => False) e s') : False := by
  obtain ⟨_, _, _, _, _, _, _, _, _, _, _, _, _, _, f⟩ := z
  exact f
end L2
namespace Sr
def bump : List Int → List Int
  | [] => []
  | [x] => [x + 1]
  | x :: y :: r => x :: bump (y :: r)
theorem bump_snoc (xs : List Int) (v : Int) : bump (xs ++ [v]) = xs ++ [v + 1] := by
  induction xs with
  | nil => rfl
  | cons x r ih =>
    cases r with
    | nil => rfl
    | cons y t => simp only [List.cons_append, bump] at *; rw [ih]
theorem bump_length (xs : List Int) : (bump xs).length = xs.length := by
  rcases List.eq_nil_or_concat xs with h | ⟨l, v, h⟩
  · subst h; rfl
  · subst h; simp [bump_snoc]
def lensFrom : List Int → Option Int → List Int → List Int
  | acc, _, [] => acc
  | acc, last, x :: r => lensFrom (if last = some x then bump acc else acc ++ [1]) (some x) r
def lens (xs : List Int) : List Int := lensFrom [] none xs
theorem lensFrom_snoc (xs : List Int) (x : Int) : ∀ (acc : List Int) (last : Option Int),
    lensFrom acc last (xs ++ [x]) = if (xs.getLast?).or last = some x then bump (lensFrom acc last xs) else lensFrom acc last xs ++ [1] := by
  induction xs with
  | nil => intro acc last; rfl
  | cons y r ih =>
    intro acc last
    simp only [List.cons_append, lensFrom]
    rw [ih]
    have e : (r.getLast?).or (some y) = ((y :: r).getLast?).or last := by
      cases r with
      | nil => rfl
      | cons z t => simp [List.getLast?_cons]
    rw [e]
theorem lens_snoc (xs : List Int) (x : Int) : lens (xs ++ [x]) = if xs.getLast? = some x then bump (lens xs) else lens xs ++ [1] := by
  unfold lens; rw [lensFrom_snoc]; simp
theorem lens_length (xs : List Int) : (lens xs).length ≤ xs.length := by
  rcases List.eq_nil_or_concat xs with h | ⟨l, v, h⟩
  · subst h; exact Nat.le_refl _
  · rw [List.concat_eq_append] at h
    subst h
    have ih := lens_length l
    rw [lens_snoc, List.length_append]
    split
    · rw [bump_length]; simp; omega
    · simp; omega
termination_by xs.length
decreasing_by all_goals (subst_vars; simp_all; try omega)
theorem lens_ne_nil {xs : List Int} (h : xs ≠ []) : lens xs ≠ [] := by
  rcases List.eq_nil_or_concat xs with e | ⟨l, v, e⟩
  · exact absurd e h
  · rw [List.concat_eq_append] at e
    subst e
    rw [lens_snoc]
    by_cases hl : l = []
    · subst hl; simp
    · have ih := lens_ne_nil hl
      split
      · intro z
        have := bump_length (lens l)
        rw [z] at this
        exact ih (List.eq_nil_of_length_eq_zero (by simpa using this.symm))
      · simp
termination_by xs.length
decreasing_by all_goals (subst_vars; simp_all; try omega)
def bl (a b : Int) : Int → List Int → List Int
  | _, [] => []
  | s, n :: r => List.replicate n.toNat s ++ bl a b (a + b - s) r
theorem bl_mem {a b : Int} : ∀ (some : List Int) (s : Int), (s = a ∨ s = b) → ∀ x ∈ bl a b s some, x = a ∨ x = b
  | [], _, _, _, h => by simp [bl] at h
  | n :: r, s, hs, x, h => by
    rcases List.mem_append.mp h with h | h
    · rw [(List.mem_replicate.mp h).2]; exact hs
    · exact bl_mem r (a + b - s) (by omega) x h
theorem bl_length {a b : Int} : ∀ (some : List Int) (s : Int) (m : Nat), (∀ x ∈ some, x ≤ (m : Int)) → (bl a b s some).length ≤ some.length * m
  | [], _, _, _ => by simp [bl]
  | n :: r, s, m, h => by
    have ih := bl_length (a := a) (b := b) r (a + b - s) m (fun x hx => h x (List.mem_cons_of_mem _ hx))
    have hn := h n (List.mem_cons_self)
    simp only [bl, List.length_append, List.length_replicate, List.length_cons]
    rw [Nat.succ_mul]
    omega
def turnS (a b s : Int) : Nat → Int
  | 0 => s
  | i + 1 => a + b - turnS a b s i
theorem bl_snoc (a b : Int) : ∀ (some : List Int) (s n : Int), bl a b s (some ++ [n]) = bl a b s some ++ List.replicate n.toNat (turnS a b s some.length)
  | [], s, n => by simp [bl, turnS]
  | m :: r, s, n => by
    simp only [List.cons_append, bl, List.append_assoc]
    rw [bl_snoc a b r (a + b - s) n]
    have e : ∀ k, turnS a b (a + b - s) k = turnS a b s (k + 1) := by
      intro k
      induction k with
      | zero => rfl
      | succ k ih => simp only [turnS] at *; rw [ih]
    rw [e, List.length_cons]
theorem lensFrom_rep (s : Int) (rest : List Int) (acc : List Int) : ∀ (k : Nat) (m : Int), lensFrom (acc ++ [m]) (some s) (List.replicate k s ++ rest) = lensFrom (acc ++ [m + k]) (some s) rest
  | 0, m => by simp
  | k + 1, m => by
    rw [List.replicate_succ, List.cons_append, lensFrom, if_pos rfl, bump_snoc, lensFrom_rep s rest acc k (m + 1)]
    congr 2
    have : m + 1 + (k : Int) = m + ((k + 1 : Nat) : Int) := by omega
    rw [this]
theorem lensFrom_bl {a b : Int} (hab : a ≠ b) : ∀ (some : List Int) (s : Int) (acc : List Int) (last : Option Int), (s = a ∨ s = b) → (∀ n ∈ some, 1 ≤ n) → last ≠ .some s → lensFrom acc last (bl a b s some) = acc ++ some
  | [], s, acc, last, _, _, _ => by simp [bl, lensFrom]
  | n :: r, s, acc, last, hs, hn, hl => by
    have h1 := hn n List.mem_cons_self
    obtain ⟨k, hk⟩ : ∃ k : Nat, n.toNat = k + 1 := ⟨n.toNat - 1, by omega⟩
    simp only [bl]
    rw [hk, List.replicate_succ, List.cons_append, lensFrom, if_neg hl, lensFrom_rep]
    rw [lensFrom_bl hab r (a + b - s) (acc ++ [1 + (k : Int)]) (.some s) (by omega) (fun m hm => hn m (List.mem_cons_of_mem _ hm)) (by intro z; have := Option.some.inj z; omega)]
    have : 1 + (k : Int) = n := by omega
    rw [this]; simp
theorem lens_bl {a b s : Int} {some : List Int} (hab : a ≠ b) (hs : s = a ∨ s = b) (hn : ∀ n ∈ some, 1 ≤ n) : lens (bl a b s some) = some := by
  unfold lens
  rw [lensFrom_bl hab some s [] none hs hn (by simp)]
  simp
def cell (ns : List Int) (k : Int) : Int := if k < (ns.length : Int) then ns.getD k.toNat 0 else 0
def okL (a b : Int) : Prop := 1 ≤ a ∧ a < b ∧ b ≤ 9
instance (a b : Int) : Decidable (okL a b) := by unfold okL; exact inferInstance
def okR (a b : Int) (ns : List Int) : Prop := ns.length ≤ 400 ∧ ∀ x ∈ ns, x = a ∨ x = b
instance (a b : Int) (ns : List Int) : Decidable (okR a b ns) := by unfold okR; exact inferInstance
theorem turnS_mem {a b s : Int} (h : s = a ∨ s = b) : ∀ i, turnS a b s i = a ∨ turnS a b s i = b
  | 0 => h
  | i + 1 => by
    have := turnS_mem h i
    simp only [turnS]
    omega
def okN (ns : List Int) : Prop := ns.length ≤ 60 ∧ ∀ x ∈ ns, 1 ≤ x ∧ x ≤ 9
instance (ns : List Int) : Decidable (okN ns) := by unfold okN; exact inferInstance
end Sr
namespace Sr
open PySem L2
abbrev I2 (ns : List Int) : List V := ns.map V.int
theorem atI_int {ns : List Int} {k v : Int} (h0 : 0 ≤ k) (h : ns[k.toNat]? = some v) : atI (I2 ns) k = some (.int v) := by
  have e : k = ((k.toNat : Nat) : Int) := by omega
  rw [e]
  exact atI_nat (by rw [List.getElem?_map, h] <;> rfl)
theorem at_cell {ns : List Int} {k : Int} (h0 : 0 ≤ k) (h : k < (ns.length : Int)) : atI (I2 ns) k = some (.int (cell ns k)) := by
  have hk : k.toNat < ns.length := by omega
  refine atI_int h0 ?_
  unfold cell
  rw [if_pos h, List.getElem?_eq_getElem hk]
  simp [List.getD, List.getElem?_eq_getElem hk]
theorem at_last {ns : List Int} (h : ns ≠ []) : ∃ v, atI (I2 ns) (-1) = some (.int v) ∧ ixN (I2 ns).length (-1) = some (ns.length - 1) ∧ (I2 ns).set (ns.length - 1) (.int (v + 1)) = I2 (bump ns) := by
  rcases List.eq_nil_or_concat ns with e | ⟨l, v, e⟩
  · exact absurd e h
  · rw [List.concat_eq_append] at e
    subst e
    refine ⟨v, ?_, ?_, ?_⟩
    · have := atI_last (I2 l) (V.int v)
      simpa [I2] using this
    · simp [ixN]
      omega
    · rw [bump_snoc]
      simp [I2]
theorem two_at {a b : V} {i : Int} (h : i = 0 ∨ i = 1) : atI [a, b] i = some (if i = 0 then a else b) := by
  rcases h with rfl | rfl <;> rfl
theorem two_at0 {a b : V} : atI [a, b] 0 = some a := rfl
theorem two_at1 {a b : V} : atI [a, b] 1 = some b := rfl
theorem mod2 (c : Int) : c % 2 = 0 ∨ c % 2 = 1 := by omega
theorem rd_chain3 {r r' r'' : R2} {ta tb tc td : TE} {σ : St} {H : Hp} {Q : VK} (k : ta σ H fun x H1 => tb σ H1 fun y H2 => r x y H2 fun z H3 => ∃ k, z = .bl k ∧
  (if k = true then tc σ H3 fun w' H4 => r' y w' H4 fun z' H5 => ∃ k', z' = .bl k' ∧ (if k' = true then td σ H5 fun v' H6 => r'' w' v' H6 Q else Q (.bl false) H5) else Q (.bl false) H3)) : tChain3 r r' r'' ta tb tc td σ H Q := k
theorem inV_two {a b x : Int} : inV (.int x) [.int a, .int b] = decide (x = a ∨ x = b) := by
  rw [Bool.eq_iff_iff]
  simp [inV, eqV]
  constructor <;> rintro (h | h) <;> omega
theorem rd_notIn {K : PySem.W.Frag} {H : Hp} {Q : VK} {t : Addr} {a b x : Int} (h : SqT K H t [.int a, .int b]) (k : Q (.bl (!decide (x = a ∨ x = b))) H) : rIn K true (.int x) (.ref t) H Q :=
  ⟨t, _, rfl, .inr h, rfl, rfl, by rw [inV_two]; exact k⟩
theorem rd_isIn {K : PySem.W.Frag} {H : Hp} {Q : VK} {t : Addr} {a b x : Int} (h : SqT K H t [.int a, .int b]) (k : Q (.bl (decide (x = a ∨ x = b))) H) : rIn K false (.int x) (.ref t) H Q :=
  ⟨t, _, rfl, .inr h, rfl, rfl, by rw [inV_two]; exact k⟩
theorem int_at {ns : List Int} {i : Nat} {x : V} (h : (I2 ns)[i]? = some x) : ∃ n, ns[i]? = some n ∧ x = .int n := by
  rw [List.getElem?_map] at h
  cases e : ns[i]? with
  | none => rw [e] at h; cases h
  | some n => rw [e] at h; exact ⟨n, rfl, (Option.some.inj h).symm⟩
theorem take_snoc {ns : List Int} {i : Nat} {n : Int} (h : ns[i]? = some n) : ns.take (i + 1) = ns.take i ++ [n] := by rw [List.take_add_one, h]; rfl
theorem take_len {ns : List Int} {i : Nat} (h : i ≤ ns.length) : (ns.take i).length = i := by rw [List.length_take]; omega
theorem PSs.weak {X : Cx} {ss : List Stmt} {t t' : TS} (h : PSs X ss t) (k : ∀ D σ H, t' D σ H → t D σ H) : PSs X ss t' := fun pins s σ H D I z => h pins s σ H D I (k D σ H z)
theorem eqv_ints (ns ms : List Int) : PyData.eqv (.list (ns.map PyData.int)) (.list (ms.map PyData.int)) = decide (ns = ms) := by
  simp only [PyData.eqv, PySem.W.ked_eqvAll]
section
variable {K : PySem.W.Frag} {H : Hp} {Q : VK} {a b : Addr} {ns ms : List Int}
theorem rd_neL (h1 : SqL K H a (I2 ns)) (h2 : SqL K H b (I2 ms)) (k : Q (.bl (!decide (ns = ms))) H) : rNeA K (.ref a) (.ref b) H Q :=
  rd_neD (.lst h1 (DtA.ints ns)) (.lst h2 (DtA.ints ms)) (PySem.W.ke_shaped_ints ns) (PySem.W.ke_shaped_ints ms) (eqv_ints ns ms) k
end
def cutI (ns : List Int) (lo hi : Option Int) : List Int := (ns.drop (HT.sIx ns.length 0 lo)).take (HT.sIx ns.length ns.length hi - HT.sIx ns.length 0 lo)
theorem cut_I2 (ns : List Int) (lo hi : Option Int) : cutV (I2 ns) lo hi = I2 (cutI ns lo hi) := by
  simp [cutV, cutI, I2, List.map_drop, List.map_take]
theorem cutI_to {ns : List Int} {m : Nat} : cutI ns none (some (m : Int)) = ns.take m := by
  unfold cutI
  rw [HT.sIx_none, HT.sIx_nat, List.drop_zero, Nat.sub_zero]
  rcases Nat.le_total m ns.length with h | h
  · rw [Nat.min_eq_left h]
  · rw [Nat.min_eq_right h, List.take_length, List.take_of_length_le h]
theorem cutI_from {ns : List Int} {m : Nat} : cutI ns (some (m : Int)) none = ns.drop m := by
  unfold cutI
  rw [HT.sIx_none, HT.sIx_nat]
  rcases Nat.le_total m ns.length with h | h
  · rw [Nat.min_eq_left h, List.take_of_length_le (by rw [List.length_drop]; omega)]
  · rw [Nat.min_eq_right h, List.drop_of_length_le h, List.drop_of_length_le (Nat.le_refl _)]; simp
theorem rd_slL {K : PySem.W.Frag} {H : Hp} {Q : VK} {a : Addr} {ns : List Int} {lo hi : Option Int} (h : SqL K H a (I2 ns)) (k : ∀ p, H p = none → Q (.ref p) (upd H p (.lst (I2 (cutI ns lo hi))))) : rSlL K (.ref a) lo hi H Q :=
  ⟨a, _, rfl, h, fun p hp => by rw [cut_I2]; exact k p hp⟩
theorem rd_rep {H : Hp} {Q : VK} {a : Addr} {x : V} {n : Int} (h : H a = some (.lst [x])) (h0 : 0 ≤ n) (h1 : n ≤ 100000) (k : ∀ p, H p = none → Q (.ref p) (upd H p (.lst (List.replicate n.toNat x)))) : rMulA (.ref a) (.int n) H Q := by
  refine .inr ⟨a, n, _, rfl, rfl, h, by omega, by omega, ?_, fun p hp => ?_⟩
  · show 1 * n.toNat ≤ sizeLine
    exact small (by omega)
  · have e : (List.replicate n.toNat [x]).flatten = List.replicate n.toNat x := by
      generalize n.toNat = m
      induction m with
      | zero => rfl
      | succ m ih => rw [List.replicate_succ, List.flatten_cons, ih]; rfl
    rw [e]; exact k p hp
theorem _root_.L2.New.sqL {K : PySem.W.Frag} {H H' : Hp} {l : Addr} {xs : List V} (h : New H H' l (.lst xs)) : SqL K H' l xs := SqL.of h.here
theorem _root_.L2.New.sqT {K : PySem.W.Frag} {H H' : Hp} {l : Addr} {xs : List V} (h : New H H' l (.tup xs)) : SqT K H' l xs := SqT.of h.here
theorem _root_.L2.New.after {H H1 H2 : Hp} {l : Addr} {o : HO} (h : New H1 H2 l o) (s : Same H H1) : New H H2 l o := ⟨s.trans h.same, s.free h.fresh, h.here⟩
theorem _root_.L2.New.stay {H H1 H2 : Hp} {l : Addr} {o : HO} (h : New H H1 l o) (s : Same H1 H2) : New H H2 l o := ⟨h.same.trans s, h.fresh, s _ _ h.here⟩
theorem rd_tryAs {K : PySem.W.Frag} {tb : (St → Addr → Hp → Prop) → TS} {th : TS} {i : Nat} {B : Addr} {D : Ends} {σ : St} {H : Hp} (k : tb (fun σ' C H' => PySem.W.mroIn K C (.ref B) = some true ∧ ∀ a, H' a = none →
  th { nx := fun σ2 H2 => D.nx (σ2.set i none) H2, rt := fun _ _ => False } (σ'.set i (some (.ref a))) (upd H' a (excO a C))) D σ H) : tTryAs K tb th i B D σ H := k
theorem ixN_in {n : Nat} {k : Int} (h0 : 0 ≤ k) (h1 : k < n) : ixN n k = some k.toNat := by
  unfold ixN; rw [if_pos h0, if_pos h1]
theorem I2_rep (n : Nat) (a : Int) : List.replicate n (V.int a) = I2 (List.replicate n a) := by simp [I2]
theorem set_mem {ns : List Int} {j : Nat} {v x : Int} (h : x ∈ ns.set j v) : x ∈ ns ∨ x = v := by
  rcases List.mem_or_eq_of_mem_set h with h | h
  · exact .inl h
  · exact .inr h
theorem rd_orV {ta tb : TE} {σ : St} {H : Hp} {Q : VK} (k : ta σ H fun x H1 => ∃ c, x = .bl c ∧ if c = true then Q (.bl true) H1 else tb σ H1 Q) : tOrV ta tb σ H Q := k
theorem rd_chain {r r' : R2} {ta tb tc : TE} {σ : St} {H : Hp} {Q : VK} (k : ta σ H fun x H1 => tb σ H1 fun y H2 => r x y H2 fun z H3 => ∃ k, z = .bl k ∧ (if k = true then tc σ H3 fun w' H4 => r' y w' H4 Q else Q (.bl false) H3)) : tChain r r' ta tb tc σ H Q := k
theorem rd_ext {H : Hp} {Q : VK} {a b : Addr} {xs ys : List V} (h1 : H a = some (.lst xs)) (h2 : H b = some (.lst ys)) (hz : xs.length + ys.length ≤ sizeLine) (k : Q .non (upd H a (.lst (xs ++ ys)))) : rExtend (.ref a) [.ref b] H Q := ⟨a, b, xs, ys, rfl, rfl, h1, h2, hz, k⟩
theorem SqT.upd_lst {K : PySem.W.Frag} {H : Hp} {t r : Addr} {xs ys zs : List V} (h : SqT K H t xs) (hr : H r = some (.lst ys)) : SqT K (upd H r (.lst zs)) t xs := by
  rcases h with (h | ⟨o, h⟩) | h
  · exact .inl (.inl (by rw [upd_ne (fun e => by subst e; rw [h] at hr; cases hr)]; exact h))
  · exact .inl (.inr ⟨o, by rw [upd_ne (fun e => by subst e; rw [h] at hr; cases hr)]; exact h⟩)
  · exact .inr h
end Sr
namespace L2
open PySem PySem.Spec PyProof.Rows
def tCBK (r : List V → List V → Hp → VK → Prop) (t tk : TA) : TE := fun σ H Q => t σ H fun vs H1 => tk σ H1 fun zs H2 => r vs zs H2 Q
theorem rd_CBK {r : List V → List V → Hp → VK → Prop} {t tk : TA} {σ : St} {H : Hp} {Q : VK} (k : t σ H fun vs H1 => tk σ H1 fun zs H2 => r vs zs H2 Q) : tCBK r t tk σ H Q := k
end L2
namespace L2
open PySem PySem.Spec PyProof.Rows
section
variable {prog : Program} {w : World} {A : Around} {R : Result → Shared → Prop} {I l S : Addr} {its : Array Value} {f : Nat → Int}
end
end L2
namespace L2
open PySem PySem.Spec PyProof.Rows
section
variable {prog : Program} {w : World} {A : Around} {R : Result → Shared → Prop} {I l S : Addr} {its : Array Value} {f : Nat → Int}
end
end L2
namespace Sr
def trimL (b : Int) : List Int → List Int
  | [] => []
  | x :: r => if x = b then x :: r else r
def trimR (b : Int) (l : List Int) : List Int := if l.getLast? = some b then l else l.dropLast
def mid (l : List Int) : List Int := (l.drop 1).dropLast
def fits (a b : Int) (l : List Int) : Prop := (∀ x ∈ l, x ≤ b) ∧ ∀ x ∈ mid l, x = a ∨ x = b
instance (a b : Int) (l : List Int) : Decidable (fits a b l) := by unfold fits; exact inferInstance
def inn (a b : Int) (w : List Int) : Option (List Int) := if fits a b (lens w) then some (trimR b (trimL b (lens w))) else none
def hgt (a b : Int) (w : List Int) : Option Nat :=
  if w = [] then some 0 else
    match inn a b w with
    | none => none
    | some v => if v.length < w.length then (hgt a b v).map (· + 1) else none
termination_by w.length
theorem trimL_cons (b x : Int) (r : List Int) : trimL b (x :: r) = if x = b then x :: r else r := rfl
theorem trimL_len (b : Int) (l : List Int) : (trimL b l).length ≤ l.length := by
  cases l with
  | nil => exact Nat.le_refl _
  | cons x r => rw [trimL_cons]; split <;> simp
theorem trimR_len (b : Int) (l : List Int) : (trimR b l).length ≤ l.length := by
  unfold trimR; split
  · exact Nat.le_refl _
  · simp
theorem lens_one : ∀ (w : List Int), (lens w).length = w.length → ∀ x ∈ lens w, x = 1 := by
  intro w
  induction hn : w.length using Nat.strongRecOn generalizing w with
  | _ n ih =>
    intro hl x hx
    rcases List.eq_nil_or_concat w with e | ⟨u, v, e⟩
    · subst e; simp [lens, lensFrom] at hx
    · rw [List.concat_eq_append] at e
      subst e
      rw [lens_snoc] at hl hx
      have := lens_length u
      simp only [List.length_append, List.length_cons, List.length_nil] at hn
      split at hl
      · rw [bump_length] at hl; omega
      · rename_i hc
        rw [if_neg hc] at hx
        simp only [List.length_append, List.length_cons, List.length_nil] at hl
        rcases List.mem_append.mp hx with h | h
        · exact ih u.length (by omega) u rfl (by omega) x h
        · simpa using h
theorem inn_length {a b : Int} (hb : 2 ≤ b) {w v : List Int} (hw : w ≠ []) (h : inn a b w = some v) : v.length < w.length := by
  unfold inn at h
  split at h
  · have h := Option.some.inj h
    have h1 := trimR_len b (trimL b (lens w))
    have h2 := trimL_len b (lens w)
    have h3 := lens_length w
    rw [h] at h1
    by_cases e : (lens w).length = w.length
    · have h4 := lens_one w e
      cases hl : lens w with
      | nil => exact absurd hl (lens_ne_nil hw)
      | cons x r =>
        have hx : x = 1 := h4 x (by rw [hl]; simp)
        have : trimL b (lens w) = r := by
          rw [hl, trimL_cons, if_neg (by omega)]
        rw [this] at h1
        rw [hl] at e
        simp at e
        omega
    · omega
  · cases h
theorem hgt_nil (a b : Int) : hgt a b [] = some 0 := by unfold hgt; rw [if_pos rfl]
theorem hgt_none {a b : Int} {w : List Int} (hw : w ≠ []) (h : inn a b w = none) : hgt a b w = none := by
  unfold hgt; rw [if_neg hw, h]
theorem hgt_some {a b : Int} (hb : 2 ≤ b) {w v : List Int} (hw : w ≠ []) (h : inn a b w = some v) : hgt a b w = (hgt a b v).map (· + 1) := by
  conv => lhs; unfold hgt
  rw [if_neg hw, h]
  simp only [if_pos (inn_length hb hw h)]
end Sr
namespace Sr
theorem trimL_app {b : Int} {l : List Int} (h : l ≠ []) (m : List Int) : trimL b (l ++ m) = trimL b l ++ m := by
  cases l with
  | nil => exact absurd rfl h
  | cons x r => rw [List.cons_append, trimL_cons, trimL_cons]; split <;> rfl
theorem trimR_snoc {b : Int} (l : List Int) (x : Int) : trimR b (l ++ [x]) = if x = b then l ++ [x] else l := by
  unfold trimR
  simp only [List.getLast?_concat, List.dropLast_concat, Option.some.injEq]
theorem trimR_or (b : Int) (l : List Int) : trimR b l = l ∨ trimR b l = l.dropLast := by
  unfold trimR; split
  · exact .inl rfl
  · exact .inr rfl
theorem mid_snoc {l : List Int} (h : l ≠ []) (x : Int) : mid (l ++ [x]) = l.drop 1 := by
  cases l with
  | nil => exact absurd rfl h
  | cons y r => simp [mid]
theorem inn_dropLast {a b : Int} (hb : 2 ≤ b) {u : List Int} {x : Int} {v : List Int} (h : inn a b (u ++ [x]) = some v) :
    ∃ v', inn a b u = some v' ∧ (v' = v ∨ v' = v.dropLast ∨ v' = []) := by
  by_cases hu : u = []
  · subst hu
    refine ⟨[], ?_, .inr (.inr rfl)⟩
    unfold inn
    rw [if_pos]
    · rfl
    · refine ⟨fun x h => ?_, fun x h => ?_⟩
      · simp [lens, lensFrom] at h
      · simp [lens, lensFrom, mid] at h
  · have hne := lens_ne_nil hu
    unfold inn at h
    split at h
    · rename_i hf
      have hv := Option.some.inj h
      rw [lens_snoc] at hf hv
      split at hf
      · rename_i hc
        rw [if_pos hc] at hv
        rcases List.eq_nil_or_concat (lens u) with e | ⟨M, m, e⟩
        · exact absurd e hne
        rw [List.concat_eq_append] at e
        rw [e, bump_snoc] at hf hv
        have hm : m + 1 ≤ b := hf.1 (m + 1) (by simp)
        have fu : fits a b (lens u) := by
          rw [e]
          refine ⟨fun y hy => ?_, fun y hy => ?_⟩
          · rcases List.mem_append.mp hy with h | h
            · exact hf.1 y (List.mem_append_left _ h)
            · have : y = m := by simpa using h
              omega
          · by_cases hM : M = []
            · subst hM; simp [mid] at hy
            · rw [mid_snoc hM] at hy
              exact hf.2 y (by rw [mid_snoc hM]; exact hy)
        refine ⟨trimR b (trimL b (lens u)), by unfold inn; rw [if_pos fu], ?_⟩
        by_cases hM : M = []
        · subst hM
          refine .inr (.inr ?_)
          rw [e, List.nil_append, trimL_cons, if_neg (by omega)]
          rfl
        · rw [e, trimL_app hM, trimR_snoc, if_neg (by omega)]
          rw [trimL_app hM, trimR_snoc] at hv
          split at hv
          · refine .inr (.inl ?_)
            rw [← hv, List.dropLast_concat]
          · exact .inl hv
      · rename_i hc
        rw [if_neg hc, trimL_app hne, trimR_snoc, if_neg (by omega)] at hv
        have fu : fits a b (lens u) := by
          refine ⟨fun y hy => hf.1 y (List.mem_append_left _ hy), fun y hy => ?_⟩
          refine hf.2 y ?_
          rw [mid_snoc hne]
          exact List.dropLast_subset _ hy
        refine ⟨trimR b (trimL b (lens u)), by unfold inn; rw [if_pos fu], ?_⟩
        rw [hv]
        rcases trimR_or b v with h | h
        · exact .inl h
        · exact .inr (.inl h)
    · cases h
def Smo (a b : Int) (w : List Int) (h : Nat) : Prop := ∃ k, hgt a b w = some k ∧ k ≤ h
theorem Smo.nil {a b : Int} {h : Nat} : Smo a b [] h := ⟨0, hgt_nil a b, Nat.zero_le _⟩
theorem Smo.mono {a b : Int} {w : List Int} {h h' : Nat} (s : Smo a b w h) (l : h ≤ h') : Smo a b w h' := by
  obtain ⟨k, e, z⟩ := s; exact ⟨k, e, Nat.le_trans z l⟩
theorem Smo.inn {a b : Int} (hb : 2 ≤ b) {w : List Int} {h : Nat} (hw : w ≠ []) (s : Smo a b w h) : ∃ v h', Sr.inn a b w = some v ∧ h = h' + 1 ∧ Smo a b v h' := by
  obtain ⟨k, e, z⟩ := s
  cases hi : Sr.inn a b w with
  | none => rw [hgt_none hw hi] at e; cases e
  | some v =>
    rw [hgt_some hb hw hi] at e
    cases hk : hgt a b v with
    | none => rw [hk] at e; cases e
    | some j =>
      rw [hk] at e
      have e : j + 1 = k := Option.some.inj e
      exact ⟨v, h - 1, rfl, by omega, j, hk, by omega⟩
theorem Smo.up {a b : Int} (hb : 2 ≤ b) {w v : List Int} {h : Nat} (hw : w ≠ []) (hi : Sr.inn a b w = some v) (s : Smo a b v h) : Smo a b w (h + 1) := by
  obtain ⟨k, e, z⟩ := s
  exact ⟨k + 1, by rw [hgt_some hb hw hi, e]; rfl, by omega⟩
theorem Smo.init {a b : Int} (hb : 2 ≤ b) : ∀ (w : List Int) (h : Nat), Smo a b w h → Smo a b w.dropLast h := by
  intro w
  induction hn : w.length using Nat.strongRecOn generalizing w with
  | _ n ih =>
    intro h s
    rcases List.eq_nil_or_concat w with e | ⟨u, x, e⟩
    · subst e; exact s
    rw [List.concat_eq_append] at e
    subst e
    rw [List.dropLast_concat]
    by_cases hu : u = []
    · subst hu; exact .nil
    obtain ⟨v, h', hi, rfl, s'⟩ := s.inn hb (by simp)
    obtain ⟨v', hi', hv⟩ := inn_dropLast hb hi
    have hl := inn_length hb (by simp) hi
    refine Smo.up hb hu hi' ?_
    rcases hv with rfl | rfl | rfl
    · exact s'
    · exact ih v.length (by omega) v rfl h' s'
    · exact .nil
theorem Smo.take {a b : Int} (hb : 2 ≤ b) {w : List Int} {h : Nat} (s : Smo a b w h) (i : Nat) : Smo a b (w.take i) h := by
  by_cases hi : w.length ≤ i
  · rw [List.take_of_length_le hi]; exact s
  · have key : ∀ k, k ≤ w.length → Smo a b (w.take (w.length - k)) h := by
      intro k
      induction k with
      | zero => intro _; rw [Nat.sub_zero, List.take_length]; exact s
      | succ k ih =>
        intro hk
        have := Smo.init hb _ _ (ih (by omega))
        rw [List.dropLast_eq_take, List.take_take, List.length_take] at this
        rw [show w.length - (k + 1) = min (min (w.length - k) w.length - 1) (w.length - k) by omega]
        exact this
    have := key (w.length - i) (by omega)
    rw [show w.length - (w.length - i) = i by omega] at this
    exact this
def bumpL : List Int → List Int
  | [] => []
  | x :: r => (x + 1) :: r
theorem lensFrom_acc (v : List Int) : ∀ (m : Int) (acc : List Int) (last : Option Int) , lensFrom (acc ++ [m]) last v = acc ++ lensFrom [m] last v := by
  induction v with
  | nil => intro m acc last; rfl
  | cons x r ih =>
    intro m acc last
    rw [lensFrom, lensFrom]
    split
    · rw [bump_snoc, ih]; rfl
    · rw [ih 1 (acc ++ [m]), ih 1 [m], List.append_assoc]
theorem lensFrom_head (v : List Int) : ∀ (m : Int) (last : Option Int), ∃ y r, lensFrom [m] last v = y :: r ∧ lensFrom [m + 1] last v = (y + 1) :: r := by
  induction v with
  | nil => intro m last; exact ⟨m, [], rfl, rfl⟩
  | cons x r ih =>
    intro m last
    rw [lensFrom, lensFrom]
    split
    · show ∃ y r', lensFrom [m + 1] (some x) r = y :: r' ∧ lensFrom [m + 1 + 1] (some x) r = (y + 1) :: r'
      exact ih (m + 1) (some x)
    · rw [lensFrom_acc, lensFrom_acc]
      exact ⟨m, _, rfl, rfl⟩
theorem lens_cons (x : Int) (w : List Int) : lens (x :: w) = if w.head? = some x then bumpL (lens w) else 1 :: lens w := by
  cases w with
  | nil => rfl
  | cons y r =>
    unfold lens
    simp only [List.head?_cons, Option.some.injEq]
    have n1 : ∀ z : Int, ¬ ((none : Option Int) = some z) := fun z h => nomatch h
    have l1 : lensFrom [] none (x :: y :: r) = lensFrom (if some x = some y then bump [1] else [1] ++ [1]) (some y) r := by
      rw [lensFrom, lensFrom, if_neg (n1 x)]; rfl
    have l2 : lensFrom [] none (y :: r) = lensFrom [1] (some y) r := by
      rw [lensFrom, if_neg (n1 y)]; rfl
    rw [l1, l2]
    by_cases h : y = x
    · rw [if_pos h, if_pos (by rw [h])]
      show lensFrom [2] (some y) r = _
      obtain ⟨z, t, e1, e2⟩ := lensFrom_head r 1 (some y)
      rw [e1]
      exact e2
    · rw [if_neg h, if_neg (fun e => h (Option.some.inj e).symm), lensFrom_acc]
      rfl
theorem bump_rev (l : List Int) : (bump l.reverse) = (bumpL l).reverse := by
  cases l with
  | nil => rfl
  | cons x r => simp [bumpL, bump_snoc]
theorem lens_rev (w : List Int) : lens w.reverse = (lens w).reverse := by
  induction w with
  | nil => rfl
  | cons x w ih =>
    rw [List.reverse_cons, lens_snoc, lens_cons, List.getLast?_reverse, ih]
    split
    · exact bump_rev _
    · simp
theorem mid_rev (l : List Int) : mid l.reverse = (mid l).reverse := by
  unfold mid
  rw [List.drop_reverse, List.dropLast_reverse]
  congr 1
  cases l with
  | nil => rfl
  | cons x r =>
    rcases List.eq_nil_or_concat r with e | ⟨m, y, e⟩
    · subst e; rfl
    · rw [List.concat_eq_append] at e; subst e; simp
theorem fits_rev {a b : Int} (l : List Int) : fits a b l.reverse ↔ fits a b l := by
  unfold fits
  rw [mid_rev]
  simp only [List.mem_reverse]
theorem trim_rev (b : Int) (l : List Int) : trimR b (trimL b l.reverse) = (trimR b (trimL b l)).reverse := by
  cases l with
  | nil => rfl
  | cons x r =>
    rcases List.eq_nil_or_concat r with e | ⟨m, y, e⟩
    · subst e
      show trimR b (trimL b [x]) = _
      rw [trimL_cons]
      split
      · rename_i h
        show trimR b ([] ++ [x]) = (trimR b ([] ++ [x])).reverse
        rw [trimR_snoc, if_pos h]; rfl
      · rfl
    · rw [List.concat_eq_append] at e; subst e
      have e1 : (x :: (m ++ [y])).reverse = y :: (m.reverse ++ [x]) := by simp
      rw [e1, trimL_cons, trimL_cons, ← List.cons_append, ← List.cons_append]
      by_cases hx : x = b <;> by_cases hy : y = b
      · rw [if_pos hx, if_pos hy, trimR_snoc, trimR_snoc, if_pos hx, if_pos hy]; simp
      · rw [if_pos hx, if_neg hy, trimR_snoc, trimR_snoc, if_pos hx, if_neg hy]; simp
      · rw [if_neg hx, if_pos hy, trimR_snoc, trimR_snoc, if_neg hx, if_pos hy]; simp
      · rw [if_neg hx, if_neg hy, trimR_snoc, trimR_snoc, if_neg hx, if_neg hy]
theorem inn_rev (a b : Int) (w : List Int) : inn a b w.reverse = (inn a b w).map List.reverse := by
  unfold inn
  rw [lens_rev, trim_rev]
  by_cases h : fits a b (lens w)
  · rw [if_pos h, if_pos ((fits_rev _).mpr h)]; rfl
  · rw [if_neg h, if_neg (fun z => h ((fits_rev _).mp z))]; rfl
theorem hgt_rev {a b : Int} (hb : 2 ≤ b) : ∀ (w : List Int), hgt a b w.reverse = hgt a b w := by
  intro w
  induction hn : w.length using Nat.strongRecOn generalizing w with
  | _ n ih =>
    by_cases hw : w = []
    · subst hw; rfl
    have hw' : w.reverse ≠ [] := by simpa using hw
    have e := inn_rev a b w
    cases hi : inn a b w with
    | none => rw [hi] at e; rw [hgt_none hw hi, hgt_none hw' e]
    | some v =>
      rw [hi] at e
      rw [hgt_some hb hw hi, hgt_some hb hw' e]
      have := inn_length hb hw hi
      rw [ih v.length (by omega) v rfl]
theorem Smo.rev {a b : Int} (hb : 2 ≤ b) {w : List Int} {h : Nat} (s : Smo a b w h) : Smo a b w.reverse h := by
  obtain ⟨k, e, z⟩ := s; exact ⟨k, by rw [hgt_rev hb]; exact e, z⟩
theorem Smo.drop {a b : Int} (hb : 2 ≤ b) {w : List Int} {h : Nat} (s : Smo a b w h) (i : Nat) : Smo a b (w.drop i) h := by
  have := ((s.rev hb).take hb (w.length - i)).rev hb
  rw [List.take_reverse, List.reverse_reverse] at this
  by_cases hi : i ≤ w.length
  · rw [show w.length - (w.length - i) = i by omega] at this; exact this
  · rw [List.drop_of_length_le (by omega)]; exact .nil
theorem trimL_drop (b : Int) (l : List Int) : ∃ i, trimL b l = l.drop i := by
  cases l with
  | nil => exact ⟨0, rfl⟩
  | cons x r =>
    rw [trimL_cons]; split
    · exact ⟨0, rfl⟩
    · exact ⟨1, rfl⟩
theorem trimR_take (b : Int) (l : List Int) : ∃ i, trimR b l = l.take i := by
  rcases trimR_or b l with h | h
  · exact ⟨l.length, by rw [h, List.take_length]⟩
  · exact ⟨l.length - 1, by rw [h, List.dropLast_eq_take]⟩
theorem Smo.trim {a b : Int} (hb : 2 ≤ b) {w : List Int} {h : Nat} (s : Smo a b w h) : Smo a b (trimR b (trimL b w)) h := by
  obtain ⟨i, e⟩ := trimL_drop b w
  obtain ⟨j, e'⟩ := trimR_take b (trimL b w)
  rw [e', e]
  exact (s.drop hb i).take hb j
theorem inn_bl {a b s : Int} (hok : okL a b) (hs : s = a ∨ s = b) {w : List Int} (hw : ∀ x ∈ w, x = a ∨ x = b) : inn a b (bl a b s w) = some (trimR b (trimL b w)) := by
  unfold okL at hok
  have e : lens (bl a b s w) = w := lens_bl (by omega) hs (fun n hn => by rcases hw n hn with h | h <;> omega)
  unfold inn
  rw [e, if_pos]
  refine ⟨fun x hx => by rcases hw x hx with h | h <;> omega, fun x hx => hw x ?_⟩
  exact List.mem_of_mem_drop (List.dropLast_subset _ hx)
theorem Smo.bl {a b s : Int} (hok : okL a b) (hs : s = a ∨ s = b) {w : List Int} {h : Nat} (hw : ∀ x ∈ w, x = a ∨ x = b) (sm : Smo a b w h) : Smo a b (bl a b s w) (h + 1) := by
  by_cases hz : Sr.bl a b s w = []
  · rw [hz]; exact .nil
  have hb : 2 ≤ b := by unfold okL at hok; omega
  exact Smo.up hb hz (inn_bl hok hs hw) (sm.trim hb)
end Sr
namespace Sr
def ols (a b s : Int) : Nat → List Int
  | 0 => []
  | i + 1 => ols a b s i ++ [((bl a b s (ols a b s i))[i]?).getD (turnS a b s i)]
def orow (a b s : Int) (i : Nat) : List Int := bl a b s (ols a b s i)
def oln (a b s : Int) (i : Nat) : Int := ((orow a b s i)[i]?).getD (turnS a b s i)
section
variable {a b s : Int}
theorem ols_succ (i : Nat) : ols a b s (i + 1) = ols a b s i ++ [oln a b s i] := rfl
theorem ols_length : ∀ i, (ols a b s i).length = i
  | 0 => rfl
  | i + 1 => by rw [ols_succ, List.length_append, ols_length i]; rfl
theorem orow_succ (i : Nat) : orow a b s (i + 1) = orow a b s i ++ List.replicate (oln a b s i).toNat (turnS a b s i) := by
  unfold orow
  rw [ols_succ, bl_snoc, ols_length]
theorem orow_mem (hs : s = a ∨ s = b) (i : Nat) : ∀ x ∈ orow a b s i, x = a ∨ x = b := bl_mem _ _ hs
theorem oln_mem (hs : s = a ∨ s = b) (i : Nat) : oln a b s i = a ∨ oln a b s i = b := by
  unfold oln
  cases h : (orow a b s i)[i]? with
  | none => exact turnS_mem hs i
  | some x => exact orow_mem hs i x (List.mem_of_getElem? h)
theorem oln_bd (hok : okL a b) (hs : s = a ∨ s = b) (i : Nat) : 1 ≤ oln a b s i ∧ oln a b s i ≤ 9 := by
  unfold okL at hok
  rcases oln_mem hs i with h | h <;> omega
theorem orow_len_succ (hok : okL a b) (hs : s = a ∨ s = b) (i : Nat) : ((orow a b s (i + 1)).length : Int) = (orow a b s i).length + oln a b s i := by
  have := oln_bd hok hs i
  rw [orow_succ, List.length_append, List.length_replicate]
  omega
theorem orow_ge (hok : okL a b) (hs : s = a ∨ s = b) : ∀ i, i ≤ (orow a b s i).length
  | 0 => Nat.zero_le _
  | i + 1 => by
    have h1 := orow_ge hok hs i
    have h2 := orow_len_succ hok hs i
    have h3 := oln_bd hok hs i
    omega
theorem orow_le (hok : okL a b) (hs : s = a ∨ s = b) : ∀ i, (orow a b s i).length ≤ 9 * i
  | 0 => Nat.le_refl _
  | i + 1 => by
    have h1 := orow_le hok hs i
    have h2 := orow_len_succ hok hs i
    have h3 := oln_bd hok hs i
    omega
theorem orow_add (i : Nat) : ∀ k, ∃ t, orow a b s (i + k) = orow a b s i ++ t
  | 0 => ⟨[], by simp⟩
  | k + 1 => by
    obtain ⟨t, e⟩ := orow_add i k
    exact ⟨t ++ List.replicate (oln a b s (i + k)).toNat (turnS a b s (i + k)), by rw [← Nat.add_assoc, orow_succ, e, List.append_assoc]⟩
theorem orow_mono {i j : Nat} (h : i ≤ j) : ∃ t, orow a b s j = orow a b s i ++ t := by
  obtain ⟨t, e⟩ := orow_add (a := a) (b := b) (s := s) i (j - i)
  exact ⟨t, by rw [← e]; congr 1; omega⟩
theorem orow_at' (hok : okL a b) (hs : s = a ∨ s = b) (i : Nat) : (orow a b s (i + 1))[i]? = some (oln a b s i) := by
  have hg := orow_ge hok hs i
  have hb := oln_bd hok hs i
  rw [orow_succ]
  by_cases h : i < (orow a b s i).length
  · rw [List.getElem?_append_left h]
    unfold oln
    rw [List.getElem?_eq_getElem h]
    rfl
  · rw [List.getElem?_append_right (by omega)]
    have e : oln a b s i = turnS a b s i := by
      unfold oln
      rw [List.getElem?_eq_none (by omega)]; rfl
    rw [List.getElem?_replicate, if_pos (by omega), e]
theorem orow_at (hok : okL a b) (hs : s = a ∨ s = b) {i j : Nat} (h : i < (orow a b s j).length) : (orow a b s j)[i]? = some (oln a b s i) := by
  have e1 := orow_at' hok hs i
  rcases Nat.le_total j (i + 1) with hj | hj
  · obtain ⟨t, e⟩ := orow_mono (a := a) (b := b) (s := s) hj
    rw [e, List.getElem?_append_left h] at e1
    exact e1
  · obtain ⟨t, e⟩ := orow_mono (a := a) (b := b) (s := s) hj
    have := orow_ge hok hs (i + 1)
    rw [e, List.getElem?_append_left (by omega)]
    exact e1
def opre (a b s : Int) (n : Nat) : List Int := (orow a b s n).take n
end
section
variable {a b s : Int}
end
end Sr
namespace Sr
end Sr
namespace Sr
def nxt (a b : Int) (w : List Int) : List Int := [a, b].filter fun s => (hgt a b (w ++ [s])).isSome
theorem nxt_len (a b : Int) (w : List Int) : (nxt a b w).length ≤ 2 := List.length_filter_le _ _
def ups (a b : Int) (w : List Int) : List (List Int) := (nxt a b w).map fun s => w ++ [s]
def sml (a b : Int) : Nat → List (List Int)
  | 0 => [[]]
  | n + 1 => (sml a b n).flatMap (ups a b)
theorem sml_length (a b : Int) : ∀ n, ∀ w ∈ sml a b n, w.length = n
  | 0, w, h => by simp [sml] at h; subst h; rfl
  | n + 1, w, h => by
    rw [sml, List.mem_flatMap] at h
    obtain ⟨u, hu, hw⟩ := h
    obtain ⟨s, _, rfl⟩ := List.mem_map.mp hw
    rw [List.length_append, sml_length a b n u hu]; rfl
theorem sml_count (a b : Int) : ∀ n, (sml a b n).length ≤ 2 ^ n
  | 0 => Nat.le_refl _
  | n + 1 => by
    have ih := sml_count a b n
    have key : ∀ l : List (List Int), (l.flatMap (ups a b)).length ≤ 2 * l.length := by
      intro l
      induction l with
      | nil => simp
      | cons w r ih2 =>
        rw [List.flatMap_cons, List.length_append, List.length_cons]
        have : (ups a b w).length ≤ 2 := by unfold ups; rw [List.length_map]; exact nxt_len a b w
        omega
    have := key (sml a b n)
    rw [sml, Nat.pow_succ]
    omega
end Sr
namespace L2
open PySem PySem.Spec PyProof.Rows
theorem bools_get {bs : List Bool} : ∀ {us : List Value}, Vals (bs.map V.bl) us → ∀ (i : Nat) (v : Value), us[i]? = some v → ∃ b, bs[i]? = some b ∧ v = .bool b := by
  induction bs with
  | nil => intro us r i v h; cases r; simp at h
  | cons b bs ih =>
    intro us r i v h
    cases r with
    | cons r1 r2 =>
      cases i with
      | zero =>
        have r1 : _ = Value.bool b := r1
        subst r1
        exact ⟨b, rfl, by simpa using h.symm⟩
      | succ i => simpa using ih r2 i v (by simpa using h)
theorem range_allB (bs : List Bool) : ((List.range bs.length).all fun i => (bs[i]?).getD true) = bs.all id := by
  rw [Bool.eq_iff_iff, List.all_eq_true, List.all_eq_true]
  constructor
  · intro h b hb
    obtain ⟨i, hi, e⟩ := List.getElem_of_mem hb
    have := h i (List.mem_range.mpr hi)
    simp only [List.getElem?_eq_getElem hi, Option.getD_some, e] at this
    exact this
  · intro h i hi
    have hi' := List.mem_range.mp hi
    simp only [List.getElem?_eq_getElem hi', Option.getD_some]
    exact h _ (List.getElem_mem hi')
theorem range_anyB (bs : List Bool) : ((List.range bs.length).any fun i => (bs[i]?).getD false) = bs.any id := by
  rw [Bool.eq_iff_iff, List.any_eq_true, List.any_eq_true]
  constructor
  · rintro ⟨i, hi, e⟩
    have hi' := List.mem_range.mp hi
    simp only [List.getElem?_eq_getElem hi', Option.getD_some] at e
    exact ⟨_, List.getElem_mem hi', e⟩
  · rintro ⟨b, hb, e⟩
    obtain ⟨i, hi, rfl⟩ := List.getElem_of_mem hb
    exact ⟨i, List.mem_range.mpr hi, by simp only [List.getElem?_eq_getElem hi, Option.getD_some]; exact e⟩
theorem kept_it {h h' : Heap} {o : Obj} (hk : ∀ b x, b ∉ [h.objs.size] → (h.push o).get? b = some x → h'.get? b = some x) : ∀ b x, h.get? b = some x → h'.get? b = some x :=
  fun b x e => hk b x (fun hm => by rw [List.mem_singleton.mp hm] at e; exact Nat.lt_irrefl _ (Heap.lt_size e)) (Heap.get?_push_of_some _ e)
theorem call_allK {X : Cx} {K : PySem.W.Frag} (hc : X.calm = true) (hK : X.K = K := by rfl) : CallR X (.builtin "all") (fun xs H Q => ∃ (l : Addr) (bs : List Bool), xs = [.ref l] ∧ SqL K H l (bs.map V.bl) ∧ Q (.bl (bs.all id)) H) := by
  subst hK
  intro pins s σ H xs us Q I r h
  obtain ⟨l, bs, rfl, hl, q⟩ := h
  obtain ⟨u, rfl, e⟩ := vals1 r
  cases e
  obtain ⟨its, rv, pl, hz⟩ := I.list hl
  have hlen : its.length = bs.length := by rw [← rv.length, List.length_map]
  have hlt : l < s.heap.objs.size := by obtain ⟨_, e, _⟩ := pl.isList; exact Heap.lt_size e
  refine call_all_walk (wpAny_pyIter_list pl.isList ?_)
  refine ⟨s.heap.objs.size, [s.heap.objs.size, l], [s.heap.objs.size], its.toArray.size, _, _, fun i => (bs[i]?).getD true, rfl, Walks.list (A := X.A.in1) (I.ok.hd hc) _ l (Nat.ne_of_lt hlt) its.toArray,
    ⟨⟨_, Heap.get?_push_size _ rfl, rfl, rfl⟩, pl.isList.push _⟩, fun i v s' Q' E' hP hQ => ?_, fun h' tk hk => ?_⟩
  · obtain ⟨b, e, rfl⟩ := bools_get rv i v (by simpa using hP)
    simp only [e, Option.getD_some] at hQ
    exact wpAny_truthy_bool hQ
  · have e : ((List.range its.toArray.size).all fun i => (bs[i]?).getD true) = bs.all id := by
      rw [List.size_toArray, hlen]; exact range_allB bs
    rw [e]
    exact ⟨.bl _, H, I.kept (kept_it hk), rfl, q⟩
theorem call_anyK {X : Cx} {K : PySem.W.Frag} (hc : X.calm = true) (hK : X.K = K := by rfl) : CallR X (.builtin "any") (fun xs H Q => ∃ (l : Addr) (bs : List Bool), xs = [.ref l] ∧ SqL K H l (bs.map V.bl) ∧ Q (.bl (bs.any id)) H) := by
  subst hK
  intro pins s σ H xs us Q I r h
  obtain ⟨l, bs, rfl, hl, q⟩ := h
  obtain ⟨u, rfl, e⟩ := vals1 r
  cases e
  obtain ⟨its, rv, pl, hz⟩ := I.list hl
  have hlen : its.length = bs.length := by rw [← rv.length, List.length_map]
  have hlt : l < s.heap.objs.size := by obtain ⟨_, e, _⟩ := pl.isList; exact Heap.lt_size e
  refine call_any_walk (wpAny_pyIter_list pl.isList ?_)
  refine ⟨s.heap.objs.size, [s.heap.objs.size, l], [s.heap.objs.size], its.toArray.size, _, _, fun i => (bs[i]?).getD false, rfl, Walks.list (A := X.A.in1) (I.ok.hd hc) _ l (Nat.ne_of_lt hlt) its.toArray,
    ⟨⟨_, Heap.get?_push_size _ rfl, rfl, rfl⟩, pl.isList.push _⟩, fun i v s' Q' E' hP hQ => ?_, fun h' tk hk => ?_⟩
  · obtain ⟨b, e, rfl⟩ := bools_get rv i v (by simpa using hP)
    simp only [e, Option.getD_some] at hQ
    exact wpAny_truthy_bool hQ
  · have e : ((List.range its.toArray.size).any fun i => (bs[i]?).getD false) = bs.any id := by
      rw [List.size_toArray, hlen]; exact range_anyB bs
    rw [e]
    exact ⟨.bl _, H, I.kept (kept_it hk), rfl, q⟩
theorem bt_all : bootBuiltins "all" = some (.builtin "all") := by decide +kernel
theorem bt_any : bootBuiltins "any" = some (.builtin "any") := by decide +kernel
def tTru (K : PySem.W.Frag) (te : TE) : TT := fun σ H Q => te σ H fun x H' => ∃ k, TruV K x H' k ∧ Q k H'
theorem pt_truK {X : Cx} {K : PySem.W.Frag} {e : Expr} {t : TE} (h : PE X e t) (he : ∀ whole, isTrue e X.env whole = (do let v ← whole; standAt e.pos; holding [v] (truthy v)) := by intro _; rfl) (hK : X.K = K := by rfl) : PT X e (tTru K t) := by subst hK; exact pt_truth h he
section
variable {D : Ends} {σ : St} {H : Hp} {Q : VK} {te : TE} {K : PySem.W.Frag}
theorem rd_tru {R : Bool → Hp → Prop} (k : te σ H fun x H' => ∃ k, TruV K x H' k ∧ R k H') : tTru K te σ H R := k
theorem rd_truL {a : Addr} {xs : List V} {R : Bool → Prop} (h : SqL K H a xs) (k : R (!xs.isEmpty)) : ∃ k, TruV K (.ref a) H k ∧ R k := ⟨_, .inl ⟨xs, h, rfl⟩, k⟩
theorem rd_while {c : TT} {tb : TS} (k : ∃ W : Nat → St → Hp → Prop, (∃ m, W m σ H) ∧ ∀ m σ H, W m σ H →
  c σ H fun b H1 => if b = true then ∃ N : St → Hp → Prop, (∀ σ' H', N σ' H' → ∃ m', m' < m ∧ W m' σ' H') ∧ tb { D with nx := N, ct := N, bk := D.nx } σ H1 else D.nx σ H1) : tWhile c tb D σ H := k
theorem rd_aug {i : Nat} {x : V} {ti : TIp} (h : σ[i]? = some (some x)) (k : te σ H fun y H1 => ti x y H1 fun z H2 => D.nx (σ.set i (some z)) H2) : tAug i te ti D σ H := ⟨x, h, k⟩
theorem rd_ipI {f : Int → Int → Int} {i j : Int} (k : Q (.int (f i j)) H) : ipI f (.int i) (.int j) H Q := ⟨i, j, rfl, rfl, k⟩
theorem rd_ifV {c : Prop} [Decidable c] {ta tb : TE} {v : V} (ha : c → ∀ R : VK, R v H → ta σ H R) (hb : ¬ c → ∀ R : VK, R v H → tb σ H R) (k : Q v H) : if c then ta σ H Q else tb σ H Q := by
  by_cases h : c
  · rw [if_pos h]; exact ha h Q k
  · rw [if_neg h]; exact hb h Q k
theorem rd_itup {R : It → Hp → Prop} (k : te σ H fun x H1 => ∃ a, x = .ref a ∧ (∃ xs, SqT K H1 a xs) ∧ R (Itt K a) H1) : iTup K te σ H R := k
end
theorem pi_tupK {X : Cx} {K : PySem.W.Frag} {tg l : Expr} {tl : TE} (hl : PE X l tl) (hK : X.K = K := by rfl) : PI X tg l (iTup K tl) := by subst hK; exact pi_tup hl
section
variable {σ : St} {te : TE} {tt : TT} {ix : List Nat}
theorem comp_tup {QQ : Hp → Prop} {K : PySem.W.Frag} {H1 : Hp} {a acc : Addr} {xs : List V} (p : V → Bool) (f : V → V) (hn : H1 acc = none) (hl : SqT K H1 a xs) (hz : xs.length ≤ sizeLine)
    (hstep : ∀ (v : V) (H3 : Hp), v ∈ xs → Same H1 H3 → ∀ (R : Bool → Hp → Prop) , (∀ H4, (∀ b o, H3 b = some o → H4 b = some o) → R (p v) H4) → tt (compSt σ ix (some v)) H3 R)
    (helt : ∀ (v : V) (H3 : Hp), v ∈ xs → p v = true → Same H1 H3 → ∀ (R : VK), (∀ H4, (∀ b o, H3 b = some o → H4 b = some o) → R (f v) H4) → te (compSt σ ix (some v)) H3 R)
    (hq : ∀ H2, New H1 H2 acc (.lst ((xs.filter p).map f)) → QQ H2) :
    ∃ W : Nat → Nat → List V → Hp → Prop, (∃ m, W 0 m [] (upd H1 acc (.lst []))) ∧ ∀ i m ys H2, W i m ys H2 →
      ((Itt K a).stop i H2 ∧ QQ H2) ∨ ((Itt K a).go i H2 ∧ ys.length < sizeLine ∧ ∀ v H3, (Itt K a).yld i H2 v H3 → tt (compSt σ ix (some v)) H3 fun c H4 =>
        if c = true then te (compSt σ ix (some v)) H4 fun y H5 => H5 acc = some (.lst ys) ∧ ∃ m', m' < m ∧ W (i + 1) m' (ys ++ [y]) (upd H5 acc (.lst (ys ++ [y]))) else ∃ m', m' < m ∧ W (i + 1) m' ys H4) := by
  refine ⟨fun i m ys H2 => m = xs.length - i ∧ i ≤ xs.length ∧ ys = ((xs.take i).filter p).map f ∧ Same H1 H2 ∧ H2 acc = some (.lst ys), ⟨xs.length, by simp, Nat.zero_le _, by simp, same_new hn _, upd_same⟩, ?_⟩
  rintro i m ys H2 ⟨rfl, hi, rfl, hs, ha⟩
  have q := hs.seqT hl
  by_cases hlt : i < xs.length
  · have hx : xs[i]? = some xs[i] := List.getElem?_eq_getElem hlt
    have hm : xs[i] ∈ xs := List.getElem_mem hlt
    refine .inr ⟨⟨xs, xs[i], q, hx⟩, ?_, fun v H3 y => ?_⟩
    · have h1 : (((xs.take i).filter p).map f).length ≤ i := by
        rw [List.length_map]
        exact Nat.le_trans (List.length_filter_le _ _) (by rw [List.length_take]; exact Nat.min_le_left _ _)
      omega
    · obtain ⟨e, y⟩ := y
      subst e
      have ev : v = xs[i] := Option.some.inj ((y xs q).symm.trans hx)
      subst ev
      have tk : xs.take (i + 1) = xs.take i ++ [xs[i]] := by rw [List.take_add_one, hx]; rfl
      refine hstep _ _ hm hs _ fun H4 k4 => ?_
      have s4 : Same H1 H4 := fun b o z => k4 b o (hs b o z)
      cases hp : p xs[i] with
      | true =>
        refine helt _ _ hm hp s4 _ fun H5 k5 => ?_
        have s5 : Same H1 H5 := fun b o z => k5 b o (s4 b o z)
        refine ⟨k5 _ _ (k4 _ _ ha), xs.length - (i + 1), by omega, rfl, hlt, ?_, same_upd s5 hn, ?_⟩
        · rw [tk, List.filter_append, List.map_append, List.filter_cons_of_pos hp]; rfl
        · rw [upd_same]
      | false =>
        refine ⟨xs.length - (i + 1), by omega, rfl, hlt, ?_, s4, k4 _ _ ha⟩
        rw [tk, List.filter_append, List.map_append, List.filter_cons_of_neg (by rw [hp]; exact Bool.false_ne_true)]; simp
  · have e : i = xs.length := by omega
    subst e
    refine .inl ⟨⟨xs, q, Nat.le_refl _⟩, hq H2 ⟨hs, hn, ?_⟩⟩
    rw [ha, List.take_length]
end
end L2
namespace L2
open PySem PySem.Spec PyProof.Rows
theorem Inv.turnedL {X : Cx} {pins : List (Addr × Obj)} {σ : St} {H : Hp} {s : Shared} {h' : Heap} {t' : Nat} {ch : List Addr} (I : Inv X pins σ H s) (hf : ∀ b ∈ ch, FpOk X pins H b) (k : ∀ b o, b ∉ ch → s.heap.get? b = some o → h'.get? b = some o) : Inv X pins σ H { s with heap := h', toks := t' } := by
  have nit : ∀ b u, H b = some u → b ∉ ch := fun b u e z => by rw [(hf b z).1] at e; cases e
  have hL : X.env.locals ∉ ch := fun z => (hf _ z).2.1 rfl
  refine I.step (g' := s.gens) (d' := s.drawn) (ch := ch) (fun b hb => ?_) (fun b o _ _ hc e _ => k b o hc e) (fun b o _ _ hc e _ => ⟨o.slots, k b o hc e⟩) (fun _ _ _ _ n => n) (fun b o hc e => ⟨o, k b o hc e⟩) (fun _ _ e => e) (fun _ _ _ e => e) (fun b ps e => ⟨#[], by rw [e]; simp⟩) (fun m hm => ?_) (fun b u e => ?_) I.bare
  · obtain ⟨f0, f1, f2, f3, f4, f5⟩ := hf b hb
    exact ⟨f3, f1, f4, f5⟩
  · obtain ⟨o, es, ep, ho, r⟩ := hm
    exact ⟨o, es, ep, k _ o hL ho, r⟩
  · refine (I.hok b u e).stay (fun c v hc q => k c v ?_ q) (fun _ q => q) fun _ _ q => q
    rcases hc with z | z
    · rw [z]; exact nit b u e
    · exact nit c _ z
def Ite (K : PySem.W.Frag) (a : Addr) : It :=
  ⟨fun i H => ∃ xs x, SqL K H a xs ∧ xs[i]? = some x, fun i H v H' => ∃ p x, v = .ref p ∧ H p = none ∧ H' = upd H p (.tup [.int i, x]) ∧ ∀ xs, SqL K H a xs → xs[i]? = some x, fun i H => ∃ xs, SqL K H a xs ∧ xs.length ≤ i⟩
def iEnum (K : PySem.W.Frag) (te : TE) : TI := fun σ H R => te σ H fun x H1 => ∃ a, x = .ref a ∧ (∃ xs, SqL K H1 a xs) ∧ R (Ite K a) H1
theorem rd_ienum {K : PySem.W.Frag} {te : TE} {σ : St} {H : Hp} {R : It → Hp → Prop} (k : te σ H fun x H1 => ∃ a, x = .ref a ∧ (∃ xs, SqL K H1 a xs) ∧ R (Ite K a) H1) : iEnum K te σ H R := k
end L2
namespace L2
open PySem PySem.Spec PyProof.Rows
section
variable {X : Cx} {scope : Scope} {x : Str} {fr : List Str} {ix : List Nat} {elt iter : Expr} {ifs : List Expr} {px pos : Pos} {wi : TI} {tt : TT} {te : TE}
theorem ps_compset {i₀ : Nat} {y₀ : Str} {ypos apos : Pos} (hN : X.N.Nodup) (hi₀ : X.N[i₀]? = some y₀) (hy₀ : Loc X.env.scope y₀) (hc : X.calm = true) (S : CompSc X scope x fr ix) (hi : PI X (.Name x px) iter wi)
    (ht : ∀ cl C s1 H1 fp, PTs (X.comp scope cl C (x :: fr) s1 H1 fp) ifs tt) (he : ∀ cl C s1 H1 fp, PE (X.comp scope cl C (x :: fr) s1 H1 fp) elt te)
    (hs : ∀ z, foldedSetIterable iter X.env z = pure z := by intro _; rfl) (hsw : swapsWith (.ListComp elt [⟨.Name x px, iter, ifs, 0⟩] scope pos) (some (.Name y₀ ypos)) apos.line X.env = pure true := by rfl)
    (hf₀ : X.fn y₀ = true ∨ X.env.scope.names.lookup y₀ = some .local := by first | exact .inl rfl | exact .inr rfl) : PS X (.Assign [.Name y₀ ypos] (.ListComp elt [⟨.Name x px, iter, ifs, 0⟩] scope pos) apos) (tAsg (tComp wi ix tt te) (gName i₀)) := by
  intro pins s σ H D I h
  have hg₀ : PG X (.Name y₀ ypos) (gName i₀) := pg_name hN hi₀ hy₀ hf₀
  obtain ⟨cl, hclos, q2, q3⟩ := closure_of (scope := scope) (env := X.env) (fun y hy hf => I.ok.has y.1 (S.free y hy hf))
  rw [exec_Assign_Name_used _ _ _ _ hsw]
  refine wpAny_bind (wpAny_standAt (wpAny_bind ?_))
  show wpAny _ _ (comprehension (.ListComp elt [⟨.Name x px, iter, ifs, 0⟩] scope pos) scope X.env _ (newList []) false (eval iter X.env) (some (assign (.Name y₀ ypos) X.env)) >>= fun _ => pure ()) _ _ s
  refine wpAny_bind (wpAny_mono (Q := fun _ s' => SP X pins D .next s') ?_ (fun _ s' h' => wpAny_pure (wpAny_pure h')) fun _ _ h' => h')
  refine wpAny_comprehension_free (use := some (assign (.Name y₀ ypos) X.env)) rfl hs hclos S.kind S.names (thn (hi pins s σ H _ I h) fun v s1 h1 => thn h1 fun itv s2 h2 => ?_)
  obtain ⟨it, fp, tn, J, H2, rfl, I2, T, st2, f2, h2⟩ := h2
  refine wpAny_newObj_type ?_
  have hacc := I2.fresh
  have I3 : Inv X pins σ (upd H2 s2.heap.objs.size (.lst [])) { s2 with heap := s2.heap.push { cls := .type "list", dict := none, data := .seq ([] : List Value).toArray } } := I2.lnew (its := []) (t' := s2.toks) .nil (Nat.zero_le _)
  obtain ⟨W, ⟨m0, w0⟩, turn⟩ := h2 s2.heap.objs.size hacc
  generalize hs3 : ({ s2 with heap := s2.heap.push { cls := .type "list", dict := none, data := .seq ([] : List Value).toArray } } : Shared) = s3 at I3 ⊢
  have kp3 : ∀ b o, s2.heap.get? b = some o → s3.heap.get? b = some o := fun b o e => by rw [← hs3]; exact Heap.get?_push_of_some _ e
  have fpo : ∀ b ∈ fp, ∃ o, s2.heap.get? b = some o ∧ ∀ v, o.data ≠ .cell v := T.obj _ _ st2
  have accNe : ∀ b ∈ fp, b ≠ s2.heap.objs.size := fun b hb z => by
    obtain ⟨o, e, _⟩ := fpo b hb
    exact absurd (Heap.lt_size e) (by rw [z]; exact Nat.lt_irrefl _)
  have f3 : ∀ b ∈ fp, FpOk X pins (upd H2 s2.heap.objs.size (.lst [])) b := fun b hb => ⟨by rw [upd_ne (accNe b hb)]; exact (f2 b hb).1, (f2 b hb).2⟩
  have st3 : tn 0 s3.heap := T.keep _ _ _ st2 fun b _ o e => kp3 b o e
  refine wpAny_newFunctionEnv S.nocell (fun y hy => nomatch hy) (fun h4 hn4 hb4 => ?_) S.kind
  have kp4 : ∀ b o, s3.heap.get? b = some o → h4.get? b = some o := fun b o e => hb4.extBut b o (Nat.ne_of_lt (Heap.lt_size e)) (Heap.get?_push_of_some _ e)
  have I4 := I3.block (fp := fp) (cl := cl) (tk := s3.toks + ([] : List (Str × Value)).length) S f3 (fun b hb => by obtain ⟨o, e, _⟩ := fpo b hb; exact Heap.lt_size (kp3 b o e)) q2 q3 hn4 kp4
  have st4 : tn 0 h4 := T.keep _ _ _ st3 fun b _ o e => kp4 b o e
  have fpX : ∀ (pl : List (Addr × Obj)) (H' : Hp), (∀ b ∈ fp, H' b = none) → (∀ p ∈ pl, p.1 ∉ fp) → ∀ b ∈ fp, FpOk (X.comp scope cl s3.heap.objs.size (x :: fr) s3 (upd H2 s2.heap.objs.size (.lst [])) fp) pl H' b := fun pl H' hn hpl b hb => by
    refine ⟨hn b hb, (I4.ok.exf b hb).1, I4.ok.exfs b hb, .inl hb, (I4.ok.exf b hb).2, fun p hp z => ?_⟩
    exact hpl p (by simpa using hp) (by rw [z]; exact hb)
  have fin : ∀ (s' : Shared) (H' : Hp) (σ' : St), Inv (X.comp scope cl s3.heap.objs.size (x :: fr) s3 (upd H2 s2.heap.objs.size (.lst [])) fp) [] σ' H' s' → D.nx (σ.set i₀ (some (.ref s2.heap.objs.size))) H' →
      compPost (model X.prog X.w) X.A X.xe (some (assign (.Name y₀ ypos) X.env)) (fun _ s' => SP X pins D .next s') (.ref s2.heap.objs.size) s3.heap.objs.size (.ok .next) s' := fun s' H' σ' J q => by
    obtain ⟨m, hm, _⟩ := J.loc
    have jf : H' s3.heap.objs.size = none := J.free
    have un : Un (frs X.stack) fp (upd H2 s2.heap.objs.size (.lst [])) H' s3.heap s'.heap :=
      ⟨fun b o e n hb hx => J.base.keep b o e n hb hx, fun b o e n hb hx => J.base.slot b o e n hb hx, J.base.free, fun b o e hx => J.base.there b o e hx, J.base.tups, J.base.frzs, J.base.tbls⟩
    have IX : Inv X pins σ H' s' := I3.call' (s' := s') (ch := fp) J.os un J.hok J.bare fun b hb => ⟨(f3 b hb).2.2.2.1, (f3 b hb).2.1, (f3 b hb).2.2.2.2.1, (f3 b hb).2.2.2.2.2⟩
    have fC : FpOk X pins H' s3.heap.objs.size := I3.fpOk (Nat.le_refl _) jf
    obtain ⟨oC, es, ep, hoC, rC⟩ := id hm
    have dC : ∀ v, oC.data ≠ .cell v := fun v z => by
      have := rC.1
      rw [z] at this; cases this
    have IP : Inv X (pins ++ [(s3.heap.objs.size, oC)]) σ H' s' := IX.pins_of fun p hp => by
      rcases List.mem_append.mp hp with hp | hp
      · exact IX.pin p (List.mem_append_right _ hp)
      · have e := List.mem_singleton.mp hp
        subst e
        exact ⟨hoC, jf, fC.2.1, fC.2.2.1, dC⟩
    refine thn (hg₀ _ s' σ H' (.ref s2.heap.objs.size) (.ref s2.heap.objs.size) (fun σ' H'' => σ' = σ.set i₀ (some (.ref s2.heap.objs.size)) ∧ H'' = H') IP rfl ⟨rfl, rfl⟩) fun _ s9 ⟨σ9, H9, I9, e1, e2⟩ => ?_
    subst e1
    subst e2
    have hC9 := (I9.pin (s3.heap.objs.size, oC) (by simp)).1
    refine ⟨m, ⟨oC, es, ep, hC9, rC⟩, fun h' sb => ?_⟩
    have I10 : Inv X pins (σ.set i₀ (some (.ref s2.heap.objs.size))) H9 s9 := I9.pins_of fun p hp => I9.pin p (List.mem_append_right _ (List.mem_append_left _ hp))
    refine ⟨_, H9, I10.turnedL (ch := [s3.heap.objs.size]) (t' := s9.toks) (fun b hb => by rw [List.mem_singleton.mp hb]; exact fC) (fun b o hb e => (sb.2 b (fun z => hb (by simp [z]))).trans e), q⟩
  have loop : codeAny (model X.prog X.w) X.A (.compLoop (.ListComp elt [⟨.Name x px, iter, ifs, 0⟩] scope pos) 0 (.ref it) (.ref s2.heap.objs.size) (compEnvC scope cl s3.heap.objs.size X.env))
      (compPost (model X.prog X.w) X.A X.xe (some (assign (.Name y₀ ypos) X.env)) (fun _ s' => SP X pins D .next s') (.ref s2.heap.objs.size) s3.heap.objs.size) { s3 with heap := h4, toks := s3.toks + ([] : List (Str × Value)).length } := by
    refine compLoop_go (fun n s' => ∃ i ys σv H', Inv (X.comp scope cl s3.heap.objs.size (x :: fr) s3 (upd H2 s2.heap.objs.size (.lst [])) fp) [] (compSt σ ix σv) H' s' ∧ tn i s'.heap ∧ (∀ b ∈ fp, H' b = none) ∧ W i n ys H') ?_ m0
      ⟨0, [], none, _, I4, st4, fun b hb => (f3 b hb).1, w0⟩
    rintro n s5 ⟨i, ys, σv, H5, I5, st5, fr5, w5⟩
    have fp5 := fpX [] H5 fr5 (fun p hp => nomatch hp)
    rcases turn i n ys H5 w5 with ⟨stop, qn⟩ | ⟨go, hz, step⟩
    · refine thn (T.done (X.comp scope cl s3.heap.objs.size (x :: fr) s3 (upd H2 s2.heap.objs.size (.lst [])) fp) rfl rfl rfl hc i [] s5 _ H5 (fun _ _ => False) I5 fp5 st5 stop) fun r s6 ⟨hr, I6⟩ => ?_
      subst hr
      exact fin s6 H5 _ I6 qn
    · refine thn (T.item (X.comp scope cl s3.heap.objs.size (x :: fr) s3 (upd H2 s2.heap.objs.size (.lst [])) fp) rfl rfl rfl hc i [] s5 _ H5 (fun _ _ => False) I5 fp5 st5 go) fun r s6 ⟨u, hr, h6⟩ => ?_
      subst hr
      refine thn h6 fun _ s7 ⟨xv, H7, I7, r7, y7, st7, fr7⟩ => ?_
      have I7' := I7.pinned (fpX [] H7 fr7 (fun p hp => nomatch hp)) (T.obj _ _ st7)
      have own : (relabel scope X.env).names.lookup x = some .local := lookup_relabel_local S.own
      have hg : PG (X.comp scope cl s3.heap.objs.size (x :: fr) s3 (upd H2 s2.heap.objs.size (.lst [])) fp) (.Name x px) (gName 0) := pg_name S.nd rfl (.inl own) (.inr own)
      refine thn (hg _ s7 _ H7 xv u (fun σ' H' => σ' = compSt σ ix (some xv) ∧ H' = H7) I7' r7 ⟨rfl, rfl⟩) fun _ s8 ⟨σ8, H8, I8, e8, e8'⟩ => ?_
      subst e8
      subst e8'
      have again : ∀ {H9 : Hp} {s9 : Shared} {ys' : List V} {m' : Nat}, Inv (X.comp scope cl s3.heap.objs.size (x :: fr) s3 (upd H2 s2.heap.objs.size (.lst [])) fp) ([] ++ pinsAt fp s7.heap) (compSt σ ix (some xv)) H9 s9 → W (i + 1) m' ys' H9 → m' < n →
          ∃ m, m < n ∧ ∃ i ys σv H', Inv (X.comp scope cl s3.heap.objs.size (x :: fr) s3 (upd H2 s2.heap.objs.size (.lst [])) fp) [] (compSt σ ix σv) H' s9 ∧ tn i s9.heap ∧ (∀ b ∈ fp, H' b = none) ∧ W i m ys H' := fun {H9 s9 ys' m'} I9 w9 hm => by
        refine ⟨m', hm, i + 1, ys', _, H9, I9.unpinned, T.keep _ _ _ st7 fun b hb o e => (I9.pin (b, o) (List.mem_append_right _ (List.mem_append_right _ (mem_pinsAt hb e)))).1, fun b hb => ?_, w9⟩
        obtain ⟨o, e, d⟩ := T.obj _ _ st7 b hb
        exact (I9.pin (b, o) (List.mem_append_right _ (List.mem_append_right _ (mem_pinsAt hb e)))).2.1
      refine thn (ht cl _ s3 _ fp _ s8 _ _ _ I8 (step xv _ y7)) fun ok s9 ⟨H9, I9, q9⟩ => ?_
      cases ok with
      | false =>
        obtain ⟨m', hm, w9⟩ := q9
        exact again I9 w9 hm
      | true =>
        refine thn (he cl _ s3 _ fp _ s9 _ H9 _ I9 q9) fun xv' s10 ⟨y, H10, I10, r10, hacc10, m', hm, w10⟩ => ?_
        refine thn (mt_append _ s10 _ H10 (.ref s2.heap.objs.size) [y] (.ref s2.heap.objs.size) [xv'] (fun v H' => v = .non ∧ H' = upd H10 s2.heap.objs.size (.lst (ys ++ [y]))) I10 rfl (.cons r10 .nil) ⟨_, ys, y, rfl, rfl, hacc10, hz, rfl, rfl⟩) fun _ s11 ⟨v, H11, I11, _, _, e11⟩ => ?_
        subst e11
        exact again I11 w10 hm
  exact codeAny_compStart_list loop (T.self _ 0 _ _ _ st4 loop)
end
end L2
namespace L2
open PySem PySem.Spec PyProof.Rows
theorem strs_of {ss : List Str} : ∀ {us : List Value}, Vals (ss.map V.str) us → StrsAre us ss := by
  induction ss with
  | nil => intro us r; cases r; exact .nil
  | cons x ss ih =>
    intro us r
    cases r with
    | cons r1 r2 =>
      obtain ⟨t, rfl⟩ := (show ∃ t, _ = Value.str x t from r1)
      exact .cons x t (ih r2)
def rJoin (K : PySem.W.Frag) : V → List V → Hp → VK → Prop := fun x vs H Q => ∃ (z : Str) (a : Addr) (ss : List Str), x = .str z ∧ vs = [.ref a] ∧ SqL K H a (ss.map V.str) ∧ (ss.map (·.length)).sum + ss.length * z.length ≤ 16777216 ∧ Q (.str (Builtin.Str.glued z ss)) H
theorem mt_join {X : Cx} {K : PySem.W.Frag} (hK : X.K = K := by rfl) : MtM X "str.join" (rJoin K) := by
  subst hK
  intro pins s σ H x vs v us Q I rx rv h
  obtain ⟨z, a, ss, rfl, rfl, hl, hz, q⟩ := h
  obtain ⟨t, rfl⟩ := (show ∃ t, v = Value.str z t from rx)
  obtain ⟨u, rfl, ru⟩ := rv.one
  obtain rfl : u = Value.ref a := ru
  obtain ⟨its, r, pl, _⟩ := I.list hl
  exact join_list pl.isList (by simpa using strs_of r) hz fun t' k => ⟨.str _, H, I.tok _, ⟨_, rfl⟩, q⟩
theorem repr_short (c : Nat) (h : c < 128) : (PySem.reprText ⟨#[c]⟩).length ≤ 100 := by
  have : ∀ c, c < 128 → (PySem.reprText ⟨#[c]⟩).length ≤ 100 := by decide +kernel
  exact this c h
theorem pe_reprS {X : Cx} {e : Expr} {te : TE} {pos : Pos} (he : PE X e te) : PE X (.FormattedValue e 114 none pos) (tAnyS te fun x _ => ∃ c, x = .str ⟨#[c]⟩ ∧ c < 128) := by
  intro pins s σ H Q I h
  refine wpAny_FormattedValue_repr (thn (he pins s σ H _ I h) fun v s1 ⟨x, H1, I1, r1, ⟨c, ex, hi⟩, hq⟩ => ?_)
  subst ex
  obtain ⟨t, rfl⟩ := (show ∃ t, v = Value.str ⟨#[c]⟩ t from r1)
  have hz := repr_short c hi
  have hz2 : (PySem.reprText ⟨#[c]⟩).length ≤ sizeLine := Nat.le_trans hz (by decide)
  refine wpAny_pyReprObj_gives (typeIs_str _ _ _) F.slot_str_repr F.entry_str_repr (F.args_str_repr_1 _) (gives_str_repr ⟨#[c]⟩ t) ?_ rfl hz2
  exact formatField_str (fun t' tk => ⟨.str _, H1, I1.tok _, ⟨_, rfl⟩, hq _ (Nat.le_trans hz (by decide))⟩) hz2
def Its (x : Str) : It := ⟨fun i _ => i < x.cps.size, fun i H v H' => H' = H ∧ ∃ c, x.cps[i]? = some c ∧ v = .str ⟨#[c]⟩, fun i _ => x.cps.size ≤ i⟩
theorem turn_str {P : Program} {w : World} {K : PySem.W.Frag} {y : Str} {yp : Pos} (x : Str) (t : Tok) (it : Addr) : Turn P w K (.Name y yp) (Its x) [it] it (fun i h => h.IsStrIter it "str_ascii_iterator" x t i) where
  mem := by simp
  obj := fun i h st b hb => by
    have e : b = it := by simpa using hb
    subst e
    obtain ⟨o, e, c, d⟩ := st
    exact ⟨o, e, fun v z => by rw [d] at z; cases z⟩
  keep := fun i h h' st k => let ⟨o, e, r⟩ := st; ⟨o, k it (by simp) o e, r⟩
  item := by
    intro X hP hw hK hc i pins s σ H E I hf st hg
    subst hP hw hK
    have hg : i < x.cps.size := hg
    obtain ⟨f0, f1, f2, f3, f4, f5⟩ := hf it (by simp)
    have hx : x.cps[i]? = some x.cps[i] := Array.getElem?_eq_getElem hg
    refine wpAny_pyNext_ascii_item st hx fun h' st' sb => ?_
    have I1 : Inv X pins σ H { s with heap := h', toks := s.toks + 1 } := I.turned (t' := s.toks + 1) (fun b o hb e => (sb.2 b hb).trans e) f0 f1 f3 f4 f5
    exact ⟨_, rfl, wpAny_pure ⟨.str ⟨#[x.cps[i]]⟩, H, I1, ⟨_, rfl⟩, ⟨rfl, _, hx, rfl⟩, st', fun b hb => (hf b hb).1⟩⟩
  done := by
    intro X hP hw hK hc i pins s σ H E I hf st hg
    subst hP hw hK
    have hg : x.cps.size ≤ i := hg
    obtain ⟨f0, f1, f2, f3, f4, f5⟩ := hf it (by simp)
    exact wpAny_pyNext_ascii_end (I.ok.hd hc) st (Array.getElem?_eq_none hg) fun h' eb => ⟨rfl, I.turned (t' := s.toks) (fun b o hb e => eb b o hb e) f0 f1 f3 f4 f5⟩
  self := fun _ _ _ _ _ st h => wpAny_pyIter_striter_ascii st h
def iStr (te : TE) : TI := fun σ H R => te σ H fun x H1 => ∃ z, x = .str z ∧ z.cps.all (· < 128) = true ∧ R (Its z) H1
theorem pi_str {X : Cx} {y : Str} {yp : Pos} {l : Expr} {te : TE} (hl : PE X l te) : PI X (.Name y yp) l (iStr te) := by
  intro pins s σ H R I h
  refine thn (hl pins s σ H _ I h) fun v s1 ⟨x, H1, I1, r1, q1⟩ => ?_
  obtain ⟨z, rfl, ha, q⟩ := q1
  obtain ⟨t, rfl⟩ := (show ∃ t, v = Value.str z t from r1)
  refine wpAny_pyIter_ascii ha ?_
  refine ⟨s1.heap.objs.size, [s1.heap.objs.size], _, _, H1, rfl, I1.kept (t' := s1.toks) fun b o e => Heap.get?_push_of_some _ e, turn_str z t _, ⟨_, Heap.get?_push_size _ rfl, rfl, rfl⟩, fun b hb => ?_, q⟩
  have e : b = s1.heap.objs.size := by simpa using hb
  subst e
  exact I1.fpOk (Nat.le_refl _) (I1.hok.fresh (Nat.le_refl _))
theorem rd_istr {te : TE} {σ : St} {H : Hp} {R : It → Hp → Prop} (k : te σ H fun x H1 => ∃ z, x = .str z ∧ z.cps.all (· < 128) = true ∧ R (Its z) H1) : iStr te σ H R := k
theorem for_str {x : Str} {g : TG} {tb : TS} {D : Ends} {σ : St} {H : Hp} (Pv : Nat → St → Hp → Prop) (h0 : Pv 0 σ H)
    (hs : ∀ i c σ H, x.cps[i]? = some c → Pv i σ H → g (.str ⟨#[c]⟩) σ H fun σ2 H2 => tb { D with nx := Pv (i + 1), ct := Pv (i + 1), bk := D.nx } σ2 H2) (hd : ∀ σ H, Pv x.cps.size σ H → D.nx σ H) :
    ∃ W : Nat → Nat → St → Hp → Prop, (∃ m, W 0 m σ H) ∧ ∀ i m σ H, W i m σ H →
      ((Its x).stop i H ∧ D.nx σ H) ∨ ((Its x).go i H ∧ ∃ N : St → Hp → Prop, (∀ σ' H', N σ' H' → ∃ m', m' < m ∧ W (i + 1) m' σ' H') ∧ ∀ v H', (Its x).yld i H v H' → g v σ H' fun σ2 H2 => tb { D with nx := N, ct := N, bk := D.nx } σ2 H2) := by
  refine ⟨fun i m σ H => m = x.cps.size - i ∧ i ≤ x.cps.size ∧ Pv i σ H, ⟨x.cps.size, by simp, Nat.zero_le _, h0⟩, ?_⟩
  rintro i m σ H ⟨rfl, hi, p⟩
  by_cases hlt : i < x.cps.size
  · refine .inr ⟨hlt, Pv (i + 1), fun σ' H' p' => ⟨x.cps.size - (i + 1), by omega, rfl, hlt, p'⟩, fun v H' y => ?_⟩
    obtain ⟨rfl, c, hc, rfl⟩ := y
    exact hs i c σ _ hc p
  · have e : i = x.cps.size := by omega
    subst e
    exact .inl ⟨Nat.le_refl _, hd σ H p⟩
def D2 (x0 : Str) (v0 : V) (x1 : Str) (v1 : V) : HO := .dK [(.inr x0, v0), (.inr x1, v1)]
def rNotD : R2 := fun y x H Q => ∃ a z x0 v0 x1 v1, y = .str z ∧ x = .ref a ∧ H a = some (D2 x0 v0 x1 v1) ∧ Q (.bl (!(decide (x0 = z) || decide (x1 = z)))) H
def valO (x0 : Str) (v0 : V) (x1 : Str) (v1 : V) (z : Str) : Option V := if x0 = z then some v0 else if x1 = z then some v1 else none
theorem two_vals {x0 : Str} {v0 : V} {x1 : Str} {v1 : V} {vs : List (Key × Value)} (r : KV [(Sum.inr x0, v0), (Sum.inr x1, v1)] vs) (z : Str) : RelO (valO x0 v0 x1 v1 z) (valueAt vs (Sum.inr z)) := by
  unfold KV at r
  cases r with
  | cons h1 t =>
    cases t with
    | cons h2 t2 =>
      cases t2
      rename_i q1 q2
      obtain ⟨k1, u1⟩ := q1
      obtain ⟨k2, u2⟩ := q2
      obtain ⟨e1, r1⟩ := h1
      obtain ⟨e2, r2⟩ := h2
      have e1 : (Sum.inr x0 : Key) = k1 := e1
      have e2 : (Sum.inr x1 : Key) = k2 := e2
      subst e1 e2
      unfold valO
      by_cases h0 : x0 = z
      · subst h0
        rw [if_pos rfl]
        have : valueAt [((Sum.inr x0 : Key), u1), (Sum.inr x1, u2)] (Sum.inr x0) = some u1 := by simp [valueAt, List.find?_cons]
        rw [this]; exact r1
      · rw [if_neg h0]
        by_cases h1 : x1 = z
        · subst h1
          rw [if_pos rfl]
          have : valueAt [((Sum.inr x0 : Key), u1), (Sum.inr x1, u2)] (Sum.inr x1) = some u2 := by simp [valueAt, List.find?_cons, h0]
          rw [this]; exact r2
        · rw [if_neg h1]
          have : valueAt [((Sum.inr x0 : Key), u1), (Sum.inr x1, u2)] (Sum.inr z) = none := by simp [valueAt, List.find?_cons, h0, h1]
          rw [this]; exact True.intro
theorem RelO.isSome_eq' {o : Option V} {u : Option Value} (r : RelO o u) : o.isSome = u.isSome := by
  cases o with
  | none => rw [RelO.none_of r]; rfl
  | some v => obtain ⟨w', rfl, _⟩ := RelO.some_of r; rfl
theorem op_notInD {X : Cx} : OpR X (compareOp .NotIn) rNotD := by
  intro pins s σ H y x v u Q I ry rx h
  obtain ⟨a, z, x0, v0, x1, v1, rfl, rfl, hd, q⟩ := h
  obtain ⟨t, rfl⟩ := (show ∃ t, v = Value.str z t from ry)
  obtain rfl : u = Value.ref a := rx
  obtain ⟨hz, hS, vs, rel, dd⟩ : _ ∧ (a == sysModules) = false ∧ ∃ vs, KV [(Sum.inr x0, v0), (Sum.inr x1, v1)] vs ∧ s.heap.DictOf (mixKind X.prog X.w) a vs := I.hok a _ hd
  refine wpAny_notIn_of (mixKind_str X.prog X.w z t) hS dd.mapOf ?_
  rw [← (two_vals rel z).isSome_eq']
  have e : (valO x0 v0 x1 v1 z).isSome = (decide (x0 = z) || decide (x1 = z)) := by
    unfold valO
    by_cases h0 : x0 = z <;> by_cases h1 : x1 = z <;> simp [h0, h1]
  rw [e]
  exact ⟨.bl _, H, I.tok _, rfl, q⟩
def rIxD : R2 := fun x y H Q => ∃ a z x0 v0 x1 v1 v, x = .ref a ∧ y = .str z ∧ H a = some (D2 x0 v0 x1 v1) ∧ valO x0 v0 x1 v1 z = some v ∧ Q v H
theorem ix_dict {X : Cx} : IxR X rIxD := by
  intro value slice pins s σ H x y v u Q I rx ry h hs
  obtain ⟨a, z, x0, v0, x1, v1, w0, rfl, rfl, hd, hv, q⟩ := h
  obtain rfl : v = Value.ref a := rx
  obtain ⟨t, rfl⟩ := (show ∃ t, u = Value.str z t from ry)
  obtain ⟨hz, hS, vs, rel, dd⟩ : _ ∧ (a == sysModules) = false ∧ ∃ vs, KV [(Sum.inr x0, v0), (Sum.inr x1, v1)] vs ∧ s.heap.DictOf (mixKind X.prog X.w) a vs := I.hok a _ hd
  have r := two_vals rel z
  rw [hv] at r
  obtain ⟨w', hw, rw'⟩ := RelO.some_of r
  exact tail_any dd.mapOf.typeIs PySem.F.slot_dict_getitem.lookup (wpAny_getItem_of (mixKind_str X.prog X.w z t) dd.mapOf hw ⟨w0, H, I.tok _, rw', q⟩) hs
end L2
namespace L2
open PySem PySem.Spec PyProof.Rows
def tDict2 (tk0 tv0 tk1 tv1 : TE) : TE := fun σ H Q => ∀ p, H p = none → tk0 σ (upd H p (.dK [])) fun a0 H1 => tv0 σ H1 fun v0 H2 => tk1 σ H2 fun a1 H3 => tv1 σ H3 fun v1 H4 =>
  H4 p = some (.dK []) ∧ ∃ x0 x1, a0 = .str x0 ∧ a1 = .str x1 ∧ x0 ≠ x1 ∧ Q (.ref p) (upd H4 p (D2 x0 v0 x1 v1))
theorem rd_dict2 {tk0 tv0 tk1 tv1 : TE} {σ : St} {H : Hp} {Q : VK} (k : ∀ p, H p = none → tk0 σ (upd H p (.dK [])) fun a0 H1 => tv0 σ H1 fun v0 H2 => tk1 σ H2 fun a1 H3 => tv1 σ H3 fun v1 H4 =>
  H4 p = some (.dK []) ∧ ∃ x0 x1, a0 = .str x0 ∧ a1 = .str x1 ∧ x0 ≠ x1 ∧ Q (.ref p) (upd H4 p (D2 x0 v0 x1 v1))) : tDict2 tk0 tv0 tk1 tv1 σ H Q := k
theorem merged_two {x0 x1 : Str} {u0 u1 : Value} (h : x0 ≠ x1) : merged ([] : List (Key × Value)) [(Sum.inr x0, u0), (Sum.inr x1, u1)] = [(Sum.inr x0, u0), (Sum.inr x1, u1)] := by
  simp [merged, stored, h]
theorem pe_dict2 {X : Cx} {k0 v0 k1 v1 : Expr} {pos : Pos} {tk0 tv0 tk1 tv1 : TE} (h0 : PE X k0 tk0) (g0 : PE X v0 tv0) (h1 : PE X k1 tk1) (g1 : PE X v1 tv1) : PE X (.Dict [some k0, some k1] [v0, v1] pos) (tDict2 tk0 tv0 tk1 tv1) := by
  intro pins s σ H Q I q
  have hn := I.hok.fresh (Nat.le_refl s.heap.objs.size)
  have hbig : sysModules < s.heap.objs.size := Nat.lt_trans (by decide) (I.mod.glob.keeps I.bk).lt
  have hne : (s.heap.objs.size == sysModules) = false := beq_eq_false_iff_ne.mpr (Nat.ne_of_gt hbig)
  have J0 : Inv X pins σ (upd H s.heap.objs.size (.dK [])) { s with heap := s.heap.push { cls := .type "dict", data := .dict #[] } } :=
    I.laid (t' := s.toks) (fun b o z => Heap.get?_push_of_some _ z) (Nat.le_refl _) (show ObjOk X.prog X.w _ _ _ (.dK []) from ⟨Nat.zero_le _, hne, [], .nil, Heap.DictOf.new s.heap⟩)
  refine wpAny_Dict_walk (knd := mixKind X.prog X.w) rfl rfl (by simp) (by simp) ?_
  refine pairTrees_cons_walk (thn (h0 pins _ σ _ _ J0 (q _ hn)) fun c0 s1 ⟨a0, H1, J1, r0, q1⟩ => thn (g0 pins s1 σ H1 _ J1 q1) fun u0 s2 ⟨w0, H2, J2, e0, q2⟩ => ?_)
  refine pairTrees_cons_walk (thn (h1 pins s2 σ H2 _ J2 q2) fun c1 s3 ⟨a1, H3, J3, r1, q3⟩ => thn (g1 pins s3 σ H3 _ J3 q3) fun u1 s4 ⟨w1, H4, J4, e1, q4⟩ => ?_)
  obtain ⟨hd, x0, x1, rfl, rfl, hx, q5⟩ := q4
  obtain ⟨t0, rfl⟩ := (show ∃ t, c0 = Value.str x0 t from r0)
  obtain ⟨t1, rfl⟩ := (show ∃ t, c1 = Value.str x1 t from r1)
  obtain ⟨z, hS, vs0, r0', dd⟩ : _ ∧ (s.heap.objs.size == sysModules) = false ∧ ∃ vs, KV ([] : List (Key × V)) vs ∧ s4.heap.DictOf (mixKind X.prog X.w) s.heap.objs.size vs := J4.hok _ _ hd
  have e : vs0 = [] := by cases r0'; rfl
  subst e
  refine pairTrees_nil_walk ⟨[(Sum.inr x0, u0), (Sum.inr x1, u1)], ⟨mixKind_str X.prog X.w x0 t0, rfl, mixKind_str X.prog X.w x1 t1, rfl, True.intro⟩, dd, fun h' dd' hs => ⟨.ref s.heap.objs.size, _, ?_, rfl, q5⟩⟩
  rw [merged_two hx] at dd'
  have he : ∃ o, h'.get? s.heap.objs.size = some o := by obtain ⟨o, _, _, z, _⟩ := dd'; exact ⟨o, z⟩
  exact J4.write (x := s.heap.objs.size) (e := s.heap.objs.size) (by rw [hd]; exact True.intro) (.inl rfl) (fun b o hb z => (hs.2 b hb).trans z) he
    (show ObjOk X.prog X.w _ h' _ (.dK [(Sum.inr x0, w0), (Sum.inr x1, w1)]) from ⟨by show 2 ≤ sizeLine; decide, hS, [(Sum.inr x0, u0), (Sum.inr x1, u1)], .cons ⟨rfl, e0⟩ (.cons ⟨rfl, e1⟩ .nil), dd'⟩)
end L2
namespace L2
open PySem PySem.Spec PyProof.Rows
end L2
namespace PySem
namespace F
end F
section
variable {prog : Program} {w : World} {A : Around} {E : Value → Shared → Prop} {s : Shared}
end
end PySem
namespace L2
open PySem PySem.Spec PyProof.Rows
def tRev (K : PySem.W.Frag) (te : TE) : TE := fun σ H Q => te σ H fun x H1 => ∃ a xs, x = .ref a ∧ SqL K H1 a xs ∧ ∀ p, H1 p = none → Q (.ref p) (upd H1 p (.lst xs.reverse))
theorem rd_rev {K : PySem.W.Frag} {te : TE} {σ : St} {H : Hp} {Q : VK} (k : te σ H fun x H1 => ∃ a xs, x = .ref a ∧ SqL K H1 a xs ∧ ∀ p, H1 p = none → Q (.ref p) (upd H1 p (.lst xs.reverse))) : tRev K te σ H Q := k
end L2
namespace L2
open PySem PySem.Spec PyProof.Rows
section
variable {σ : St} {te : TE} {tt : TT} {ix : List Nat}
theorem comp_by {QQ : Hp → Prop} {J : It} {H1 : Hp} {acc : Addr} {xs : List V} (Pv : Nat → List V → Hp → Prop) (h0 : Pv 0 [] (upd H1 acc (.lst []))) (hz : xs.length ≤ sizeLine)
    (hJ : ∀ i ys H2, i ≤ xs.length → Pv i ys H2 → (∀ v, xs[i]? = some v → J.go i H2) ∧ (∀ v H3, J.yld i H2 v H3 → H3 = H2 ∧ xs[i]? = some v) ∧ (i = xs.length → J.stop i H2) ∧ ys.length ≤ i)
    (hstep : ∀ i v ys H2, xs[i]? = some v → Pv i ys H2 → ∀ N : List V → Hp → Prop, (∀ ys' H', Pv (i + 1) ys' H' → N ys' H') →
      tt (compSt σ ix (some v)) H2 fun c H4 => if c = true then te (compSt σ ix (some v)) H4 fun y H5 => H5 acc = some (.lst ys) ∧ N (ys ++ [y]) (upd H5 acc (.lst (ys ++ [y]))) else N ys H4)
    (hq : ∀ ys H2, Pv xs.length ys H2 → QQ H2) :
    ∃ W : Nat → Nat → List V → Hp → Prop, (∃ m, W 0 m [] (upd H1 acc (.lst []))) ∧ ∀ i m ys H2, W i m ys H2 →
      (J.stop i H2 ∧ QQ H2) ∨ (J.go i H2 ∧ ys.length < sizeLine ∧ ∀ v H3, J.yld i H2 v H3 → tt (compSt σ ix (some v)) H3 fun c H4 =>
        if c = true then te (compSt σ ix (some v)) H4 fun y H5 => H5 acc = some (.lst ys) ∧ ∃ m', m' < m ∧ W (i + 1) m' (ys ++ [y]) (upd H5 acc (.lst (ys ++ [y]))) else ∃ m', m' < m ∧ W (i + 1) m' ys H4) := by
  refine ⟨fun i m ys H2 => m = xs.length - i ∧ i ≤ xs.length ∧ Pv i ys H2, ⟨xs.length, by simp, Nat.zero_le _, h0⟩, ?_⟩
  rintro i m ys H2 ⟨rfl, hi, hp⟩
  obtain ⟨j1, j2, j3, j4⟩ := hJ i ys H2 hi hp
  by_cases hlt : i < xs.length
  · have hx : xs[i]? = some xs[i] := List.getElem?_eq_getElem hlt
    refine .inr ⟨j1 _ hx, by omega, fun v H3 y => ?_⟩
    obtain ⟨rfl, e⟩ := j2 v H3 y
    exact hstep i v ys _ e hp (fun ys' H' => ∃ m', m' < xs.length - i ∧ (m' = xs.length - (i + 1) ∧ i + 1 ≤ xs.length ∧ Pv (i + 1) ys' H')) fun ys' H' p' => ⟨xs.length - (i + 1), by omega, rfl, hlt, p'⟩
  · have e : i = xs.length := by omega
    subst e
    exact .inl ⟨j3 rfl, hq ys H2 hp⟩
theorem itl_ok {K : PySem.W.Frag} {a : Addr} {xs : List V} {H2 : Hp} (h : SqL K H2 a xs) (i : Nat) : (∀ v, xs[i]? = some v → (Itl K a).go i H2) ∧ (∀ v H3, (Itl K a).yld i H2 v H3 → H3 = H2 ∧ xs[i]? = some v) ∧ (i = xs.length → (Itl K a).stop i H2) :=
  ⟨fun v e => ⟨xs, v, h, e⟩, fun v H3 y => ⟨y.1, y.2 xs h⟩, fun e => ⟨xs, h, Nat.le_of_eq e.symm⟩⟩
end
end L2
namespace Sr
open PySem L2
structure Rows (H0 H : Hp) (ps : List Addr) (ws : List (List Int)) : Prop where
  len : ps.length = ws.length
  each : ∀ (i : Nat) (p : Addr) (w : List Int), ps[i]? = some p → ws[i]? = some w → H p = some (.lst (I2 w)) ∧ H0 p = none
  nodup : ps.Nodup
theorem Rows.nil {H0 H : Hp} : Rows H0 H [] [] := ⟨rfl, fun i p w e => by simp at e, List.nodup_nil⟩
theorem Rows.stay {H0 H H' : Hp} {ps : List Addr} {ws : List (List Int)} (h : Rows H0 H ps ws) (s : Same H H') : Rows H0 H' ps ws := ⟨h.len, fun i p w e e' => ⟨s _ _ (h.each i p w e e').1, (h.each i p w e e').2⟩, h.nodup⟩
theorem Rows.mem {H0 H : Hp} {ps : List Addr} {ws : List (List Int)} (h : Rows H0 H ps ws) {p : Addr} (hp : p ∈ ps) : ∃ w ∈ ws, H p = some (.lst (I2 w)) ∧ H0 p = none := by
  obtain ⟨i, hi, rfl⟩ := List.getElem_of_mem hp
  have hi' : i < ws.length := by rw [← h.len]; exact hi
  exact ⟨ws[i], List.getElem_mem hi', h.each i _ _ (List.getElem?_eq_getElem hi) (List.getElem?_eq_getElem hi')⟩
theorem Rows.snoc {H0 H H' : Hp} {ps : List Addr} {ws : List (List Int)} {p : Addr} {w : List Int} (h : Rows H0 H ps ws) (s : Same H H') (hp : H p = none) (hn : H0 p = none) (hw : H' p = some (.lst (I2 w))) : Rows H0 H' (ps ++ [p]) (ws ++ [w]) := by
  refine ⟨by simp [h.len], fun i q v e e' => ?_, ?_⟩
  · by_cases hi : i < ps.length
    · rw [List.getElem?_append_left hi] at e
      rw [List.getElem?_append_left (by rw [← h.len]; exact hi)] at e'
      exact ⟨s _ _ (h.each i q v e e').1, (h.each i q v e e').2⟩
    · have hi' : i = ps.length := by
        have := (List.getElem?_eq_some_iff.mp e).1
        simp at this
        omega
      subst hi'
      rw [h.len] at e'
      simp at e e'
      subst e e'
      exact ⟨hw, hn⟩
  · rw [List.nodup_append]
    refine ⟨h.nodup, by simp, fun x hx y hy z => ?_⟩
    rw [List.mem_singleton.mp hy] at z
    obtain ⟨w', _, h1, _⟩ := h.mem hx
    rw [z, hp] at h1; cases h1
theorem Rows.other {H0 H : Hp} {ps : List Addr} {ws : List (List Int)} {l : Addr} {o : HO} (h : Rows H0 H ps ws) (hl : l ∉ ps) : Rows H0 (upd H l o) ps ws :=
  ⟨h.len, fun i p w e e' => ⟨by rw [upd_ne (fun z => hl (by rw [← z]; exact List.mem_of_getElem? e))]; exact (h.each i p w e e').1, (h.each i p w e e').2⟩, h.nodup⟩
theorem Rows.app {H0 H : Hp} {ps qs : List Addr} {ws vs : List (List Int)} (h : Rows H0 H ps ws) (k : Rows H0 H qs vs) (hd : ∀ p ∈ ps, p ∉ qs) : Rows H0 H (ps ++ qs) (ws ++ vs) := by
  refine ⟨by simp [h.len, k.len], fun i p w e e' => ?_, ?_⟩
  · by_cases hi : i < ps.length
    · rw [List.getElem?_append_left hi] at e
      rw [List.getElem?_append_left (by rw [← h.len]; exact hi)] at e'
      exact h.each i p w e e'
    · rw [List.getElem?_append_right (by omega)] at e
      rw [List.getElem?_append_right (by rw [← h.len]; omega), ← h.len] at e'
      exact k.each _ p w e e'
  · rw [List.nodup_append]
    exact ⟨h.nodup, k.nodup, fun x hx y hy z => hd x hx (by rw [z]; exact hy)⟩
end Sr
namespace Sr
open PySem L2
def top (i : Nat) : Stmt := PySem.Challenge.pw_selfruns_k10_what_is_refused.main.body.getD i (.Pass ⟨0, 0, 0, 0⟩)
seal PSs PS PE PT PW PA PI PG PTs PO
local macro_rules | `(tactic| walk_at "rd") => `(tactic| (repeat' (first
  | with_reducible refine rd_seq ?_ | with_reducible refine rd_next ?_ | with_reducible refine rd_drop ?_ | with_reducible refine rd_ret ?_ | with_reducible refine rd_ifS ?_ | with_reducible refine rd_asg ?_ | with_reducible refine rd_gname ?_
  | with_reducible refine rd_var rfl ?_ | with_reducible refine rd_c ?_ | with_reducible refine rd_op ?_ | with_reducible refine rd_un ?_ | with_reducible refine rd_rU ?_ | with_reducible refine rd_I0 ?_ | with_reducible refine rd_add ?_
  | with_reducible refine rd_test ?_ | with_reducible refine rd_tB ?_ | with_reducible refine rd_bl ?_ | with_reducible refine rd_not ?_ | with_reducible refine rd_and ?_ | with_reducible refine rd_or ?_ | with_reducible refine rd_if ?_
  | with_reducible refine rd_nil ?_ | with_reducible refine rd_cons ?_ | with_reducible refine rd_lst ?_ | with_reducible refine rd_tup ?_ | with_reducible refine rd_call ?_ | with_reducible refine rd_CB ?_ | with_reducible refine rd_BM ?_
  | with_reducible refine rd_eqI ?_ | with_reducible refine rd_neI ?_ | with_reducible refine rd_mod (by decide) ?_ | with_reducible refine rd_fdiv (by decide) (by decide) ?_ | with_reducible refine rd_for ?_ | with_reducible refine rd_rng1 ?_ | with_reducible refine rd_ilist ?_
  | with_reducible refine rd_andV ?_ | with_reducible refine rd_notV ?_ | with_reducible refine rd_augS ?_ | with_reducible refine rd_gsub ?_ | with_reducible refine rd_sl ?_ | with_reducible refine rd_nopart ?_ | with_reducible refine rd_part ?_
  | with_reducible refine rd_raise ?_ | with_reducible refine rd_join_cons ?_ | with_reducible refine rd_join_nil ?_ | with_reducible refine rd_anyS ?_ | with_reducible refine rd_comp ?_ | with_reducible refine rd_chain3 ?_ | with_reducible refine rd_tryAs ?_ | with_reducible refine rd_callT ?_ | with_reducible refine rd_orV ?_ | with_reducible refine rd_chain ?_ | with_reducible refine rd_CBK ?_
  | with_reducible refine rd_tru ?_ | with_reducible refine rd_aug rfl ?_ | with_reducible refine rd_ipI ?_ | with_reducible refine rd_itup ?_ | with_reducible refine rd_while ?_ | with_reducible refine rd_rev ?_ | with_reducible refine rd_ienum ?_ | with_reducible refine rd_istr ?_)))
local macro_rules | `(tactic| walk_at "rs") => `(tactic| (repeat' (first
  | with_reducible refine rd_seq ?_ | with_reducible refine rd_next ?_ | with_reducible refine rd_drop ?_ | with_reducible refine rd_ret ?_ | with_reducible refine rd_asg ?_ | with_reducible refine rd_gname ?_
  | with_reducible refine rd_var rfl ?_ | with_reducible refine rd_c ?_ | with_reducible refine rd_op ?_ | with_reducible refine rd_un ?_ | with_reducible refine rd_rU ?_ | with_reducible refine rd_I0 ?_ | with_reducible refine rd_add ?_
  | with_reducible refine rd_test ?_ | with_reducible refine rd_tB ?_ | with_reducible refine rd_bl ?_ | with_reducible refine rd_not ?_ | with_reducible refine rd_and ?_ | with_reducible refine rd_or ?_ | with_reducible refine rd_if ?_
  | with_reducible refine rd_nil ?_ | with_reducible refine rd_cons ?_ | with_reducible refine rd_lst ?_ | with_reducible refine rd_tup ?_ | with_reducible refine rd_call ?_ | with_reducible refine rd_CB ?_ | with_reducible refine rd_BM ?_
  | with_reducible refine rd_eqI ?_ | with_reducible refine rd_neI ?_ | with_reducible refine rd_mod (by decide) ?_ | with_reducible refine rd_fdiv (by decide) (by decide) ?_ | with_reducible refine rd_for ?_ | with_reducible refine rd_rng1 ?_ | with_reducible refine rd_ilist ?_
  | with_reducible refine rd_andV ?_ | with_reducible refine rd_notV ?_ | with_reducible refine rd_augS ?_ | with_reducible refine rd_gsub ?_ | with_reducible refine rd_sl ?_ | with_reducible refine rd_nopart ?_ | with_reducible refine rd_part ?_
  | with_reducible refine rd_raise ?_ | with_reducible refine rd_join_cons ?_ | with_reducible refine rd_join_nil ?_ | with_reducible refine rd_anyS ?_ | with_reducible refine rd_comp ?_ | with_reducible refine rd_chain3 ?_ | with_reducible refine rd_tryAs ?_ | with_reducible refine rd_callT ?_ | with_reducible refine rd_orV ?_ | with_reducible refine rd_chain ?_ | with_reducible refine rd_CBK ?_
  | with_reducible refine rd_tru ?_ | with_reducible refine rd_aug rfl ?_ | with_reducible refine rd_ipI ?_ | with_reducible refine rd_itup ?_ | with_reducible refine rd_while ?_ | with_reducible refine rd_rev ?_ | with_reducible refine rd_ienum ?_ | with_reducible refine rd_istr ?_)))
section
variable {P : Program} {w : World} {K : PySem.W.Frag} {mg : Str → Option Value} {base : Heap} {c : Nat → Addr}
def spCell (K : PySem.W.Frag) : Sp := fun vs H Q _ => ∃ a ns k, vs = [.ref a, .int k] ∧ SqL K H a (I2 ns) ∧ 0 ≤ k ∧ Q (.int (cell ns k)) H
def oneOf (k : Int) : List Bool := [decide (k = 0), decide (k = 1), decide (k = 2), decide (k = 3), decide (k = 4), decide (k = 5), true]
def spOne : Sp := fun vs H Q _ => ∃ k, vs = [.int k] ∧ ∀ l H', New H H' l (.lst ((oneOf k).map V.bl)) → Q (.ref l) H'
def spLetters : Sp := fun vs H Q _ => ∃ x, vs = [.int x] ∧ ∀ t H' a b, New H H' t (.tup [.int a, .int b]) → okL a b → Q (.ref t) H'
def spDigits (K : PySem.W.Frag) : Sp := fun vs H Q _ => ∃ t x m a b, vs = [.ref t, .int x, .int m] ∧ SqT K H t [.int a, .int b] ∧ 0 ≤ m ∧ m ≤ 100000 ∧ ∀ l H' ns, New H H' l (.lst (I2 ns)) → (ns.length : Int) = m → (∀ y ∈ ns, y = a ∨ y = b) → Q (.ref l) H'
def spLens (K : PySem.W.Frag) : Sp := fun vs H Q _ => ∃ r ns, vs = [.ref r] ∧ SqL K H r (I2 ns) ∧ ns.length ≤ 100000 ∧ ∀ l H', New H H' l (.lst (I2 (lens ns))) → Q (.ref l) H'
def spCheckL (K : PySem.W.Frag) (c : Nat → Addr) : Sp := fun vs H Q E => ∃ t a b, vs = [.ref t] ∧ SqT K H t [.int a, .int b] ∧ (-100 ≤ a ∧ a ≤ 100 ∧ -100 ≤ b ∧ b ≤ 100) ∧ (okL a b → Q .non H) ∧ (¬ okL a b → E (.ref (c 0)) none H)
def LR (K : PySem.W.Frag) (H : Hp) (t r : Addr) (a b : Int) (ns : List Int) : Prop := SqT K H t [.int a, .int b] ∧ SqL K H r (I2 ns) ∧ (-100 ≤ a ∧ a ≤ 100 ∧ -100 ≤ b ∧ b ≤ 100) ∧ ns.length ≤ 1000 ∧ ∀ x ∈ ns, -100 ≤ x ∧ x ≤ 100
def Bad (c : Nat → Addr) (a b : Int) (ns : List Int) (E : XK) (H : Hp) : Prop := (¬ okL a b → E (.ref (c 0)) none H) ∧ (okL a b → ¬ okR a b ns → E (.ref (c 1)) none H)
def spCheckR (K : PySem.W.Frag) (c : Nat → Addr) : Sp := fun vs H Q E => ∃ t r a b ns, vs = [.ref t, .ref r] ∧ LR K H t r a b ns ∧ (okL a b → okR a b ns → Q .non H) ∧ Bad c a b ns E H
def spCheckS (K : PySem.W.Frag) (c : Nat → Addr) : Sp := fun vs H Q E => ∃ t a b x, vs = [.ref t, .int x] ∧ SqT K H t [.int a, .int b] ∧ (-100 ≤ a ∧ a ≤ 100 ∧ -100 ≤ b ∧ b ≤ 100) ∧ (-100 ≤ x ∧ x ≤ 100) ∧ (okL a b → (x = a ∨ x = b) → Q .non H) ∧ (¬ okL a b → E (.ref (c 0)) none H) ∧ (okL a b → ¬ (x = a ∨ x = b) → E (.ref (c 3)) none H)
def spCheckN (K : PySem.W.Frag) (c : Nat → Addr) : Sp := fun vs H Q E => ∃ r ns, vs = [.ref r] ∧ SqL K H r (I2 ns) ∧ ns.length ≤ 1000 ∧ (∀ x ∈ ns, -100 ≤ x ∧ x ≤ 100) ∧ (okN ns → Q .non H) ∧ (¬ okN ns → E (.ref (c 2)) none H)
def spBuild (K : PySem.W.Frag) (c : Nat → Addr) : Sp := fun vs H Q E => ∃ t r a b x ns, vs = [.ref t, .int x, .ref r] ∧ LR K H t r a b ns ∧ (-100 ≤ x ∧ x ≤ 100) ∧ (okL a b → (x = a ∨ x = b) → okN ns → ∀ l H', New H H' l (.lst (I2 (bl a b x ns))) → Q (.ref l) H') ∧
  (¬ okL a b → E (.ref (c 0)) none H) ∧ (okL a b → ¬ (x = a ∨ x = b) → E (.ref (c 3)) none H) ∧ (okL a b → (x = a ∨ x = b) → ¬ okN ns → E (.ref (c 2)) none H)
def spOther (K : PySem.W.Frag) : Sp := fun vs H Q _ => ∃ t a b x, vs = [.ref t, .int x] ∧ SqT K H t [.int a, .int b] ∧ Q (.int (if x = a then b else a)) H
structure Kits (K : PySem.W.Frag) (c : Nat → Addr) : Prop where
  err : ∀ j, j < 6 → ErrCls K (c j)
  own : ∀ j, j < 6 → ∀ i, i < 6 → PySem.W.kitOne K (.ref (c j)) (.ref (c i)) = some (decide (j = i))
  val : ∀ j, j < 6 → PySem.W.kitOne K (.ref (c j)) (.type "ValueError") = some true
  sub : ∀ j, j < 6 → PySem.W.mroIn K (c j) (.ref (c 6)) = some true
def cOf (c0 c1 c2 c3 c4 c5 c6 : Addr) : Nat → Addr
  | 0 => c0 | 1 => c1 | 2 => c2 | 3 => c3 | 4 => c4 | 5 => c5 | _ => c6
def chkOwn (K : PySem.W.Frag) (c : Nat → Addr) : Bool := (List.range 6).all fun j => ((List.range 6).all fun i => decide (PySem.W.kitOne K (.ref (c j)) (.ref (c i)) = some (decide (j = i)))) && decide (PySem.W.kitOne K (.ref (c j)) (.type "ValueError") = some true) && decide (PySem.W.mroIn K (c j) (.ref (c 6)) = some true)
theorem kits_of {K : PySem.W.Frag} {c0 c1 c2 c3 c4 c5 c6 : Addr} (e0 : ErrCls K c0) (e1 : ErrCls K c1) (e2 : ErrCls K c2) (e3 : ErrCls K c3) (e4 : ErrCls K c4) (e5 : ErrCls K c5) (h : chkOwn K (cOf c0 c1 c2 c3 c4 c5 c6) = true) : Kits K (cOf c0 c1 c2 c3 c4 c5 c6) := by
  have h' : ∀ j, j < 6 → ((∀ i, i < 6 → PySem.W.kitOne K (.ref (cOf c0 c1 c2 c3 c4 c5 c6 j)) (.ref (cOf c0 c1 c2 c3 c4 c5 c6 i)) = some (decide (j = i))) ∧ PySem.W.kitOne K (.ref (cOf c0 c1 c2 c3 c4 c5 c6 j)) (.type "ValueError") = some true) ∧ PySem.W.mroIn K (cOf c0 c1 c2 c3 c4 c5 c6 j) (.ref (cOf c0 c1 c2 c3 c4 c5 c6 6)) = some true := by
    simpa only [chkOwn, List.all_eq_true, List.mem_range, Bool.and_eq_true, decide_eq_true_eq] using h
  refine ⟨fun j hj => ?_, fun j hj i hi => (h' j hj).1.1 i hi, fun j hj => (h' j hj).1.2, fun j hj => (h' j hj).2⟩
  match j, hj with
  | 0, _ => exact e0
  | 1, _ => exact e1
  | 2, _ => exact e2
  | 3, _ => exact e3
  | 4, _ => exact e4
  | 5, _ => exact e5
def spKind (K : PySem.W.Frag) (c : Nat → Addr) : Sp := fun vs H Q _ => ∃ a j, vs = [.ref a] ∧ j < 6 ∧ H a = some (excO a (c j)) ∧ ∀ l H', New H H' l (.lst ((oneOf (j : Int)).map V.bl)) → Q (.ref l) H'
def spLaw (K : PySem.W.Frag) : Sp := fun vs H Q _ => ∃ a ns, vs = [.ref a] ∧ SqL K H a (I2 ns) ∧ ns.length ≤ 63 ∧ ∀ H', Q (.bl true) H'
theorem LR.stay {K : PySem.W.Frag} {H H' : Hp} {t r : Addr} {a b : Int} {ns : List Int} (h : LR K H t r a b ns) (s : Same H H') : LR K H' t r a b ns := ⟨s.seqT h.1, s.seq h.2.1, h.2.2⟩
def spFit (K : PySem.W.Frag) : Sp := fun vs H Q _ => ∃ t l a b ns, vs = [.ref t, .ref l] ∧ SqT K H t [.int a, .int b] ∧ SqL K H l (I2 ns) ∧ ns.length ≤ 1000 ∧ ∀ H', Same H H' → Q (.bl (decide (fits a b ns))) H'
def spInner (K : PySem.W.Frag) : Sp := fun vs H Q _ => ∃ t r a b ns, vs = [.ref t, .ref r] ∧ SqT K H t [.int a, .int b] ∧ 0 ≤ b ∧ SqL K H r (I2 ns) ∧ ns.length ≤ 1000 ∧ (inn a b ns = none → ∀ H', Same H H' → Q .non H') ∧ (∀ v, inn a b ns = some v → ∀ l H', New H H' l (.lst (I2 v)) → Q (.ref l) H')
def hV : Option Nat → V
  | none => .non
  | some h => .int h
def spHeight (K : PySem.W.Frag) : Sp := fun vs H Q _ => ∃ t r a b ns, vs = [.ref t, .ref r] ∧ SqT K H t [.int a, .int b] ∧ 2 ≤ b ∧ SqL K H r (I2 ns) ∧ ns.length ≤ 1000 ∧ ∀ H', Same H H' → Q (hV (hgt a b ns)) H'
def spInnerC (K : PySem.W.Frag) (c : Nat → Addr) : Sp := fun vs H Q E => ∃ t r a b ns, vs = [.ref t, .ref r] ∧ LR K H t r a b ns ∧ (okL a b → okR a b ns → (inn a b ns = none → ∀ H', Same H H' → Q .non H') ∧ (∀ v, inn a b ns = some v → ∀ l H', New H H' l (.lst (I2 v)) → Q (.ref l) H')) ∧ Bad c a b ns E H
def spHeightC (K : PySem.W.Frag) (c : Nat → Addr) : Sp := fun vs H Q E => ∃ t r a b ns, vs = [.ref t, .ref r] ∧ LR K H t r a b ns ∧ (okL a b → okR a b ns → ∀ H', Same H H' → Q (hV (hgt a b ns)) H') ∧ Bad c a b ns E H
theorem cutI_tail (ns : List Int) : cutI ns (some 1) none = ns.drop 1 := cutI_from (m := 1)
theorem cutI_init (ns : List Int) : cutI ns none (some (-1)) = ns.dropLast := by
  unfold cutI
  simp only [HT.sIx, List.drop_zero, Nat.sub_zero]
  rw [List.dropLast_eq_take]
  congr 1
  rw [if_pos (by decide)]
  omega
theorem cutI_mid (ns : List Int) : cutI ns (some 1) (some (-1)) = mid ns := by
  unfold cutI mid
  simp only [HT.sIx]
  rw [List.dropLast_eq_take, List.length_drop, if_pos (by decide), if_neg (by decide)]
  cases ns with
  | nil => rfl
  | cons x r =>
    have e : min (Int.toNat 1) (x :: r).length = 1 := by simp
    rw [e]
    congr 1
    simp
    omega
theorem emp_iff {ns : List Int} : (!(I2 ns).isEmpty) = true ↔ ns ≠ [] := by cases ns <;> simp [I2]
def spMany (c : Nat → Addr) : Sp := fun vs H Q E => ∃ m n, vs = [.int m, .int n] ∧ m.natAbs < 2 ^ 64 ∧ n.natAbs < 2 ^ 64 ∧ (0 ≤ m ∧ m ≤ n → Q .non H) ∧ (¬ (0 ≤ m ∧ m ≤ n) → E (.ref (c 4)) none H)
def runT (a b x : Int) (i : Nat) : List V := [.int (turnS a b x i), .int (orow a b x i).length, .int (oln a b x i)]
def RunsAt (H : Hp) (a b x : Int) (l : Addr) (ts : List Addr) : Prop := H l = some (.lst (ts.map V.ref)) ∧ ∀ i p, ts[i]? = some p → H p = some (.tup (runT a b x i))
def spFirst (K : PySem.W.Frag) : Sp := fun vs H Q _ => ∃ t a b x m, vs = [.ref t, .int x, .int m] ∧ SqT K H t [.int a, .int b] ∧ okL a b ∧ (x = a ∨ x = b) ∧ 0 ≤ m ∧ m ≤ 1000 ∧ ∀ l H' ts, Same H H' → H l = none → RunsAt H' a b x l ts → (ts.length : Int) = m → Q (.ref l) H'
def BadO (c : Nat → Addr) (a b x m n : Int) (E : XK) (H : Hp) : Prop := (¬ okL a b → E (.ref (c 0)) none H) ∧ (okL a b → ¬ (x = a ∨ x = b) → E (.ref (c 3)) none H) ∧ (okL a b → (x = a ∨ x = b) → ¬ (0 ≤ m ∧ m ≤ n) → E (.ref (c 4)) none H)
def LX (K : PySem.W.Frag) (H : Hp) (t : Addr) (a b x m : Int) : Prop := SqT K H t [.int a, .int b] ∧ (-100 ≤ a ∧ a ≤ 100 ∧ -100 ≤ b ∧ b ≤ 100) ∧ (-100 ≤ x ∧ x ≤ 100) ∧ m.natAbs < 2 ^ 64
def spOwn (K : PySem.W.Frag) (c : Nat → Addr) : Sp := fun vs H Q E => ∃ t a b x m, vs = [.ref t, .int x, .int m] ∧ LX K H t a b x m ∧ (okL a b → (x = a ∨ x = b) → 0 ≤ m → m ≤ 400 → ∀ l H', New H H' l (.lst (I2 (opre a b x m.toNat))) → Q (.ref l) H') ∧ BadO c a b x m 400 E H
def spOwnRuns (K : PySem.W.Frag) (c : Nat → Addr) : Sp := fun vs H Q E => ∃ t a b x m, vs = [.ref t, .int x, .int m] ∧ LX K H t a b x m ∧ (okL a b → (x = a ∨ x = b) → 0 ≤ m → m ≤ 60 → ∀ l H' ts, Same H H' → H l = none → RunsAt H' a b x l ts → (ts.length : Int) = m → Q (.ref l) H') ∧ BadO c a b x m 60 E H
theorem turn_succ {a b x : Int} (hs : x = a ∨ x = b) (i : Nat) : (if turnS a b x i = a then b else a) = turnS a b x (i + 1) := by
  have := turnS_mem hs i
  simp only [turnS]
  split <;> omega
theorem orow_len {a b x : Int} (hok : okL a b) (hs : x = a ∨ x = b) {i n : Nat} (h : i ≤ n) (hn : n ≤ 1000) : (orow a b x i).length ≤ 9000 := by
  have := orow_le hok hs i
  omega
theorem RunsAt.stay {H H' : Hp} {a b x : Int} {l : Addr} {ts : List Addr} (h : RunsAt H a b x l ts) (s : Same H H') : RunsAt H' a b x l ts := ⟨s _ _ h.1, fun i p e => s _ _ (h.2 i p e)⟩
def spNext (K : PySem.W.Frag) : Sp := fun vs H Q _ => ∃ t r a b ns, vs = [.ref t, .ref r] ∧ SqT K H t [.int a, .int b] ∧ 2 ≤ b ∧ H r = some (.lst (I2 ns)) ∧ ns.length ≤ 900 ∧ ∀ l H', New H H' l (.lst (I2 (nxt a b ns))) → Q (.ref l) H'
def spGoes (K : PySem.W.Frag) (c : Nat → Addr) : Sp := fun vs H Q E => ∃ t r a b ns, vs = [.ref t, .ref r] ∧ LR K H t r a b ns ∧ H r = some (.lst (I2 ns)) ∧ (okL a b → okR a b ns → ∀ l H', New H H' l (.lst (I2 (nxt a b ns))) → Q (.ref l) H') ∧ Bad c a b ns E H
def smV (a b : Int) (ns : List Int) : V → Bool
  | .int s => (hgt a b (ns ++ [s])).isSome
  | _ => false
theorem smV_map (a b : Int) (ns : List Int) : ((([V.int a, V.int b]).filter (smV a b ns)).map fun v => v) = I2 (nxt a b ns) := by
  unfold nxt I2
  simp only [List.map_id']
  by_cases h1 : (hgt a b (ns ++ [a])).isSome = true <;> by_cases h2 : (hgt a b (ns ++ [b])).isSome = true <;> simp [List.filter, smV, h1, h2]
theorem hV_none (o : Option Nat) : decide (hV o = .non) = !o.isSome := by cases o <;> simp [hV]
def spAll (K : PySem.W.Frag) (c : Nat → Addr) : Sp := fun vs H Q E => ∃ t a b m, vs = [.ref t, .int m] ∧ SqT K H t [.int a, .int b] ∧ (-100 ≤ a ∧ a ≤ 100 ∧ -100 ≤ b ∧ b ≤ 100) ∧ m.natAbs < 2 ^ 64 ∧
  (okL a b → 0 ≤ m → m ≤ 10 → ∀ l ps H', Same H H' → H l = none → l ∉ ps → H' l = some (.lst (ps.map V.ref)) → Rows H H' ps (sml a b m.toNat) → Q (.ref l) H') ∧
  (¬ okL a b → E (.ref (c 0)) none H) ∧ (okL a b → ¬ (0 ≤ m ∧ m ≤ 10) → E (.ref (c 4)) none H)
theorem Rows.down {H0 H1 H : Hp} {ps : List Addr} {ws : List (List Int)} (h : Rows H1 H ps ws) (s : Same H0 H1) : Rows H0 H ps ws := ⟨h.len, fun i p w e e' => ⟨(h.each i p w e e').1, s.free (h.each i p w e e').2⟩, h.nodup⟩
theorem Rows.free {H0 H : Hp} {ps : List Addr} {ws : List (List Int)} (h : Rows H0 H ps ws) {q : Addr} {o : HO} (hq : H0 q = some o) : q ∉ ps := fun z => by
  obtain ⟨w, _, _, h1⟩ := h.mem z
  rw [hq] at h1; cases h1
theorem ref_at {ps : List Addr} {i : Nat} {x : V} (h : (ps.map V.ref)[i]? = some x) : ∃ p, ps[i]? = some p ∧ x = .ref p := by
  rw [List.getElem?_map] at h
  cases e : ps[i]? with
  | none => rw [e] at h; cases h
  | some n => rw [e] at h; exact ⟨n, rfl, (Option.some.inj h).symm⟩
theorem ups_take (a b : Int) (w : List Int) {k : Nat} {s : Int} (h : (nxt a b w)[k]? = some s) : ((nxt a b w).take (k + 1)).map (fun s => w ++ [s]) = ((nxt a b w).take k).map (fun s => w ++ [s]) ++ [w ++ [s]] := by
  rw [List.take_add_one, h]; simp
theorem fm_take {ws : List (List Int)} {a b : Int} {j : Nat} {w : List Int} (h : ws[j]? = some w) : (ws.take (j + 1)).flatMap (ups a b) = (ws.take j).flatMap (ups a b) ++ ups a b w := by
  rw [List.take_add_one, h]; simp
def dig (i : Int) : Str := Str.ofString (toString i)
def txt (ns : List Int) : Str := Builtin.Str.glued (Str.ofString "") (ns.map dig)
def asc (z : Str) : Prop := z.cps.all (· < 128) = true
def spShown (K : PySem.W.Frag) (c : Nat → Addr) : Sp := fun vs H Q E => ∃ t r a b ns, vs = [.ref t, .ref r] ∧ LR K H t r a b ns ∧ (okL a b → okR a b ns → ∀ H', Same H H' → Q (.str (txt ns)) H') ∧ Bad c a b ns E H
def figs (a b : Int) (z : Str) : Prop := ∀ c ∈ z.cps.toList, c = (48 + a).toNat ∨ c = (48 + b).toNat
instance (a b : Int) (z : Str) : Decidable (figs a b z) := by unfold figs; exact inferInstance
def rowOf (z : Str) : List Int := z.cps.toList.map fun (c : Nat) => (c : Int) - 48
def spRead (K : PySem.W.Frag) (c : Nat → Addr) : Sp := fun vs H Q E => ∃ t a b z, vs = [.ref t, .str z] ∧ SqT K H t [.int a, .int b] ∧ (-100 ≤ a ∧ a ≤ 100 ∧ -100 ≤ b ∧ b ≤ 100) ∧ asc z ∧ z.cps.size ≤ 1000 ∧
  (okL a b → figs a b z → ∀ l H', New H H' l (.lst (I2 (rowOf z))) → Q (.ref l) H') ∧ (¬ okL a b → E (.ref (c 0)) none H) ∧ (okL a b → ¬ figs a b z → ∀ H', Same H H' → E (.ref (c 5)) none H')
theorem dig_eq {i : Int} (h0 : 0 ≤ i) (h1 : i ≤ 9) : dig i = ⟨#[(48 + i).toNat]⟩ := by
  have h : i = 0 ∨ i = 1 ∨ i = 2 ∨ i = 3 ∨ i = 4 ∨ i = 5 ∨ i = 6 ∨ i = 7 ∨ i = 8 ∨ i = 9 := by omega
  rcases h with rfl | rfl | rfl | rfl | rfl | rfl | rfl | rfl | rfl | rfl <;> decide +kernel
theorem dig_len {i : Int} (h0 : 0 ≤ i) (h1 : i ≤ 9) : (dig i).length = 1 := by rw [dig_eq h0 h1]; rfl
theorem dig_small {i : Int} (h0 : 0 ≤ i) (h1 : i ≤ 9) : i.natAbs.log2 < 1920 := small_int (by omega)
theorem dig_inj {c : Nat} {i : Int} (h0 : 0 ≤ i) (h1 : i ≤ 9) : dig i = ⟨#[c]⟩ ↔ c = (48 + i).toNat := by
  rw [dig_eq h0 h1]
  constructor
  · intro h; injection h with h; simpa using h.symm
  · intro h; rw [h]
def kj (cl : Int) : Nat := if cl = 4 then 4 else if cl = 5 then 5 else if cl = 6 then 4 else if cl = 7 then 3 else 2
def dueJ (a b : Int) (ns : List Int) (cl odd : Int) : Option Nat := if okL a b then (if cl ≤ 3 then (if okR a b ns then none else some 1) else if odd = 1 then some (kj cl) else none) else some 0
def spCallK (K : PySem.W.Frag) (c : Nat → Addr) : Sp := fun vs H Q E => ∃ t r a b ns cl odd, vs = [.int cl, .ref t, .ref r, .int odd] ∧ (0 ≤ cl ∧ cl ≤ 8) ∧ (odd = 0 ∨ odd = 1) ∧ LR K H t r a b ns ∧ H r = some (.lst (I2 ns)) ∧
  (dueJ a b ns cl odd = none → ∀ H', Same H H' → Q .non H') ∧ (∀ j, dueJ a b ns cl odd = some j → ∀ H', Same H H' → E (.ref (c j)) none H')
def kindsOf : Option Nat → List Bool
  | none => []
  | some j => oneOf j
def spKinds (K : PySem.W.Frag) (c : Nat → Addr) : Sp := fun vs H Q _ => ∃ t r a b ns cl odd, vs = [.int cl, .ref t, .ref r, .int odd] ∧ (0 ≤ cl ∧ cl ≤ 8) ∧ (odd = 0 ∨ odd = 1) ∧ LR K H t r a b ns ∧ H r = some (.lst (I2 ns)) ∧
  ∀ l H', Same H H' → H' l = some (.lst ((kindsOf (dueJ a b ns cl odd)).map V.bl)) → Q (.ref l) H'
theorem dueJ_lt {a b : Int} {ns : List Int} {cl odd : Int} {j : Nat} (h : dueJ a b ns cl odd = some j) : j < 6 := by
  unfold dueJ kj at h
  repeat' split at h
  all_goals first | (cases h; decide) | cases h
theorem bls_ok (bs : List Bool) : SeqAt.shaped (.list (bs.map PyData.bool)) = true ∧ PyData.eqv (.list (bs.map PyData.bool)) (.list (bs.map PyData.bool)) = true := by
  have h : PyData.canLayAll0 (bs.map PyData.bool) = true ∧ PyData.depthAll (bs.map PyData.bool) = 0 := by
    induction bs with
    | nil => exact ⟨rfl, rfl⟩
    | cons b r ih => simp [PyData.canLayAll0, PyData.canLay0, PyData.depthAll, PyData.depth, ih.1, ih.2]
  have h1 : PyData.canLay0 (.list (bs.map PyData.bool)) = true := by simpa [PyData.canLay0] using h.1
  refine ⟨?_, PySem.SeqAt.eqv_refl _ h1⟩
  simp [SeqAt.shaped, PyData.depth, h.2, h1]
def due8 (cl odd : Int) : List Bool := if 3 < cl ∧ odd = 1 then oneOf (kj cl) else []
def due10 (a b : Int) (ns : List Int) (cl odd : Int) : List Bool := if cl ≤ 3 ∧ ¬ okR a b ns then oneOf 1 else due8 cl odd
theorem due_eq (a b : Int) (ns : List Int) (cl odd : Int) : kindsOf (dueJ a b ns cl odd) = if okL a b then due10 a b ns cl odd else oneOf 0 := by
  unfold dueJ
  by_cases h1 : okL a b
  · rw [if_pos h1, if_pos h1]
    unfold due10 due8
    by_cases h2 : cl ≤ 3
    · rw [if_pos h2]
      by_cases h3 : okR a b ns
      · rw [if_pos h3, if_neg (fun h => h.2 h3), if_neg (fun h => by omega)]; rfl
      · rw [if_neg h3, if_pos ⟨h2, h3⟩]; rfl
    · by_cases h3 : odd = 1
      · rw [if_neg h2, if_pos h3, if_neg (fun h => h2 h.1), if_pos ⟨by omega, h3⟩]; rfl
      · rw [if_neg h2, if_neg h3, if_neg (fun h => h2 h.1), if_neg (fun h => h3 h.2)]; rfl
  · rw [if_neg h1, if_neg h1]; rfl
theorem sc_law_cell_at : FnScope ["script", "k"] ["script", "k"] (defScope (top 41)) := ⟨rfl, rfl, rfl, by decide +kernel, rfl, by decide +kernel, by decide +kernel⟩
theorem ok_law_cell_at (d : DefAt K mg "_law_cell_at" (top 41) ["script", "k"]) (T_z_len : mg "len" = none) : Has P w K mg base "_law_cell_at" 1 ["script", "k"] (spCell K) := by
  refine d.has sc_law_cell_at (fun vs H Q E h => ?_) (fun f cdv A outer s H vs Q E hr h => ?_)
  · obtain ⟨a, ns, k, rfl, _⟩ := h; rfl
  obtain ⟨a, ns, k, rfl, hS, h0, q⟩ := h
  have S := sc_law_cell_at
  have hu := hr.units
  refine ⟨_, (pss_cons (ps_if (pt_cmpR op_lt (pv 1) (pe_callB (call_lenK (K := K)) rfl T_z_len bt_len (pa_cons (pv 0) pa_nil star_Name)) (nomark _)) (pss_one (ps_ret (pe_ix (ix_seqK (K := K)) (pv 0) (pv 1) (fun _ _ => rfl)))) pss_nil)
 (pss_one (ps_ret pe_int))), ?_⟩
  walk_at "rd"
  refine ⟨a, _, rfl, .inl hS, ?_⟩
  walk_at "rd"
  have hl : (I2 ns).length = ns.length := List.length_map _
  refine ite2 (fun c => ?_) (fun c => ?_)
  · have c' := of_decide_eq_true c
    rw [hl] at c'
    walk_at "rd"
    exact rd_ixL hS (at_cell h0 c') q
  · have c' : ¬ k < _ := of_decide_eq_false (Bool.eq_false_iff.mpr c)
    rw [hl] at c'
    walk_at "rd"
    unfold cell at q
    rw [if_neg c'] at q
    exact q
theorem sc_law_letters : FnScope ["cell", "low"] ["cell"] (defScope (top 46)) := ⟨rfl, rfl, rfl, by decide +kernel, rfl, by decide +kernel, by decide +kernel⟩
theorem ok_law_letters (d : DefAt K mg "_law_letters" (top 46) ["cell"])  : Has P w K mg base "_law_letters" 1 ["cell"] (spLetters) := by
  refine d.has sc_law_letters (fun vs H Q E h => ?_) (fun f cdv A outer s H vs Q E hr h => ?_)
  · obtain ⟨x, rfl, _⟩ := h; rfl
  obtain ⟨x, rfl, q⟩ := h
  have S := sc_law_letters
  have hu := hr.units
  refine ⟨_, (pss_cons (ps_set (i := 1) S.nd rfl (by first | exact Or.inl rfl | exact Or.inr rfl) (pe_op op_addA pe_int (pe_op op_mod (pv 0) pe_int)))
 (pss_one (ps_ret (pe_tup (pa_cons (pv 1) (pa_cons (pe_op op_addA (pe_op op_addA (pv 1) pe_int) (pe_op op_mod (pe_op op_fdiv (pv 0) pe_int) (pe_op op_sub pe_int (pv 1)))) pa_nil star_BinOp) star_Name))))), ?_⟩
  walk_at "rd"
  refine rd_mod (by omega) ?_
  walk_at "rd"
  refine ⟨(by show 2 ≤ sizeLine; decide), fun t ht => ?_⟩
  have h1 : 0 ≤ x / 8 % (9 - (1 + x % 8)) := Int.emod_nonneg _ (by omega)
  have h2 : x / 8 % (9 - (1 + x % 8)) < 9 - (1 + x % 8) := Int.emod_lt_of_pos _ (by omega)
  exact q t _ _ _ (New.one ht _) ⟨by omega, by omega, by omega⟩
theorem sc_law_digits : FnScope ["letters", "cell", "many", "row", "k"] ["letters", "cell", "many"] (defScope (top 48)) := ⟨rfl, rfl, rfl, by decide +kernel, rfl, by decide +kernel, by decide +kernel⟩
theorem ok_law_digits (d : DefAt K mg "_law_digits" (top 48) ["letters", "cell", "many"]) (T_z_range : mg "range" = none) : Has P w K mg base "_law_digits" 1 ["letters", "cell", "many"] (spDigits K) := by
  refine d.has sc_law_digits (fun vs H Q E h => ?_) (fun f cdv A outer s H vs Q E hr h => ?_)
  · obtain ⟨t, x, m, a, b, rfl, _⟩ := h; rfl
  obtain ⟨t, x, m, a, b, rfl, hT, h0, h1, q⟩ := h
  have S := sc_law_digits
  have hu := hr.units
  refine ⟨_, (pss_cons (ps_set (i := 3) S.nd rfl (by first | exact Or.inl rfl | exact Or.inr rfl) (pe_lst pa_nil))
 (pss_cons (ps_for PassesOwn.leaving rfl (pi_range1 rfl T_z_range (pa_cons (pv 2) pa_nil star_Name)) (pg_name (i := 4) S.nd rfl (by first | exact Or.inl rfl | exact Or.inr rfl)) (pss_cons (ps_expr (pe_bmK (K := K) PySem.F.plainAttrs_list PySem.F.slot_list_append PySem.F.type_list_append mt_append (pv 3) (pa_cons (pe_ix (ix_seqK (K := K)) (pv 0) (pe_op op_mod (pv 1) pe_int) (fun _ _ => rfl)) pa_nil star_Subscript)))
 (pss_one (ps_set (i := 1) S.nd rfl (by first | exact Or.inl rfl | exact Or.inr rfl) (pe_op op_fdiv (pv 1) pe_int)))))
 (pss_one (ps_ret (pv 3))))), ?_⟩
  walk_at "rd"
  refine ⟨by decide, fun p hp => ?_⟩
  walk_at "rd"
  refine ⟨_, rfl, by omega, by omega, for_range (fun i σ H' => ∃ (y : Int) (kv : Option V) (xs : List Int), σ = [some (.ref t), some (.int y), some (.int m), some (.ref p), kv] ∧ Same H H' ∧ H' p = some (.lst (I2 xs)) ∧ xs.length = i ∧ ∀ z ∈ xs, z = a ∨ z = b) ?_ ?_ ?_⟩
  · exact ⟨x, none, [], rfl, same_new hp _, upd_same, rfl, fun z hz => nomatch hz⟩
  · rintro i σ H' hi ⟨y, kv, xs, rfl, hs, hpx, hl, hm⟩
    walk_at "rd"
    refine ⟨.inl ⟨rfl, _, SqL.of hpx⟩, ?_⟩
    walk_at "rd"
    refine rd_ixT (hs.seqT hT) (two_at (mod2 y)) ?_
    walk_at "rd"
    refine rd_app hpx (small' (by rw [List.length_map]; omega)) ?_
    walk_at "rd"
    refine ⟨y / 2, _, xs ++ [if y % 2 = 0 then a else b], rfl, same_upd hs hp, ?_, by simp [hl], fun z hz => ?_⟩
    · rw [upd_same]
      simp only [I2, List.map_append, List.map_cons, List.map_nil]
      split <;> rfl
    · rcases List.mem_append.mp hz with hz | hz
      · exact hm z hz
      · have : z = if y % 2 = 0 then a else b := by simpa using hz
        rw [this]; split
        · exact .inl rfl
        · exact .inr rfl
  · rintro σ H' ⟨y, kv, xs, rfl, hs, hpx, hl, hm⟩
    walk_at "rd"
    exact q p H' xs ⟨hs, hp, hpx⟩ (by omega) hm
theorem sc_law_one : FnScope ["k"] ["k"] (defScope (top 44)) := ⟨rfl, rfl, rfl, by decide +kernel, rfl, by decide +kernel, by decide +kernel⟩
theorem ok_law_one (d : DefAt K mg "_law_one" (top 44) ["k"]) (T_z_range : mg "range" = none) : Has P w K mg base "_law_one" 1 ["k"] (spOne) := by
  refine d.has sc_law_one (fun vs H Q E h => ?_) (fun f cdv A outer s H vs Q E hr h => ?_)
  · obtain ⟨x, rfl, _⟩ := h; rfl
  obtain ⟨x, rfl, q⟩ := h
  have S := sc_law_one
  have hu := hr.units
  refine ⟨_, (pss_one (ps_ret (pe_op op_addA (pe_comp (fr := ["k"]) (ix := [0]) rfl (compsc (by decide +kernel)) (pi_range1 rfl T_z_range (pa_cons pe_int pa_nil star_Constant)) (fun _ _ _ _ _ => pts_nil) (fun _ _ _ _ _ => (pe_cmpR (op_eqK (K := K) hu) (pv 1) (pv 0) (nomark _)))) (pe_lst (pa_cons pe_bl pa_nil star_Constant))))), ?_⟩
  walk_at "rd"
  refine ⟨6, rfl, by decide, by decide, fun acc ha => comp_range (n := 6) (fun i => .bl (decide (x = (i : Int)))) ha (by decide) (fun i H3 R k => k) (fun i H3 hi hs R k => ?_) (fun H2 hn => ?_)⟩
  · walk_at "rd"
    have e : decide (x = 0 + (i : Int)) = decide (x = (i : Int)) := by rw [Int.zero_add]
    rw [e]
    exact k H3 fun _ _ z => z
  · walk_at "rd"
    refine ⟨(by show 1 ≤ sizeLine; decide), fun p hp => ?_⟩
    have hp' := (same_new hp (.lst [.bl true])) _ _ hn.here
    refine rd_cat hp' upd_same (by show 6 + 1 ≤ sizeLine; decide) fun r hr' => ?_
    refine q r _ ⟨(hn.same.trans (same_new hp _)).trans (same_new hr' _), ?_, ?_⟩
    · exact hn.same.free ((same_new hp _).free hr')
    · rw [upd_same]; rfl
theorem sc_check_letters : FnScope ["letters"] ["letters"] (defScope (top 15)) := ⟨rfl, rfl, rfl, by decide +kernel, rfl, by decide +kernel, by decide +kernel⟩
theorem ok_check_letters (d : DefAt K mg "check_letters" (top 15) ["letters"]) (T_z_len : mg "len" = none) {tk_LEAST_NUMBER : Tok} (T_c_LEAST_NUMBER : mg "LEAST_NUMBER" = some (.int 1 tk_LEAST_NUMBER)) {tk_GREATEST_NUMBER : Tok} (T_c_GREATEST_NUMBER : mg "GREATEST_NUMBER" = some (.int 9 tk_GREATEST_NUMBER)) (T_m_NoLetters : mg "NoLetters" = some (.ref (c 0))) (T_x_NoLetters : PySem.W.excIn K (c 0) bmVE "ValueError.__new__" = true) : Has P w K mg base "check_letters" 1 ["letters"] (spCheckL K c) := by
  refine d.has sc_check_letters (fun vs H Q E h => ?_) (fun f cdv A outer s H vs Q E hr h => ?_)
  · obtain ⟨t, a, b, rfl, _⟩ := h; rfl
  obtain ⟨t, a, b, rfl, hT, hab, q1, q2⟩ := h
  obtain ⟨hab1, hab2, hab3, hab4⟩ := hab
  have S := sc_check_letters
  have hu := hr.units
  refine ⟨_, (pss_one (ps_if (PW.pt (pw_or (pt_cmpR (op_neK (K := K) hu) (pe_callB (call_lenK (K := K)) rfl T_z_len bt_len (pa_cons (pv 0) pa_nil star_Name)) pe_int (nomark _)) (pw_or1 (pt_not (pt_chain3 op_le op_lt op_le (pe_glob (v := .int 1) rfl T_c_LEAST_NUMBER ⟨_, rfl⟩) (pe_ix (ix_seqK (K := K)) (pv 0) pe_int (fun _ _ => rfl)) (pe_ix (ix_seqK (K := K)) (pv 0) pe_int (fun _ _ => rfl)) (pe_glob (v := .int 9) rfl T_c_GREATEST_NUMBER ⟨_, rfl⟩)))))) (pss_one (ps_raise rfl rfl T_m_NoLetters T_x_NoLetters throws_cx (pa_cons (pe_fstr (.cons pe_str (.cons (pe_reprT (pv 0) hr.gd hu) .nil))) pa_nil star_JoinedStr))) pss_nil)), ?_⟩
  have bad : ¬ okL a b → tRaise (tCons (tJoin [tC (.str "no letters: "), tAnyS (tVar 0) fun x H => ∃ a i j, x = .ref a ∧ SqT K H a [.int i, .int j] ∧ i.natAbs < 2 ^ 64 ∧ j.natAbs < 2 ^ 64] 0) tNil) (c 0) E { nx := fun _ H' => Q .non H', rt := Q } (start ["letters"] [.ref t]) H := fun hn => by
    walk_at "rd"
    refine ⟨_, 100, rfl, by decide, by decide, ?_⟩
    walk_at "rd"
    refine ⟨⟨t, a, b, rfl, hT, by omega, by omega⟩, fun z hz => ?_⟩
    refine ⟨z, 5000, rfl, hz, by decide, ?_⟩
    walk_at "rd"
    intro z' hz'
    walk_at "rd"
    exact ⟨(by show 1 ≤ sizeLine; decide), q2 hn⟩
  walk_at "rd"
  refine ⟨t, _, rfl, .inr hT, ?_⟩
  walk_at "rd"
  refine iteF ?_
  walk_at "rd"
  refine rd_ixT hT two_at0 ?_
  walk_at "rd"
  refine ite2 (fun c1 => ?_) (fun c1 => ?_)
  · have c1 := of_decide_eq_true c1
    walk_at "rd"
    refine rd_ixT hT two_at1 ?_
    walk_at "rd"
    refine ite2 (fun c2 => ?_) (fun c2 => ?_)
    · have c2 := of_decide_eq_true c2
      walk_at "rd"
      refine ite2 (fun c3 => ?_) (fun c3 => ?_)
      · refine bad fun h => ?_
        simp only [Bool.not_eq_true', decide_eq_false_iff_not] at c3
        exact c3 h.2.2
      · simp only [Bool.not_eq_true', decide_eq_false_iff_not, Classical.not_not] at c3
        walk_at "rd"
        exact q1 ⟨c1, c2, c3⟩
    · have c2 := of_decide_eq_false (Bool.eq_false_iff.mpr c2)
      walk_at "rd"
      exact iteT (bad fun h => c2 h.2.1)
  · have c1 := of_decide_eq_false (Bool.eq_false_iff.mpr c1)
    walk_at "rd"
    exact iteT (bad fun h => c1 h.1)
theorem sc_check_row : FnScope ["letters", "row", "sign"] ["letters", "row"] (defScope (top 16)) := ⟨rfl, rfl, rfl, by decide +kernel, rfl, by decide +kernel, by decide +kernel⟩
theorem ok_check_row (d : DefAt K mg "check_row" (top 16) ["letters", "row"]) (T_check_letters : Has P w K mg base "check_letters" 1 ["letters"] (spCheckL K c)) (T_z_len : mg "len" = none) {tk_MOST_SIGNS : Tok} (T_c_MOST_SIGNS : mg "MOST_SIGNS" = some (.int 400 tk_MOST_SIGNS)) (T_m_NoRow : mg "NoRow" = some (.ref (c 1))) (T_x_NoRow : PySem.W.excIn K (c 1) bmVE "ValueError.__new__" = true) : Has P w K mg base "check_row" 2 ["letters", "row"] (spCheckR K c) := by
  refine d.has sc_check_row (fun vs H Q E h => ?_) (fun f cdv A outer s H vs Q E hr h => ?_)
  · obtain ⟨t, r, a, b, ns, rfl, _⟩ := h; rfl
  obtain ⟨t, r, a, b, ns, rfl, ⟨hT, hS, hab, hz, hb⟩, q, e0, e1⟩ := h
  have S := sc_check_row
  have hu := hr.units
  refine ⟨_, (pss_cons (ps_expr (pe_callN T_check_letters hr rfl pass_cx (pa_cons (pv 0) pa_nil star_Name)))
 (pss_cons (ps_if (pt_cmpR op_gt (pe_callB (call_lenK (K := K)) rfl T_z_len bt_len (pa_cons (pv 1) pa_nil star_Name)) (pe_glob (v := .int 400) rfl T_c_MOST_SIGNS ⟨_, rfl⟩) (nomark _)) (pss_one (ps_raise rfl rfl T_m_NoRow T_x_NoRow throws_cx (pa_cons (pe_fstr (.cons pe_str (.cons (pe_fmtI (pe_glob (v := .int 400) rfl T_c_MOST_SIGNS ⟨_, rfl⟩)) (.cons pe_str .nil)))) pa_nil star_JoinedStr))) pss_nil)
 (pss_one (ps_for PassesOwn.leaving rfl (pi_listK (K := K) (pv 1)) (pg_name (i := 2) S.nd rfl (by first | exact Or.inl rfl | exact Or.inr rfl)) (pss_one (ps_if (pt_cmpR (op_notInK (K := K)) (pv 2) (pv 0) (by with_unfolding_all rfl)) (pss_one (ps_raise rfl rfl T_m_NoRow T_x_NoRow throws_cx (pa_cons (pe_fstr (.cons pe_str (.cons (pe_reprI (pv 2)) .nil))) pa_nil star_JoinedStr))) pss_nil)))))), ?_⟩
  have l1 : (I2 ns).length = ns.length := List.length_map _
  walk_at "rd"
  refine ⟨t, a, b, rfl, hT, hab, fun hok => ?_, e0⟩
  walk_at "rd"
  refine ⟨r, _, rfl, .inl hS, ?_⟩
  walk_at "rd"
  rw [l1]
  refine ite2 (fun c => ?_) (fun c => ?_)
  · have c := of_decide_eq_true c
    walk_at "rd"
    refine ⟨_, 100, rfl, by decide, by decide, ?_⟩
    walk_at "rd"
    refine ⟨⟨400, rfl, by decide⟩, fun z hz' => ⟨z, 5000, rfl, hz', by decide, ?_⟩⟩
    walk_at "rd"
    refine ⟨_, 100, rfl, by decide, by decide, ?_⟩
    walk_at "rd"
    intro z' hz''
    walk_at "rd"
    exact ⟨(by show 1 ≤ sizeLine; decide), e1 hok fun h => by have := h.1; omega⟩
  · have c := of_decide_eq_false (Bool.eq_false_iff.mpr c)
    walk_at "rd"
    refine ⟨r, rfl, ⟨_, hS⟩, for_list (xs := I2 ns) (fun i σ H' => H' = H ∧ (∃ kv, σ = [some (.ref t), some (.ref r), kv]) ∧ ∀ x ∈ ns.take i, x = a ∨ x = b) ?_ ?_ ?_ ?_⟩
    · exact ⟨rfl, ⟨none, rfl⟩, fun x hx => nomatch hx⟩
    · rintro i σ H' hi ⟨rfl, _⟩
      exact hS
    · rintro i x σ H' hx ⟨rfl, ⟨kv, rfl⟩, hm⟩
      obtain ⟨n, hn, rfl⟩ := int_at hx
      have hmem := List.mem_of_getElem? hn
      walk_at "rd"
      refine rd_notIn hT ?_
      walk_at "rd"
      refine ite2 (fun c => ?_) (fun c => ?_)
      · have c : ¬ (n = a ∨ n = b) := by simpa only [Bool.not_eq_true', decide_eq_false_iff_not] using c
        walk_at "rd"
        refine ⟨_, 100, rfl, by decide, by decide, ?_⟩
        walk_at "rd"
        refine ⟨⟨n, rfl, by have := hb n hmem; omega⟩, fun z hz' => ⟨z, 5000, rfl, hz', by decide, ?_⟩⟩
        walk_at "rd"
        intro z' hz''
        walk_at "rd"
        exact ⟨(by show 1 ≤ sizeLine; decide), e1 hok fun h => c (h.2 n hmem)⟩
      · have c : n = a ∨ n = b := by simpa only [Bool.not_eq_true', decide_eq_false_iff_not, Classical.not_not] using c
        walk_at "rd"
        refine ⟨rfl, ⟨_, rfl⟩, fun x hx => ?_⟩
        rw [take_snoc hn] at hx
        rcases List.mem_append.mp hx with hx | hx
        · exact hm x hx
        · rw [List.mem_singleton.mp hx]; exact c
    · rintro σ H' ⟨rfl, ⟨kv, rfl⟩, hm⟩
      rw [l1, List.take_length] at hm
      exact q hok ⟨by omega, hm⟩
theorem sc_other_sign : FnScope ["letters", "sign"] ["letters", "sign"] (defScope (top 21)) := ⟨rfl, rfl, rfl, by decide +kernel, rfl, by decide +kernel, by decide +kernel⟩
theorem ok_other_sign (d : DefAt K mg "other_sign" (top 21) ["letters", "sign"])  : Has P w K mg base "other_sign" 1 ["letters", "sign"] (spOther K) := by
  refine d.has sc_other_sign (fun vs H Q E h => ?_) (fun f cdv A outer s H vs Q E hr h => ?_)
  · obtain ⟨t, a, b, x, rfl, _⟩ := h; rfl
  obtain ⟨t, a, b, x, rfl, hT, q⟩ := h
  have S := sc_other_sign
  have hu := hr.units
  refine ⟨_, (pss_one (ps_ret (pe_ifExp (pt_cmpR (op_eqK (K := K) hu) (pv 1) (pe_ix (ix_seqK (K := K)) (pv 0) pe_int (fun _ _ => rfl)) (nomark _)) (pe_ix (ix_seqK (K := K)) (pv 0) pe_int (fun _ _ => rfl)) (pe_ix (ix_seqK (K := K)) (pv 0) pe_int (fun _ _ => rfl))))), ?_⟩
  walk_at "rd"
  refine rd_ixT hT two_at0 ?_
  walk_at "rd"
  refine ite2 (fun c => ?_) (fun c => ?_)
  · have c := of_decide_eq_true c
    walk_at "rd"
    refine rd_ixT hT two_at1 ?_
    rw [if_pos c] at q
    exact q
  · have c := of_decide_eq_false (Bool.eq_false_iff.mpr c)
    walk_at "rd"
    refine rd_ixT hT two_at0 ?_
    rw [if_neg c] at q
    exact q
theorem sc_run_lengths : FnScope ["row", "told", "last", "sign"] ["row"] (defScope (top 22)) := ⟨rfl, rfl, rfl, by decide +kernel, rfl, by decide +kernel, by decide +kernel⟩
theorem ok_run_lengths (d : DefAt K mg "run_lengths" (top 22) ["row"])  : Has P w K mg base "run_lengths" 1 ["row"] (spLens K) := by
  refine d.has sc_run_lengths (fun vs H Q E h => ?_) (fun f cdv A outer s H vs Q E hr h => ?_)
  · obtain ⟨r, ns, rfl, _⟩ := h; rfl
  obtain ⟨r, ns, rfl, hS, hz, q⟩ := h
  have S := sc_run_lengths
  have hu := hr.units
  refine ⟨_, (pss_cons (ps_set (i := 1) S.nd rfl (by first | exact Or.inl rfl | exact Or.inr rfl) (pe_lst pa_nil))
 (pss_cons (ps_set (i := 2) S.nd rfl (by first | exact Or.inl rfl | exact Or.inr rfl) pe_non)
 (pss_cons (ps_for PassesOwn.leaving rfl (pi_listK (K := K) (pv 0)) (pg_name (i := 3) S.nd rfl (by first | exact Or.inl rfl | exact Or.inr rfl)) (pss_cons (ps_if (pt_cmpR (op_eqK (K := K) hu) (pv 3) (pv 2) (nomark _)) (pss_one (ps_augS (pv 1) (pe_un un_neg pe_int) (get_listK (K := K)) pe_int ip_add set_list)) (pss_one (ps_expr (pe_bmK (K := K) PySem.F.plainAttrs_list PySem.F.slot_list_append PySem.F.type_list_append mt_append (pv 1) (pa_cons pe_int pa_nil star_Constant)))))
 (pss_one (ps_set (i := 2) S.nd rfl (by first | exact Or.inl rfl | exact Or.inr rfl) (pv 3)))))
 (pss_one (ps_ret (pv 1)))))), ?_⟩
  have l1 : (I2 ns).length = ns.length := List.length_map _
  walk_at "rd"
  refine ⟨by decide, fun p hp => ?_⟩
  have s0 := same_new hp (.lst [])
  walk_at "rd"
  refine ⟨r, rfl, ⟨_, s0.seq hS⟩, for_list (xs := I2 ns) (fun i σ H' => (∃ kv, σ = [some (.ref r), some (.ref p), some (match (ns.take i).getLast? with | some z => V.int z | none => V.non), kv]) ∧ Same H H' ∧ H' p = some (.lst (I2 (lens (ns.take i))))) ?_ ?_ ?_ ?_⟩
  · exact ⟨⟨none, rfl⟩, s0, upd_same⟩
  · rintro i σ H' hi ⟨_, hs, _⟩
    exact hs.seq hS
  · rintro i x σ H' hx ⟨⟨kv, rfl⟩, hs, hpx⟩
    obtain ⟨n, hn, rfl⟩ := int_at hx
    have hi : i < ns.length := (List.getElem?_eq_some_iff.mp hn).1
    have tk := take_snoc hn
    have htk := take_len (Nat.le_of_lt hi)
    have hlen := lens_length (ns.take i)
    have lst : (ns.take (i + 1)).getLast? = some n := by rw [tk]; simp
    have ap : ∀ (hne : (ns.take i).getLast? ≠ some n), New H (upd H' p (.lst (I2 (lens (ns.take i)) ++ [.int 1]))) p (.lst (I2 (lens (ns.take (i + 1))))) := fun hne => by
      refine ⟨same_upd hs hp, hp, ?_⟩
      rw [upd_same, tk, lens_snoc, if_neg hne]
      simp [I2]
    walk_at "rd"
    generalize hl : (ns.take i).getLast? = la at ap ⊢
    cases la with
    | none =>
      refine .inl ⟨rfl, ?_⟩
      walk_at "rd"
      refine iteF ?_
      walk_at "rd"
      refine ⟨.inl ⟨rfl, _, SqL.of hpx⟩, ?_⟩
      walk_at "rd"
      refine rd_app hpx (small' (by rw [List.length_map]; omega)) ?_
      walk_at "rd"
      have z := ap (fun z => nomatch z)
      exact ⟨⟨_, by rw [lst]; rfl⟩, z.same, z.here⟩
    | some m =>
      walk_at "rd"
      refine ite2 (fun c => ?_) (fun c => ?_)
      · have c := of_decide_eq_true c
        have hne : lens (ns.take i) ≠ [] := lens_ne_nil (fun z => by rw [z] at hl; simp at hl)
        obtain ⟨v, b1, b2, b3⟩ := at_last hne
        walk_at "rd"
        refine ⟨p, _, _, _, rfl, rfl, SqL.of hpx, b1, ?_⟩
        walk_at "rd"
        refine ⟨p, _, _, _, rfl, rfl, hpx, b2, ?_⟩
        walk_at "rd"
        refine ⟨⟨_, by rw [lst]; rfl⟩, same_upd hs hp, ?_⟩
        rw [upd_same, tk, lens_snoc, if_pos (by rw [hl, c]), b3]
      · have c := of_decide_eq_false (Bool.eq_false_iff.mpr c)
        walk_at "rd"
        refine ⟨.inl ⟨rfl, _, SqL.of hpx⟩, ?_⟩
        walk_at "rd"
        refine rd_app hpx (small' (by rw [List.length_map]; omega)) ?_
        walk_at "rd"
        have z := ap (fun z => c (Option.some.inj z).symm)
        exact ⟨⟨_, by rw [lst]; rfl⟩, z.same, z.here⟩
  · rintro σ H' ⟨⟨kv, rfl⟩, hs, hpx⟩
    walk_at "rd"
    refine q p H' ⟨hs, hp, ?_⟩
    rw [hpx, l1, List.take_length]
theorem sc_law_kind : FnScope ["e", "kinds"] ["e"] (defScope (top 43)) := ⟨rfl, rfl, rfl, by decide +kernel, rfl, by decide +kernel, by decide +kernel⟩
theorem ok_law_kind (d : DefAt K mg "_law_kind" (top 43) ["e"]) (T_z_isinstance : mg "isinstance" = none) (T_m_NoLetters : mg "NoLetters" = some (.ref (c 0))) (T_m_NoRow : mg "NoRow" = some (.ref (c 1))) (T_m_NoLengths : mg "NoLengths" = some (.ref (c 2))) (T_m_NoSign : mg "NoSign" = some (.ref (c 3))) (T_m_TooMany : mg "TooMany" = some (.ref (c 4))) (T_m_BadText : mg "BadText" = some (.ref (c 5))) (T_z_ValueError : mg "ValueError" = none) (hK : Kits K c) : HasH P w K mg base "_law_kind" 1 ["e"] (spKind K c) := by
  refine d.hasH sc_law_kind (fun vs H Q E h => ?_) (fun f cdv A outer s H vs Q E hr h => ?_)
  · obtain ⟨a, j, rfl, _⟩ := h; rfl
  obtain ⟨a, j, rfl, hj, ha, q⟩ := h
  have S := sc_law_kind
  refine ⟨_, (pss_cons (ps_set (i := 1) S.nd rfl (by first | exact Or.inl rfl | exact Or.inr rfl) (pe_lst (pa_cons (pe_callB (call_isiK (K := K)) rfl T_z_isinstance bt_isinstance (pa_cons (pv 0) (pa_cons (pe_glob (v := .ref (c 0)) rfl T_m_NoLetters rfl) pa_nil))) (pa_cons (pe_callB (call_isiK (K := K)) rfl T_z_isinstance bt_isinstance (pa_cons (pv 0) (pa_cons (pe_glob (v := .ref (c 1)) rfl T_m_NoRow rfl) pa_nil))) (pa_cons (pe_callB (call_isiK (K := K)) rfl T_z_isinstance bt_isinstance (pa_cons (pv 0) (pa_cons (pe_glob (v := .ref (c 2)) rfl T_m_NoLengths rfl) pa_nil))) (pa_cons (pe_callB (call_isiK (K := K)) rfl T_z_isinstance bt_isinstance (pa_cons (pv 0) (pa_cons (pe_glob (v := .ref (c 3)) rfl T_m_NoSign rfl) pa_nil))) pa_nil star_Call) star_Call) star_Call) star_Call)))
 (pss_one (ps_ret (pe_op op_addA (pv 1) (pe_lst (pa_cons (pe_callB (call_isiK (K := K)) rfl T_z_isinstance bt_isinstance (pa_cons (pv 0) (pa_cons (pe_glob (v := .ref (c 4)) rfl T_m_TooMany rfl) pa_nil))) (pa_cons (pe_callB (call_isiK (K := K)) rfl T_z_isinstance bt_isinstance (pa_cons (pv 0) (pa_cons (pe_glob (v := .ref (c 5)) rfl T_m_BadText rfl) pa_nil))) (pa_cons (pe_callB (call_isiK (K := K)) rfl T_z_isinstance bt_isinstance (pa_cons (pv 0) (pa_cons (pe_bltn (v := .ty "ValueError") rfl T_z_ValueError bt_ValueError rfl) pa_nil))) pa_nil star_Call) star_Call) star_Call)))))), ?_⟩
  walk_at "rd"
  refine ⟨_, _, _, _, _, rfl, rfl, .inr ⟨a, c j, rfl, rfl, ha, hK.err j hj⟩, hK.own j hj 0 (by decide), ?_⟩
  walk_at "rd"
  refine ⟨_, _, _, _, _, rfl, rfl, .inr ⟨a, c j, rfl, rfl, ha, hK.err j hj⟩, hK.own j hj 1 (by decide), ?_⟩
  walk_at "rd"
  refine ⟨_, _, _, _, _, rfl, rfl, .inr ⟨a, c j, rfl, rfl, ha, hK.err j hj⟩, hK.own j hj 2 (by decide), ?_⟩
  walk_at "rd"
  refine ⟨_, _, _, _, _, rfl, rfl, .inr ⟨a, c j, rfl, rfl, ha, hK.err j hj⟩, hK.own j hj 3 (by decide), ?_⟩
  walk_at "rd"
  refine ⟨(by show 4 ≤ sizeLine; decide), fun p hp => ?_⟩
  have s1 := same_new hp (.lst [.bl (decide (j = 0)), .bl (decide (j = 1)), .bl (decide (j = 2)), .bl (decide (j = 3))])
  walk_at "rd"
  refine ⟨_, _, _, _, _, rfl, rfl, .inr ⟨a, c j, rfl, rfl, s1 _ _ ha, hK.err j hj⟩, hK.own j hj 4 (by decide), ?_⟩
  walk_at "rd"
  refine ⟨_, _, _, _, _, rfl, rfl, .inr ⟨a, c j, rfl, rfl, s1 _ _ ha, hK.err j hj⟩, hK.own j hj 5 (by decide), ?_⟩
  walk_at "rd"
  refine ⟨_, _, _, _, _, rfl, rfl, .inr ⟨a, c j, rfl, rfl, s1 _ _ ha, hK.err j hj⟩, hK.val j hj, ?_⟩
  walk_at "rd"
  refine ⟨(by show 3 ≤ sizeLine; decide), fun p2 hp2 => ?_⟩
  have s2 := same_new hp2 (.lst [.bl (decide (j = 4)), .bl (decide (j = 5)), .bl true])
  refine rd_cat (s2 _ _ upd_same) upd_same (by show 4 + 3 ≤ sizeLine; decide) fun r hr' => ?_
  have s3 := same_new hr' (.lst ([.bl (decide (j = 0)), .bl (decide (j = 1)), .bl (decide (j = 2)), .bl (decide (j = 3))] ++ [.bl (decide (j = 4)), .bl (decide (j = 5)), .bl true]))
  refine q r _ ⟨(s1.trans s2).trans s3, (s1.trans s2).free hr', ?_⟩
  rw [upd_same]
  have e : ∀ i : Nat, decide ((j : Int) = (i : Int)) = decide (j = i) := fun i => by
    rw [Bool.eq_iff_iff, decide_eq_true_iff, decide_eq_true_iff]; omega
  have e0 := e 0
  have e1 := e 1
  have e2 := e 2
  have e3 := e 3
  have e4 := e 4
  have e5 := e 5
  simp only [oneOf, List.map, List.cons_append, List.nil_append]
  rw [← e0, ← e1, ← e2, ← e3, ← e4, ← e5]
  rfl
theorem sc_check_sign : FnScope ["letters", "sign"] ["letters", "sign"] (defScope (top 17)) := ⟨rfl, rfl, rfl, by decide +kernel, rfl, by decide +kernel, by decide +kernel⟩
theorem ok_check_sign (d : DefAt K mg "check_sign" (top 17) ["letters", "sign"]) (T_check_letters : Has P w K mg base "check_letters" 1 ["letters"] (spCheckL K c)) (T_m_NoSign : mg "NoSign" = some (.ref (c 3))) (T_x_NoSign : PySem.W.excIn K (c 3) bmVE "ValueError.__new__" = true) : Has P w K mg base "check_sign" 2 ["letters", "sign"] (spCheckS K c) := by
  refine d.has sc_check_sign (fun vs H Q E h => ?_) (fun f cdv A outer s H vs Q E hr h => ?_)
  · obtain ⟨t, a, b, x, rfl, _⟩ := h; rfl
  obtain ⟨t, a, b, x, rfl, hT, hab, hx, q, e0, e3⟩ := h
  have S := sc_check_sign
  have hu := hr.units
  refine ⟨_, (pss_cons (ps_expr (pe_callN T_check_letters hr rfl pass_cx (pa_cons (pv 0) pa_nil star_Name)))
 (pss_one (ps_if (pt_cmpR (op_notInK (K := K)) (pv 1) (pv 0) (by with_unfolding_all rfl)) (pss_one (ps_raise rfl rfl T_m_NoSign T_x_NoSign throws_cx (pa_cons (pe_fstr (.cons pe_str (.cons (pe_reprI (pv 1)) .nil))) pa_nil star_JoinedStr))) pss_nil))), ?_⟩
  walk_at "rd"
  refine ⟨t, a, b, rfl, hT, hab, fun hok => ?_, e0⟩
  walk_at "rd"
  refine rd_notIn hT ?_
  walk_at "rd"
  refine ite2 (fun cc => ?_) (fun cc => ?_)
  · have cc : ¬ (x = a ∨ x = b) := by simpa only [Bool.not_eq_true', decide_eq_false_iff_not] using cc
    walk_at "rd"
    refine ⟨_, 100, rfl, by decide, by decide, ?_⟩
    walk_at "rd"
    refine ⟨⟨x, rfl, by omega⟩, fun z hz' => ⟨z, 5000, rfl, hz', by decide, ?_⟩⟩
    walk_at "rd"
    intro z' hz''
    walk_at "rd"
    exact ⟨(by show 1 ≤ sizeLine; decide), e3 hok cc⟩
  · have cc : x = a ∨ x = b := by simpa only [Bool.not_eq_true', decide_eq_false_iff_not, Classical.not_not] using cc
    walk_at "rd"
    exact q hok cc
theorem sc_check_lengths : FnScope ["some", "length"] ["some"] (defScope (top 18)) := ⟨rfl, rfl, rfl, by decide +kernel, rfl, by decide +kernel, by decide +kernel⟩
theorem ok_check_lengths (d : DefAt K mg "check_lengths" (top 18) ["some"]) (T_z_len : mg "len" = none) {tk_MOST_LENGTHS : Tok} (T_c_MOST_LENGTHS : mg "MOST_LENGTHS" = some (.int 60 tk_MOST_LENGTHS)) (T_m_NoLengths : mg "NoLengths" = some (.ref (c 2))) (T_x_NoLengths : PySem.W.excIn K (c 2) bmVE "ValueError.__new__" = true) {tk_LEAST_NUMBER : Tok} (T_c_LEAST_NUMBER : mg "LEAST_NUMBER" = some (.int 1 tk_LEAST_NUMBER)) {tk_GREATEST_NUMBER : Tok} (T_c_GREATEST_NUMBER : mg "GREATEST_NUMBER" = some (.int 9 tk_GREATEST_NUMBER)) : Has P w K mg base "check_lengths" 1 ["some"] (spCheckN K c) := by
  refine d.has sc_check_lengths (fun vs H Q E h => ?_) (fun f cdv A outer s H vs Q E hr h => ?_)
  · obtain ⟨r, ns, rfl, _⟩ := h; rfl
  obtain ⟨r, ns, rfl, hS, hz, hb, q, e2⟩ := h
  have S := sc_check_lengths
  have hu := hr.units
  refine ⟨_, (pss_cons (ps_if (pt_cmpR op_gt (pe_callB (call_lenK (K := K)) rfl T_z_len bt_len (pa_cons (pv 0) pa_nil star_Name)) (pe_glob (v := .int 60) rfl T_c_MOST_LENGTHS ⟨_, rfl⟩) (nomark _)) (pss_one (ps_raise rfl rfl T_m_NoLengths T_x_NoLengths throws_cx (pa_cons (pe_fstr (.cons pe_str (.cons (pe_fmtI (pe_glob (v := .int 60) rfl T_c_MOST_LENGTHS ⟨_, rfl⟩)) (.cons pe_str .nil)))) pa_nil star_JoinedStr))) pss_nil)
 (pss_one (ps_for PassesOwn.leaving rfl (pi_listK (K := K) (pv 0)) (pg_name (i := 1) S.nd rfl (by first | exact Or.inl rfl | exact Or.inr rfl)) (pss_one (ps_if (pt_not (pt_chain op_le op_le (pe_glob (v := .int 1) rfl T_c_LEAST_NUMBER ⟨_, rfl⟩) (pv 1) (pe_glob (v := .int 9) rfl T_c_GREATEST_NUMBER ⟨_, rfl⟩))) (pss_one (ps_raise rfl rfl T_m_NoLengths T_x_NoLengths throws_cx (pa_cons (pe_fstr (.cons pe_str (.cons (pe_reprI (pv 1)) .nil))) pa_nil star_JoinedStr))) pss_nil))))), ?_⟩
  have l1 : (I2 ns).length = ns.length := List.length_map _
  walk_at "rd"
  refine ⟨r, _, rfl, .inl hS, ?_⟩
  walk_at "rd"
  rw [l1]
  refine ite2 (fun cc => ?_) (fun cc => ?_)
  · have cc := of_decide_eq_true cc
    walk_at "rd"
    refine ⟨_, 100, rfl, by decide, by decide, ?_⟩
    walk_at "rd"
    refine ⟨⟨60, rfl, by decide⟩, fun z hz' => ⟨z, 5000, rfl, hz', by decide, ?_⟩⟩
    walk_at "rd"
    refine ⟨_, 100, rfl, by decide, by decide, ?_⟩
    walk_at "rd"
    intro z' hz''
    walk_at "rd"
    exact ⟨(by show 1 ≤ sizeLine; decide), e2 fun h => by have := h.1; omega⟩
  · have cc := of_decide_eq_false (Bool.eq_false_iff.mpr cc)
    walk_at "rd"
    refine ⟨r, rfl, ⟨_, hS⟩, for_list (xs := I2 ns) (fun i σ H' => H' = H ∧ (∃ kv, σ = [some (.ref r), kv]) ∧ ∀ x ∈ ns.take i, 1 ≤ x ∧ x ≤ 9) ?_ ?_ ?_ ?_⟩
    · exact ⟨rfl, ⟨none, rfl⟩, fun x hx => nomatch hx⟩
    · rintro i σ H' hi ⟨rfl, _⟩
      exact hS
    · rintro i x σ H' hx ⟨rfl, ⟨kv, rfl⟩, hm⟩
      obtain ⟨n, hn, rfl⟩ := int_at hx
      have hmem := List.mem_of_getElem? hn
      have hbn := hb n hmem
      have no : ¬ (1 ≤ n ∧ n ≤ 9) → tRaise (tCons (tJoin [tC (.str "no length from 1 to 9: "), tAnyS (tVar 1) fun x _ => ∃ i, x = .int i ∧ i.natAbs < 2 ^ 64] 0) tNil) (c 2) E { nx := fun σ H' => H' = H' ∧ True, rt := Q } [some (.ref r), some (.int n)] H' := fun hno => by
        walk_at "rd"
        refine ⟨_, 100, rfl, by decide, by decide, ?_⟩
        walk_at "rd"
        refine ⟨⟨n, rfl, by omega⟩, fun z hz' => ⟨z, 5000, rfl, hz', by decide, ?_⟩⟩
        walk_at "rd"
        intro z' hz''
        walk_at "rd"
        exact ⟨(by show 1 ≤ sizeLine; decide), e2 fun h => hno (h.2 n hmem)⟩
      walk_at "rd"
      refine ite2 (fun c1 => ?_) (fun c1 => ?_)
      · have c1 := of_decide_eq_true c1
        walk_at "rd"
        refine ite2 (fun c2 => ?_) (fun c2 => ?_)
        · exact no (fun h => by simp only [Bool.not_eq_true', decide_eq_false_iff_not] at c2; omega)
        · simp only [Bool.not_eq_true', decide_eq_false_iff_not, Classical.not_not] at c2
          walk_at "rd"
          refine ⟨rfl, ⟨_, rfl⟩, fun x hx => ?_⟩
          rw [take_snoc hn] at hx
          rcases List.mem_append.mp hx with hx | hx
          · exact hm x hx
          · rw [List.mem_singleton.mp hx]; exact ⟨c1, c2⟩
      · have c1 := of_decide_eq_false (Bool.eq_false_iff.mpr c1)
        walk_at "rd"
        exact iteT (no fun h => c1 h.1)
    · rintro σ H' ⟨rfl, ⟨kv, rfl⟩, hm⟩
      rw [l1, List.take_length] at hm
      exact q ⟨by omega, hm⟩
theorem sc_built : FnScope ["letters", "sign", "some", "row", "turn", "length"] ["letters", "sign", "some"] (defScope (top 23)) := ⟨rfl, rfl, rfl, by decide +kernel, rfl, by decide +kernel, by decide +kernel⟩
theorem ok_built (d : DefAt K mg "built" (top 23) ["letters", "sign", "some"]) (T_check_sign : Has P w K mg base "check_sign" 2 ["letters", "sign"] (spCheckS K c)) (T_check_lengths : Has P w K mg base "check_lengths" 1 ["some"] (spCheckN K c)) (T_other_sign : Has P w K mg base "other_sign" 1 ["letters", "sign"] (spOther K)) : Has P w K mg base "built" 3 ["letters", "sign", "some"] (spBuild K c) := by
  refine d.has sc_built (fun vs H Q E h => ?_) (fun f cdv A outer s H vs Q E hr h => ?_)
  · obtain ⟨t, r, a, b, x, ns, rfl, _⟩ := h; rfl
  obtain ⟨t, r, a, b, x, ns, rfl, ⟨hT, hS, hab, hz, hb⟩, hx, q, e0, e3, e2⟩ := h
  have S := sc_built
  have hu := hr.units
  refine ⟨_, (pss_cons (ps_expr (pe_callN T_check_sign hr rfl pass_cx (pa_cons (pv 0) (pa_cons (pv 1) pa_nil star_Name) star_Name)))
 (pss_cons (ps_expr (pe_callN T_check_lengths hr rfl pass_cx (pa_cons (pv 2) pa_nil star_Name)))
 (pss_cons (ps_set (i := 3) S.nd rfl (by first | exact Or.inl rfl | exact Or.inr rfl) (pe_lst pa_nil))
 (pss_cons (ps_set (i := 4) S.nd rfl (by first | exact Or.inl rfl | exact Or.inr rfl) (pv 1))
 (pss_cons (ps_for PassesOwn.leaving rfl (pi_listK (K := K) (pv 2)) (pg_name (i := 5) S.nd rfl (by first | exact Or.inl rfl | exact Or.inr rfl)) (pss_cons (ps_expr (pe_bmK (K := K) PySem.F.plainAttrs_list PySem.F.slot_list_extend PySem.F.type_list_extend mt_extend (pv 3) (pa_cons (pe_op op_mulA (pe_lst (pa_cons (pv 4) pa_nil star_Name)) (pv 5)) pa_nil star_BinOp)))
 (pss_one (ps_set (i := 4) S.nd rfl (by first | exact Or.inl rfl | exact Or.inr rfl) (pe_callN T_other_sign hr rfl passE (pa_cons (pv 0) (pa_cons (pv 4) pa_nil star_Name) star_Name))))))
 (pss_one (ps_ret (pv 3)))))))), ?_⟩
  have l1 : (I2 ns).length = ns.length := List.length_map _
  walk_at "rd"
  refine ⟨t, a, b, x, rfl, hT, hab, hx, fun hok hsg => ?_, e0, e3⟩
  walk_at "rd"
  refine ⟨r, ns, rfl, hS, hz, hb, fun hN => ?_, e2 hok hsg⟩
  walk_at "rd"
  refine ⟨by decide, fun p hp => ?_⟩
  have s0 := same_new hp (.lst [])
  walk_at "rd"
  refine ⟨r, rfl, ⟨_, s0.seq hS⟩, for_list (xs := I2 ns) (fun i σ H' => ∃ kv, σ = [some (.ref t), some (.int x), some (.ref r), some (.ref p), some (.int (turnS a b x i)), kv] ∧ Same H H' ∧ H' p = some (.lst (I2 (bl a b x (ns.take i))))) ?_ ?_ ?_ ?_⟩
  · exact ⟨none, rfl, s0, upd_same⟩
  · rintro i σ H' hi ⟨kv, rfl, hs, hpx⟩
    exact hs.seq hS
  · rintro i y σ H' hy ⟨kv, rfl, hs, hpx⟩
    obtain ⟨n, hn, rfl⟩ := int_at hy
    have hi : i < ns.length := (List.getElem?_eq_some_iff.mp hn).1
    have tk := take_snoc hn
    have htk := take_len (Nat.le_of_lt hi)
    have hnb := hN.2 n (List.mem_of_getElem? hn)
    have hbl : (bl a b x (ns.take i)).length ≤ 10000 := by
      have := bl_length (a := a) (b := b) (ns.take i) x 9 (fun z hz' => (hN.2 z (List.mem_of_mem_take hz')).2)
      rw [htk] at this
      omega
    have htm := turnS_mem hsg i
    walk_at "rd"
    refine ⟨.inl ⟨rfl, _, SqL.of hpx⟩, ?_⟩
    walk_at "rd"
    refine ⟨(by show 1 ≤ sizeLine; decide), fun p1 h1 => ?_⟩
    have s1 := same_new h1 (.lst [.int (turnS a b x i)])
    walk_at "rd"
    refine rd_rep upd_same (by omega) (by omega) fun p2 h2 => ?_
    have s2 := same_new h2 (.lst (List.replicate n.toNat (V.int (turnS a b x i))))
    have s12 := s1.trans s2
    walk_at "rd"
    refine rd_ext (s12 _ _ hpx) upd_same ?_ ?_
    · rw [List.length_map, List.length_replicate]
      exact small (by omega)
    have s3 : Same H (upd (upd (upd H' p1 (.lst [.int (turnS a b x i)])) p2 (.lst (List.replicate n.toNat (V.int (turnS a b x i))))) p (.lst (I2 (bl a b x (ns.take i)) ++ List.replicate n.toNat (V.int (turnS a b x i))))) := same_upd (hs.trans s12) hp
    walk_at "rd"
    refine ⟨t, a, b, turnS a b x i, rfl, s3.seqT hT, ?_⟩
    have ht : (if turnS a b x i = a then b else a) = turnS a b x (i + 1) := by
      simp only [turnS]
      split <;> omega
    rw [ht]
    walk_at "rd"
    refine ⟨_, rfl, s3, ?_⟩
    rw [upd_same, tk, bl_snoc, htk]
    simp [I2]
  · rintro σ H' ⟨kv, rfl, hs, hpx⟩
    walk_at "rd"
    refine q hok hsg hN p H' ⟨hs, hp, ?_⟩
    rw [hpx, l1, List.take_length]
theorem sc_lengths_fit : FnScope ["letters", "some"] ["letters", "some"] (defScope (top 25)) := ⟨rfl, rfl, rfl, by decide +kernel, rfl, by decide +kernel, by decide +kernel⟩
theorem ok_lengths_fit (d : DefAt K mg "lengths_fit" (top 25) ["letters", "some"]) (T_z_any : mg "any" = none) (T_z_all : mg "all" = none) : Has P w K mg base "lengths_fit" 1 ["letters", "some"] (spFit K) := by
  refine d.has sc_lengths_fit (fun vs H Q E h => ?_) (fun f cdv A outer s H vs Q E hr h => ?_)
  · obtain ⟨t, l, a, b, ns, rfl, _⟩ := h; rfl
  obtain ⟨t, l, a, b, ns, rfl, hT, hS, hz, q⟩ := h
  have S := sc_lengths_fit
  have hu := hr.units
  refine ⟨_, (pss_cons (ps_if (pt_val (pe_callB (call_anyK (K := K) rfl) rfl T_z_any bt_any (pa_cons (pe_comp (fr := ["letters"]) (ix := [0]) rfl (compsc (by decide +kernel)) (pi_listK (K := K) (pv 1)) (fun _ _ _ _ _ => pts_nil) (fun _ _ _ _ _ => (pe_cmpR op_gt (pv 0) (pe_ix (ix_seqK (K := K)) (pv 1) pe_int (fun _ _ => rfl)) (nomark _)))) pa_nil star_ListComp))) (pss_one (ps_ret pe_bl)) pss_nil)
 (pss_one (ps_ret (pe_callB (call_allK (K := K) rfl) rfl T_z_all bt_all (pa_cons (pe_comp (fr := ["letters"]) (ix := [0]) rfl (compsc (by decide +kernel)) (pi_listK (K := K) (pe_slice (sl_listK (K := K)) (pv 1) (po_some pe_int) (po_some (pe_un un_neg pe_int)))) (fun _ _ _ _ _ => pts_nil) (fun _ _ _ _ _ => (pe_cmpR (op_inK (K := K)) (pv 0) (pv 1) (by with_unfolding_all rfl)))) pa_nil star_ListComp))))), ?_⟩
  have l1 : (I2 ns).length = ns.length := List.length_map _
  walk_at "rd"
  refine ⟨l, rfl, ⟨_, hS⟩, fun acc ha => comp_list (xs := I2 ns) (fun _ => true) (fun v => match v with | .int x => .bl (decide (b < x)) | v => v) ha hS (small (by omega)) (fun v H3 _ _ R k => k H3 fun _ _ z => z) (fun v H3 hv _ hs R k => ?_) (fun H2 hn => ?_)⟩
  · obtain ⟨x, hx, rfl⟩ := List.mem_map.mp hv
    walk_at "rd"
    refine rd_ixT (hs.seqT hT) two_at1 ?_
    walk_at "rd"
    exact k H3 fun _ _ z => z
  · have e : ((I2 ns).filter fun _ => true).map (fun v => match v with | .int x => .bl (decide (b < x)) | v => v) = (ns.map fun x => decide (b < x)).map V.bl := by
      rw [List.filter_eq_self.mpr (fun _ _ => rfl)]
      simp [I2]
    rw [e] at hn
    walk_at "rd"
    refine ⟨acc, _, rfl, hn.sqL, ?_⟩
    walk_at "rd"
    refine ite2 (fun cc => ?_) (fun cc => ?_)
    · walk_at "rd"
      have no : ¬ fits a b ns := fun hf => by
        rw [List.any_eq_true] at cc
        obtain ⟨y, hy, hy'⟩ := cc
        obtain ⟨x, hx, rfl⟩ := List.mem_map.mp hy
        have h1 := hf.1 x hx
        have h2 : b < x := by simpa using hy'
        omega
      have z := q H2 hn.same
      rw [decide_eq_false no] at z
      exact z
    · have al : ∀ x ∈ ns, x ≤ b := fun x hx => by
        have cc' := Bool.eq_false_iff.mpr cc
        rw [List.any_eq_false] at cc'
        have := cc' (decide (b < x)) (List.mem_map.mpr ⟨x, hx, rfl⟩)
        simp at this
        omega
      walk_at "rd"
      refine ⟨_, rfl, ?_⟩
      walk_at "rd"
      refine ⟨_, rfl, ?_⟩
      refine rd_slL (hn.same.seq hS) fun p hp => ?_
      have s2 := same_new hp (.lst (I2 (cutI ns (some 1) (some (-1)))))
      have hp2 : upd H2 p (.lst (I2 (cutI ns (some 1) (some (-1))))) p = some (.lst (I2 (cutI ns (some 1) (some (-1))))) := upd_same
      rw [cutI_mid] at s2 hp2 ⊢
      have ml : (mid ns).length ≤ 1000 := by
        unfold mid
        rw [List.length_dropLast, List.length_drop]
        omega
      generalize upd H2 p (.lst (I2 (mid ns))) = H3 at s2 hp2 ⊢
      have s3 := hn.same.trans s2
      refine ⟨p, rfl, ⟨_, SqL.of hp2⟩, fun acc2 ha2 => comp_list (xs := I2 (mid ns)) (fun _ => true) (fun v => match v with | .int x => .bl (decide (x = a ∨ x = b)) | v => v) ha2 (SqL.of hp2) (small (by rw [List.length_map]; omega)) (fun v H4 _ _ R k => k H4 fun _ _ z => z) (fun v H4 hv _ hs R k => ?_) (fun H4 hn4 => ?_)⟩
      · obtain ⟨x, hx, rfl⟩ := List.mem_map.mp hv
        walk_at "rd"
        refine rd_isIn ((s3.trans hs).seqT hT) ?_
        exact k H4 fun _ _ z => z
      · have e2 : ((I2 (mid ns)).filter fun _ => true).map (fun v => match v with | .int x => .bl (decide (x = a ∨ x = b)) | v => v) = ((mid ns).map fun x => decide (x = a ∨ x = b)).map V.bl := by
          rw [List.filter_eq_self.mpr (fun _ _ => rfl)]
          simp [I2]
        rw [e2] at hn4
        walk_at "rd"
        refine ⟨acc2, _, rfl, hn4.sqL, ?_⟩
        walk_at "rd"
        have ef : (((mid ns).map fun x => decide (x = a ∨ x = b)).all id) = decide (fits a b ns) := by
          rw [Bool.eq_iff_iff, List.all_eq_true, decide_eq_true_iff]
          constructor
          · intro h
            refine ⟨al, fun x hx => ?_⟩
            have := h _ (List.mem_map.mpr ⟨x, hx, rfl⟩)
            simpa using this
          · intro h y hy
            obtain ⟨x, hx, rfl⟩ := List.mem_map.mp hy
            simpa using h.2 x hx
        rw [ef]
        exact q H4 (s3.trans hn4.same)
theorem sc_inner_lengths : FnScope ["letters", "row", "some"] ["letters", "row"] (defScope (top 26)) := ⟨rfl, rfl, rfl, by decide +kernel, rfl, by decide +kernel, by decide +kernel⟩
theorem ok_inner_lengths (d : DefAt K mg "inner_lengths" (top 26) ["letters", "row"]) (T_run_lengths : Has P w K mg base "run_lengths" 1 ["row"] (spLens K)) (T_lengths_fit : Has P w K mg base "lengths_fit" 1 ["letters", "some"] (spFit K)) : Has P w K mg base "inner_lengths" 2 ["letters", "row"] (spInner K) := by
  refine d.has sc_inner_lengths (fun vs H Q E h => ?_) (fun f cdv A outer s H vs Q E hr h => ?_)
  · obtain ⟨t, r, a, b, ns, rfl, _⟩ := h; rfl
  obtain ⟨t, r, a, b, ns, rfl, hT, hb0, hS, hz, q0, q1⟩ := h
  have S := sc_inner_lengths
  have hu := hr.units
  let P3 : St → Hp → Prop := fun σ' H' => ∃ l, σ' = [some (.ref t), some (.ref r), some (.ref l)] ∧ New H H' l (.lst (I2 (trimL b (lens ns)))) ∧ fits a b (lens ns)
  have R3 : PSs (cxOf (CXE P w) P w K mg base ["letters", "row", "some"] "inner_lengths" (defScope (top 26)) f cdv A outer s H E) ((defBody (top 26)).drop 3) (fun D' σ' H' => D' = { nx := fun _ H' => Q .non H', rt := Q } ∧ P3 σ' H') := by
    refine PSs.weak ((pss_cons (ps_if (PW.pt (pw_and (pt_truK (K := K) (pv 2)) (pw_and1 (pt_cmpR (op_neK (K := K) hu) (pe_ix (ix_seqK (K := K)) (pv 2) (pe_un un_neg pe_int) (fun _ _ => rfl)) (pe_ix (ix_seqK (K := K)) (pv 0) pe_int (fun _ _ => rfl)) (nomark _))))) (pss_one (ps_set (i := 2) S.nd rfl (by first | exact Or.inl rfl | exact Or.inr rfl) (pe_slice (sl_listK (K := K)) (pv 2) po_none (po_some (pe_un un_neg pe_int))))) pss_nil)
 (pss_one (ps_ret (pv 2))))) ?_
    rintro D σ' H1 ⟨rfl, l, rfl, n1, hf⟩
    have hin : inn a b ns = some (trimR b (trimL b (lens ns))) := by unfold inn; rw [if_pos hf]
    have fin := q1 _ hin
    generalize trimL b (lens ns) = L at n1 fin
    walk_at "rd"
    refine rd_truL n1.sqL ?_
    rcases List.eq_nil_or_concat L with e | ⟨M, m, e⟩
    · subst e
      refine ite2 (fun cc => ?_) (fun cc => ?_)
      · exact absurd (emp_iff.mp cc) (by simp)
      · refine iteF ?_
        walk_at "rd"
        exact fin l H1 n1
    · rw [List.concat_eq_append] at e
      subst e
      rw [trimR_snoc] at fin
      refine ite2 (fun cc => ?_) (fun cc => absurd (emp_iff.mpr (by simp)) cc)
      walk_at "rd"
      refine rd_ixL n1.sqL (v := .int m) (by have := atI_last (I2 M) (V.int m); simpa [I2] using this) ?_
      walk_at "rd"
      refine rd_ixT (n1.same.seqT hT) two_at1 ?_
      walk_at "rd"
      refine ite2 (fun c2 => ?_) (fun c2 => ?_)
      · have c2 : m ≠ b := by simpa using c2
        rw [if_neg c2] at fin
        walk_at "rd"
        refine ⟨_, rfl, ?_⟩
        refine rd_slL n1.sqL fun p hp => ?_
        walk_at "rd"
        refine fin p _ ⟨n1.same.trans (same_new hp _), n1.same.free hp, ?_⟩
        rw [upd_same, cutI_init, List.dropLast_concat]
      · have c2 : m = b := by simpa using c2
        rw [if_pos c2] at fin
        walk_at "rd"
        exact fin l H1 n1
  refine ⟨_, (pss_cons (ps_set (i := 2) S.nd rfl (by first | exact Or.inl rfl | exact Or.inr rfl) (pe_callN T_run_lengths hr rfl passE (pa_cons (pv 1) pa_nil star_Name)))
 (pss_cons (ps_if (pt_not (pt_val (pe_callN T_lengths_fit hr rfl passE (pa_cons (pv 0) (pa_cons (pv 2) pa_nil star_Name) star_Name)))) (pss_one (ps_ret pe_non)) pss_nil)
 (pss_cons (ps_if (PW.pt (pw_and (pt_truK (K := K) (pv 2)) (pw_and1 (pt_cmpR (op_neK (K := K) hu) (pe_ix (ix_seqK (K := K)) (pv 2) pe_int (fun _ _ => rfl)) (pe_ix (ix_seqK (K := K)) (pv 0) pe_int (fun _ _ => rfl)) (nomark _))))) (pss_one (ps_set (i := 2) S.nd rfl (by first | exact Or.inl rfl | exact Or.inr rfl) (pe_slice (sl_listK (K := K)) (pv 2) (po_some pe_int) po_none))) pss_nil)
 R3))), ?_⟩
  walk_at "rd"
  refine ⟨r, ns, rfl, hS, by omega, fun l1 H1 n1 => ?_⟩
  have hl := lens_length ns
  walk_at "rd"
  refine ⟨t, l1, a, b, lens ns, rfl, n1.same.seqT hT, n1.sqL, by omega, fun H2 s2 => ?_⟩
  have n2 := n1.stay s2
  walk_at "rd"
  refine ite2 (fun cc => ?_) (fun cc => ?_)
  · have cc : ¬ fits a b (lens ns) := by simpa only [Bool.not_eq_true', decide_eq_false_iff_not] using cc
    walk_at "rd"
    exact q0 (by unfold inn; rw [if_neg cc]) H2 n2.same
  · have cc : fits a b (lens ns) := by simpa only [Bool.not_eq_true', decide_eq_false_iff_not, Classical.not_not] using cc
    have fin : ∀ l H', New H H' l (.lst (I2 (trimL b (lens ns)))) → P3 [some (.ref t), some (.ref r), some (.ref l)] H' := fun l H' n => ⟨l, rfl, n, cc⟩
    generalize lens ns = L at n2 fin
    walk_at "rd"
    refine rd_truL n2.sqL ?_
    cases L with
    | nil =>
      refine ite2 (fun c2 => absurd (emp_iff.mp c2) (by simp)) (fun c2 => ?_)
      refine iteF ?_
      walk_at "rd"
      exact ⟨rfl, fin l1 H2 n2⟩
    | cons x rr =>
      rw [trimL_cons] at fin
      refine ite2 (fun c2 => ?_) (fun c2 => absurd (emp_iff.mpr (by simp)) c2)
      walk_at "rd"
      refine rd_ixL n2.sqL (v := .int x) (atI_int (by decide) rfl) ?_
      walk_at "rd"
      refine rd_ixT (n2.same.seqT hT) two_at1 ?_
      walk_at "rd"
      refine ite2 (fun c3 => ?_) (fun c3 => ?_)
      · have c3 : x ≠ b := by simpa using c3
        rw [if_neg c3] at fin
        walk_at "rd"
        refine ⟨_, rfl, ?_⟩
        walk_at "rd"
        refine rd_slL n2.sqL fun p hp => ?_
        walk_at "rd"
        refine ⟨rfl, fin p _ ⟨n2.same.trans (same_new hp _), n2.same.free hp, ?_⟩⟩
        rw [upd_same, cutI_tail]; rfl
      · have c3 : x = b := by simpa using c3
        rw [if_pos c3] at fin
        walk_at "rd"
        exact ⟨rfl, fin l1 H2 n2⟩
theorem sc_smooth_height : FnScope ["letters", "row", "steps", "rest"] ["letters", "row"] (defScope (top 27)) := ⟨rfl, rfl, rfl, by decide +kernel, rfl, by decide +kernel, by decide +kernel⟩
theorem ok_smooth_height (d : DefAt K mg "smooth_height" (top 27) ["letters", "row"]) (T_inner_lengths : Has P w K mg base "inner_lengths" 2 ["letters", "row"] (spInner K)) : Has P w K mg base "smooth_height" 3 ["letters", "row"] (spHeight K) := by
  refine d.has sc_smooth_height (fun vs H Q E h => ?_) (fun f cdv A outer s H vs Q E hr h => ?_)
  · obtain ⟨t, r, a, b, ns, rfl, _⟩ := h; rfl
  obtain ⟨t, r, a, b, ns, rfl, hT, hb, hS, hz, q⟩ := h
  have S := sc_smooth_height
  have hu := hr.units
  refine ⟨_, (pss_cons (ps_set (i := 2) S.nd rfl (by first | exact Or.inl rfl | exact Or.inr rfl) pe_int)
 (pss_cons (ps_set (i := 3) S.nd rfl (by first | exact Or.inl rfl | exact Or.inr rfl) (pv 1))
 (pss_cons (ps_while PassesOwn.leaving (pt_truK (K := K) (pv 3)) (pss_cons (ps_set (i := 3) S.nd rfl (by first | exact Or.inl rfl | exact Or.inr rfl) (pe_callN T_inner_lengths hr rfl passE (pa_cons (pv 0) (pa_cons (pv 3) pa_nil star_Name) star_Name)))
 (pss_cons (ps_if (pt_cmpR op_isN (pv 3) pe_non (nomark _)) (pss_one (ps_ret pe_non)) pss_nil)
 (pss_one (ps_aug (i := 2) S.nd rfl (by first | exact Or.inl rfl | exact Or.inr rfl) pe_int ip_add)))))
 (pss_one (ps_ret (pv 2)))))), ?_⟩
  walk_at "rd"
  refine ⟨fun m σ' H' => ∃ (i : Nat) (l : Addr) (ws : List Int), σ' = [some (.ref t), some (.ref r), some (.int i), some (.ref l)] ∧ Same H H' ∧ SqL K H' l (I2 ws) ∧ ws.length ≤ 1000 ∧ m = ws.length ∧ hgt a b ns = (hgt a b ws).map (· + i), ⟨_, 0, r, ns, rfl, Same.refl H, hS, hz, rfl, by simp⟩, ?_⟩
  rintro m σ' H1 ⟨i, l, ws, rfl, hs, hl, hz1, rfl, hh⟩
  walk_at "rd"
  refine rd_truL hl ?_
  refine ite2 (fun cc => ?_) (fun cc => ?_)
  · have hne := emp_iff.mp cc
    refine ⟨fun σ2 H2 => ∃ l2 v, inn a b ws = some v ∧ σ2 = [some (.ref t), some (.ref r), some (.int ((i : Int) + 1)), some (.ref l2)] ∧ Same H H2 ∧ SqL K H2 l2 (I2 v), fun σ2 H2 ⟨l2, v, hi, e, s2, h2⟩ => ?_, ?_⟩
    · have hlt := inn_length hb hne hi
      refine ⟨v.length, hlt, i + 1, l2, v, e, s2, h2, by omega, rfl, ?_⟩
      rw [hh, hgt_some hb hne hi, Option.map_map]
      congr 1
      funext z
      show z + 1 + i = z + (i + 1)
      omega
    walk_at "rd"
    refine ⟨t, l, a, b, ws, rfl, hs.seqT hT, by omega, hl, hz1, fun hi H2 s2 => ?_, fun v hi l2 H2 n2 => ?_⟩
    · walk_at "rd"
      refine ⟨rfl, ?_⟩
      walk_at "rd"
      refine iteT ?_
      walk_at "rd"
      have z := q H2 (hs.trans s2)
      rw [hh, hgt_none hne hi] at z
      exact z
    · walk_at "rd"
      refine ⟨rfl, ?_⟩
      walk_at "rd"
      refine iteF ?_
      walk_at "rd"
      exact ⟨l2, v, hi, rfl, hs.trans n2.same, n2.sqL⟩
  · have hne : ws = [] := Classical.byContradiction fun h => cc (emp_iff.mpr h)
    subst hne
    walk_at "rd"
    have z := q H1 hs
    rw [hh, hgt_nil] at z
    have e : hV (Option.map (· + i) (some 0)) = .int i := by simp [hV]
    rw [e] at z
    exact z
theorem sc_inner : FnScope ["letters", "row"] ["letters", "row"] (defScope (top 29)) := ⟨rfl, rfl, rfl, by decide +kernel, rfl, by decide +kernel, by decide +kernel⟩
theorem ok_inner (d : DefAt K mg "inner" (top 29) ["letters", "row"]) (T_check_row : Has P w K mg base "check_row" 2 ["letters", "row"] (spCheckR K c)) (T_inner_lengths : Has P w K mg base "inner_lengths" 2 ["letters", "row"] (spInner K)) : Has P w K mg base "inner" 3 ["letters", "row"] (spInnerC K c) := by
  refine d.has sc_inner (fun vs H Q E h => ?_) (fun f cdv A outer s H vs Q E hr h => ?_)
  · obtain ⟨t, r, a, b, ns, rfl, _⟩ := h; rfl
  obtain ⟨t, r, a, b, ns, rfl, hlr, q, bad⟩ := h
  have S := sc_inner
  have hu := hr.units
  refine ⟨_, (pss_cons (ps_expr (pe_callN T_check_row hr rfl pass_cx (pa_cons (pv 0) (pa_cons (pv 1) pa_nil star_Name) star_Name)))
 (pss_one (ps_ret (pe_callN T_inner_lengths hr rfl passE (pa_cons (pv 0) (pa_cons (pv 1) pa_nil star_Name) star_Name))))), ?_⟩
  walk_at "rd"
  refine ⟨t, r, a, b, ns, rfl, hlr, fun hok hrow => ?_, bad⟩
  walk_at "rd"
  exact ⟨t, r, a, b, ns, rfl, hlr.1, by unfold okL at hok; omega, hlr.2.1, hlr.2.2.2.1, (q hok hrow).1, (q hok hrow).2⟩
theorem sc_height : FnScope ["letters", "row"] ["letters", "row"] (defScope (top 30)) := ⟨rfl, rfl, rfl, by decide +kernel, rfl, by decide +kernel, by decide +kernel⟩
theorem ok_height (d : DefAt K mg "height" (top 30) ["letters", "row"]) (T_check_row : Has P w K mg base "check_row" 2 ["letters", "row"] (spCheckR K c)) (T_smooth_height : Has P w K mg base "smooth_height" 3 ["letters", "row"] (spHeight K)) : Has P w K mg base "height" 4 ["letters", "row"] (spHeightC K c) := by
  refine d.has sc_height (fun vs H Q E h => ?_) (fun f cdv A outer s H vs Q E hr h => ?_)
  · obtain ⟨t, r, a, b, ns, rfl, _⟩ := h; rfl
  obtain ⟨t, r, a, b, ns, rfl, hlr, q, bad⟩ := h
  have S := sc_height
  have hu := hr.units
  refine ⟨_, (pss_cons (ps_expr (pe_callN T_check_row hr rfl pass_cx (pa_cons (pv 0) (pa_cons (pv 1) pa_nil star_Name) star_Name)))
 (pss_one (ps_ret (pe_callN T_smooth_height hr rfl passE (pa_cons (pv 0) (pa_cons (pv 1) pa_nil star_Name) star_Name))))), ?_⟩
  walk_at "rd"
  refine ⟨t, r, a, b, ns, rfl, hlr, fun hok hrow => ?_, bad⟩
  walk_at "rd"
  exact ⟨t, r, a, b, ns, rfl, hlr.1, by unfold okL at hok; omega, hlr.2.1, hlr.2.2.2.1, q hok hrow⟩
theorem sc_check_many : FnScope ["many", "most"] ["many", "most"] (defScope (top 19)) := ⟨rfl, rfl, rfl, by decide +kernel, rfl, by decide +kernel, by decide +kernel⟩
theorem ok_check_many (d : DefAt K mg "check_many" (top 19) ["many", "most"]) (T_m_TooMany : mg "TooMany" = some (.ref (c 4))) (T_x_TooMany : PySem.W.excIn K (c 4) bmVE "ValueError.__new__" = true) : Has P w K mg base "check_many" 1 ["many", "most"] (spMany c) := by
  refine d.has sc_check_many (fun vs H Q E h => ?_) (fun f cdv A outer s H vs Q E hr h => ?_)
  · obtain ⟨m, n, rfl, _⟩ := h; rfl
  obtain ⟨m, n, rfl, hm, hn, q, e4⟩ := h
  have S := sc_check_many
  have hu := hr.units
  refine ⟨_, (pss_one (ps_if (pt_not (pt_chain op_le op_le pe_int (pv 0) (pv 1))) (pss_one (ps_raise rfl rfl T_m_TooMany T_x_TooMany throws_cx (pa_cons (pe_fstr (.cons pe_str (.cons (pe_fmtI (pv 1)) (.cons pe_str (.cons (pe_reprI (pv 0)) .nil))))) pa_nil star_JoinedStr))) pss_nil)), ?_⟩
  walk_at "rd"
  refine ite2 (fun c1 => ?_) (fun c1 => ?_)
  · have c1 := of_decide_eq_true c1
    walk_at "rd"
    refine ite2 (fun c2 => ?_) (fun c2 => ?_)
    · have hno : ¬ (0 ≤ m ∧ m ≤ n) := fun h => by simp only [Bool.not_eq_true', decide_eq_false_iff_not] at c2; omega
      walk_at "rd"
      refine ⟨_, 100, rfl, by decide, by decide, ?_⟩
      walk_at "rd"
      refine ⟨⟨n, rfl, hn⟩, fun z hz => ⟨z, 5000, rfl, hz, by decide, ?_⟩⟩
      walk_at "rd"
      refine ⟨_, 100, rfl, by decide, by decide, ?_⟩
      walk_at "rd"
      refine ⟨⟨m, rfl, hm⟩, fun z' hz' => ⟨z', 5000, rfl, hz', by decide, ?_⟩⟩
      walk_at "rd"
      intro z2 hz2
      walk_at "rd"
      exact ⟨(by show 1 ≤ sizeLine; decide), e4 hno⟩
    · simp only [Bool.not_eq_true', decide_eq_false_iff_not, Classical.not_not] at c2
      walk_at "rd"
      exact q ⟨c1, c2⟩
  · have c1 := of_decide_eq_false (Bool.eq_false_iff.mpr c1)
    have hno : ¬ (0 ≤ m ∧ m ≤ n) := fun h => c1 h.1
    walk_at "rd"
    refine iteT ?_
    walk_at "rd"
    refine ⟨_, 100, rfl, by decide, by decide, ?_⟩
    walk_at "rd"
    refine ⟨⟨n, rfl, hn⟩, fun z hz => ⟨z, 5000, rfl, hz, by decide, ?_⟩⟩
    walk_at "rd"
    refine ⟨_, 100, rfl, by decide, by decide, ?_⟩
    walk_at "rd"
    refine ⟨⟨m, rfl, hm⟩, fun z' hz' => ⟨z', 5000, rfl, hz', by decide, ?_⟩⟩
    walk_at "rd"
    intro z2 hz2
    walk_at "rd"
    exact ⟨(by show 1 ≤ sizeLine; decide), e4 hno⟩
theorem sc_first_runs : FnScope ["letters", "sign", "many", "row", "runs", "turn", "number", "length"] ["letters", "sign", "many"] (defScope (top 37)) := ⟨rfl, rfl, rfl, by decide +kernel, rfl, by decide +kernel, by decide +kernel⟩
theorem ok_first_runs (d : DefAt K mg "first_runs" (top 37) ["letters", "sign", "many"]) (T_z_range : mg "range" = none) (T_z_len : mg "len" = none) (T_other_sign : Has P w K mg base "other_sign" 1 ["letters", "sign"] (spOther K)) : Has P w K mg base "first_runs" 2 ["letters", "sign", "many"] (spFirst K) := by
  refine d.has sc_first_runs (fun vs H Q E h => ?_) (fun f cdv A outer s H vs Q E hr h => ?_)
  · obtain ⟨t, a, b, x, m, rfl, _⟩ := h; rfl
  obtain ⟨t, a, b, x, m, rfl, hT, hok, hsg, h0, h1, q⟩ := h
  have S := sc_first_runs
  have hu := hr.units
  refine ⟨_, (pss_cons (ps_set (i := 3) S.nd rfl (by first | exact Or.inl rfl | exact Or.inr rfl) (pe_lst pa_nil))
 (pss_cons (ps_set (i := 4) S.nd rfl (by first | exact Or.inl rfl | exact Or.inr rfl) (pe_lst pa_nil))
 (pss_cons (ps_set (i := 5) S.nd rfl (by first | exact Or.inl rfl | exact Or.inr rfl) (pv 1))
 (pss_cons (ps_for PassesOwn.leaving rfl (pi_range1 rfl T_z_range (pa_cons (pv 2) pa_nil star_Name)) (pg_name (i := 6) S.nd rfl (by first | exact Or.inl rfl | exact Or.inr rfl)) (pss_cons (ps_set (i := 7) S.nd rfl (by first | exact Or.inl rfl | exact Or.inr rfl) (pe_ifExp (pt_cmpR op_lt (pv 6) (pe_callB (call_lenK (K := K)) rfl T_z_len bt_len (pa_cons (pv 3) pa_nil star_Name)) (nomark _)) (pe_ix (ix_seqK (K := K)) (pv 3) (pv 6) (fun _ _ => rfl)) (pv 5)))
 (pss_cons (ps_expr (pe_bmK (K := K) PySem.F.plainAttrs_list PySem.F.slot_list_append PySem.F.type_list_append mt_append (pv 4) (pa_cons (pe_tup (pa_cons (pv 5) (pa_cons (pe_callB (call_lenK (K := K)) rfl T_z_len bt_len (pa_cons (pv 3) pa_nil star_Name)) (pa_cons (pv 7) pa_nil star_Name) star_Call) star_Name)) pa_nil star_Tuple)))
 (pss_cons (ps_expr (pe_bmK (K := K) PySem.F.plainAttrs_list PySem.F.slot_list_extend PySem.F.type_list_extend mt_extend (pv 3) (pa_cons (pe_op op_mulA (pe_lst (pa_cons (pv 5) pa_nil star_Name)) (pv 7)) pa_nil star_BinOp)))
 (pss_one (ps_set (i := 5) S.nd rfl (by first | exact Or.inl rfl | exact Or.inr rfl) (pe_callN T_other_sign hr rfl passE (pa_cons (pv 0) (pa_cons (pv 5) pa_nil star_Name) star_Name))))))))
 (pss_one (ps_ret (pv 4))))))), ?_⟩
  walk_at "rd"
  refine ⟨by decide, fun p hp => ?_⟩
  have s0 := same_new hp (.lst [])
  have hp0 : upd H p (.lst []) p = some (.lst []) := upd_same
  generalize upd H p (.lst []) = H1 at s0 hp0 ⊢
  walk_at "rd"
  refine ⟨by decide, fun r hr1 => ?_⟩
  have s1 := same_new hr1 (.lst [])
  have hr0 : upd H1 r (.lst []) r = some (.lst []) := upd_same
  have hpr : p ≠ r := ne_of_none hp0 hr1
  have hrn := s0.free hr1
  have hp1 := s1 _ _ hp0
  generalize upd H1 r (.lst []) = H2 at s1 hr0 hp1 ⊢
  have s02 := s0.trans s1
  walk_at "rd"
  refine ⟨_, rfl, by omega, by omega, for_range (fun i σ H' => ∃ (kv kw : Option V) (ts : List Addr), σ = [some (.ref t), some (.int x), some (.int m), some (.ref p), some (.ref r), some (.int (turnS a b x i)), kv, kw] ∧ Same H H' ∧ H' p = some (.lst (I2 (orow a b x i))) ∧ RunsAt H' a b x r ts ∧ ts.length = i) ?_ ?_ ?_⟩
  · exact ⟨none, none, [], rfl, s02, hp1, ⟨hr0, fun i p e => by simp at e⟩, rfl⟩
  · rintro i σ H' hi ⟨kv, kw, ts, rfl, hs, hpx, hts, hlen⟩
    have hol := orow_len hok hsg (i := i) (n := 1000) (by omega) (by omega)
    have hbd := oln_bd hok hsg i
    have hl0 : (I2 (orow a b x i)).length = (orow a b x i).length := List.length_map _
    walk_at "rd"
    refine ⟨p, _, rfl, .inl (SqL.of hpx), ?_⟩
    walk_at "rd"
    rw [hl0]
    refine rd_ifV (v := .int (oln a b x i)) (fun cc R k => ?_) (fun cc R k => ?_) ?_
    · have cc := of_decide_eq_true cc
      have e1 : (orow a b x i)[i]? = some (oln a b x i) := orow_at hok hsg (by omega)
      walk_at "rd"
      exact rd_ixL (SqL.of hpx) (atI_int (by omega) (by rw [show (0 + (i : Int)).toNat = i by omega]; exact e1)) k
    · have cc := of_decide_eq_false (Bool.eq_false_iff.mpr cc)
      have e1 : oln a b x i = turnS a b x i := by
        unfold oln
        rw [List.getElem?_eq_none (by omega)]; rfl
      walk_at "rd"
      rw [← e1]
      exact k
    walk_at "rd"
    refine ⟨.inl ⟨rfl, _, SqL.of hts.1⟩, ?_⟩
    walk_at "rd"
    refine ⟨p, _, rfl, .inl (SqL.of hpx), ?_⟩
    walk_at "rd"
    refine ⟨(by show 3 ≤ sizeLine; decide), fun u hu1 => ?_⟩
    rw [hl0]
    have s3 := same_new hu1 (.tup (runT a b x i))
    have hu3 : upd H' u (.tup (runT a b x i)) u = some (.tup (runT a b x i)) := upd_same
    have hts3 := hts.stay s3
    have hp3 := s3 _ _ hpx
    walk_at "rd"
    change rAppend (.ref r) [.ref u] (upd H' u (.tup (runT a b x i))) _
    generalize upd H' u (.tup (runT a b x i)) = H3 at s3 hu3 hts3 hp3 ⊢
    refine rd_app hts3.1 (small' (by rw [List.length_map]; omega)) ?_
    have hs3 := hs.trans s3
    have s4 : Same H (upd H3 r (.lst (ts.map V.ref ++ [.ref u]))) := same_upd hs3 hrn
    have hp4 : upd H3 r (.lst (ts.map V.ref ++ [.ref u])) p = some (.lst (I2 (orow a b x i))) := by rw [upd_ne hpr]; exact hp3
    have hts4 : RunsAt (upd H3 r (.lst (ts.map V.ref ++ [.ref u]))) a b x r (ts ++ [u]) := by
      have hne : ∀ q xs, H3 q = some (.tup xs) → q ≠ r := fun q xs h e => by subst e; rw [hts3.1] at h; cases h
      refine ⟨by rw [upd_same]; simp, fun j q e => ?_⟩
      by_cases hj : j < ts.length
      · rw [List.getElem?_append_left hj] at e
        have h5 := hts3.2 j q e
        rw [upd_ne (hne q _ h5)]; exact h5
      · have hj' : j = ts.length := by
          have := (List.getElem?_eq_some_iff.mp e).1
          simp at this
          omega
        subst hj'
        simp at e
        subst e
        rw [upd_ne (hne _ _ hu3), hlen]; exact hu3
    generalize upd H3 r (.lst (ts.map V.ref ++ [.ref u])) = H4 at s4 hp4 hts4 ⊢
    walk_at "rd"
    refine ⟨.inl ⟨rfl, _, SqL.of hp4⟩, ?_⟩
    walk_at "rd"
    refine ⟨(by show 1 ≤ sizeLine; decide), fun p5 h5 => ?_⟩
    have s5 := same_new h5 (.lst [.int (turnS a b x i)])
    walk_at "rd"
    refine rd_rep upd_same (by omega) (by omega) fun p6 h6 => ?_
    have s6 := same_new h6 (.lst (List.replicate (oln a b x i).toNat (V.int (turnS a b x i))))
    have s56 := s5.trans s6
    walk_at "rd"
    refine rd_ext (s56 _ _ hp4) upd_same ?_ ?_
    · rw [hl0, List.length_replicate]
      exact small (by omega)
    have s7 : Same H (upd (upd (upd H4 p5 (.lst [.int (turnS a b x i)])) p6 (.lst (List.replicate (oln a b x i).toNat (V.int (turnS a b x i))))) p (.lst (I2 (orow a b x i) ++ List.replicate (oln a b x i).toNat (V.int (turnS a b x i))))) := same_upd (s4.trans s56) hp
    have hts6 := hts4.stay s56
    have hp6 := s56 _ _ hp4
    generalize upd (upd H4 p5 (.lst [.int (turnS a b x i)])) p6 (.lst (List.replicate (oln a b x i).toNat (V.int (turnS a b x i)))) = H6 at s7 hts6 hp6 ⊢
    have hts7 : RunsAt (upd H6 p (.lst (I2 (orow a b x i) ++ List.replicate (oln a b x i).toNat (V.int (turnS a b x i))))) a b x r (ts ++ [u]) := by
      refine ⟨by rw [upd_ne hpr.symm]; exact hts6.1, fun j q e => ?_⟩
      have h8 := hts6.2 j q e
      rw [upd_ne (fun z => by subst z; rw [hp6] at h8; cases h8)]; exact h8
    have hp7 : upd H6 p (.lst (I2 (orow a b x i) ++ List.replicate (oln a b x i).toNat (V.int (turnS a b x i)))) p = some (.lst (I2 (orow a b x (i + 1)))) := by
      rw [upd_same, orow_succ]; simp [I2]
    generalize upd H6 p (.lst (I2 (orow a b x i) ++ List.replicate (oln a b x i).toNat (V.int (turnS a b x i)))) = H7 at s7 hts7 hp7 ⊢
    walk_at "rd"
    refine ⟨t, a, b, turnS a b x i, rfl, s7.seqT hT, ?_⟩
    rw [turn_succ hsg]
    walk_at "rd"
    exact ⟨_, _, ts ++ [u], rfl, s7, hp7, hts7, by simp [hlen]⟩
  · rintro σ H' ⟨kv, kw, ts, rfl, hs, hpx, hts, hlen⟩
    walk_at "rd"
    exact q r H' ts hs hrn hts (by omega)
theorem sc_own : FnScope ["letters", "sign", "many", "row", "run"] ["letters", "sign", "many"] (defScope (top 38)) := ⟨rfl, rfl, rfl, by decide +kernel, rfl, by decide +kernel, by decide +kernel⟩
theorem ok_own (d : DefAt K mg "own" (top 38) ["letters", "sign", "many"]) (T_check_sign : Has P w K mg base "check_sign" 2 ["letters", "sign"] (spCheckS K c)) (T_check_many : Has P w K mg base "check_many" 1 ["many", "most"] (spMany c)) {tk_MOST_SIGNS : Tok} (T_c_MOST_SIGNS : mg "MOST_SIGNS" = some (.int 400 tk_MOST_SIGNS)) (T_first_runs : Has P w K mg base "first_runs" 2 ["letters", "sign", "many"] (spFirst K)) : Has P w K mg base "own" 3 ["letters", "sign", "many"] (spOwn K c) := by
  refine d.has sc_own (fun vs H Q E h => ?_) (fun f cdv A outer s H vs Q E hr h => ?_)
  · obtain ⟨t, a, b, x, m, rfl, _⟩ := h; rfl
  obtain ⟨t, a, b, x, m, rfl, ⟨hT, hab, hx, hm⟩, q, e0, e3, e4⟩ := h
  have S := sc_own
  have hu := hr.units
  refine ⟨_, (pss_cons (ps_expr (pe_callN T_check_sign hr rfl pass_cx (pa_cons (pv 0) (pa_cons (pv 1) pa_nil star_Name) star_Name)))
 (pss_cons (ps_expr (pe_callN T_check_many hr rfl pass_cx (pa_cons (pv 2) (pa_cons (pe_glob (v := .int 400) rfl T_c_MOST_SIGNS ⟨_, rfl⟩) pa_nil star_Name) star_Name)))
 (pss_cons (ps_set (i := 3) S.nd rfl (by first | exact Or.inl rfl | exact Or.inr rfl) (pe_lst pa_nil))
 (pss_cons (ps_for PassesOwn.leaving rfl (pi_listK (K := K) (pe_callN T_first_runs hr rfl passE (pa_cons (pv 0) (pa_cons (pv 1) (pa_cons (pv 2) pa_nil star_Name) star_Name) star_Name))) (pg_name (i := 4) S.nd rfl (by first | exact Or.inl rfl | exact Or.inr rfl)) (pss_one (ps_expr (pe_bmK (K := K) PySem.F.plainAttrs_list PySem.F.slot_list_extend PySem.F.type_list_extend mt_extend (pv 3) (pa_cons (pe_op op_mulA (pe_lst (pa_cons (pe_ix (ix_seqK (K := K)) (pv 4) pe_int (fun _ _ => rfl)) pa_nil star_Subscript)) (pe_ix (ix_seqK (K := K)) (pv 4) pe_int (fun _ _ => rfl))) pa_nil star_BinOp)))))
 (pss_one (ps_ret (pe_slice (sl_listK (K := K)) (pv 3) po_none (po_some (pv 2))))))))), ?_⟩
  walk_at "rd"
  refine ⟨t, a, b, x, rfl, hT, hab, hx, fun hok hsg => ?_, e0, e3⟩
  walk_at "rd"
  refine ⟨m, 400, rfl, hm, by decide, fun hmm => ?_, e4 hok hsg⟩
  obtain ⟨m0, m1⟩ := hmm
  walk_at "rd"
  refine ⟨by decide, fun p hp => ?_⟩
  have s0 := same_new hp (.lst [])
  have hp0 : upd H p (.lst []) p = some (.lst []) := upd_same
  generalize upd H p (.lst []) = H1 at s0 hp0 ⊢
  walk_at "rd"
  refine ⟨t, a, b, x, m, rfl, s0.seqT hT, hok, hsg, m0, by omega, fun l H2 ts s1 hl hts hlen => ?_⟩
  have hpl : p ≠ l := ne_of_none hp0 hl
  have hp2 := s1 _ _ hp0
  have hln := s0.free hl
  walk_at "rd"
  refine ⟨l, rfl, ⟨_, SqL.of hts.1⟩, for_list (xs := ts.map V.ref) (fun i σ H' => (∃ kv, σ = [some (.ref t), some (.int x), some (.int m), some (.ref p), kv]) ∧ Same H H' ∧ H' p = some (.lst (I2 (orow a b x i))) ∧ RunsAt H' a b x l ts) ?_ ?_ ?_ ?_⟩
  · exact ⟨⟨none, rfl⟩, s0.trans s1, hp2, hts⟩
  · rintro i σ H' hi ⟨_, _, _, h⟩
    exact SqL.of h.1
  · rintro i y σ H' hy ⟨⟨kv, rfl⟩, hs, hpx, htx⟩
    have hy' : ∃ u, ts[i]? = some u ∧ y = .ref u := by
      rw [List.getElem?_map] at hy
      cases e : ts[i]? with
      | none => rw [e] at hy; cases hy
      | some n => rw [e] at hy; exact ⟨n, rfl, (Option.some.inj hy).symm⟩
    obtain ⟨u, hu1, rfl⟩ := hy'
    have hi : i < ts.length := (List.getElem?_eq_some_iff.mp hu1).1
    have hut := htx.2 i u hu1
    have hol := orow_len hok hsg (i := i) (n := 1000) (by omega) (by omega)
    have hbd := oln_bd hok hsg i
    have hl0 : (I2 (orow a b x i)).length = (orow a b x i).length := List.length_map _
    walk_at "rd"
    refine ⟨.inl ⟨rfl, _, SqL.of hpx⟩, ?_⟩
    walk_at "rd"
    refine rd_ixT (SqT.of hut) (v := .int (turnS a b x i)) rfl ?_
    walk_at "rd"
    refine ⟨(by show 1 ≤ sizeLine; decide), fun p5 h5 => ?_⟩
    have s5 := same_new h5 (.lst [.int (turnS a b x i)])
    walk_at "rd"
    refine rd_ixT (SqT.of (s5 _ _ hut)) (v := .int (oln a b x i)) rfl ?_
    refine rd_rep upd_same (by omega) (by omega) fun p6 h6 => ?_
    have s6 := same_new h6 (.lst (List.replicate (oln a b x i).toNat (V.int (turnS a b x i))))
    have s56 := s5.trans s6
    walk_at "rd"
    refine rd_ext (s56 _ _ hpx) upd_same ?_ ?_
    · rw [hl0, List.length_replicate]
      exact small (by omega)
    have s7 : Same H (upd (upd (upd H' p5 (.lst [.int (turnS a b x i)])) p6 (.lst (List.replicate (oln a b x i).toNat (V.int (turnS a b x i))))) p (.lst (I2 (orow a b x i) ++ List.replicate (oln a b x i).toNat (V.int (turnS a b x i))))) := same_upd (hs.trans s56) hp
    have hts6 := htx.stay s56
    have hp6 := s56 _ _ hpx
    walk_at "rd"
    refine ⟨⟨_, rfl⟩, s7, by rw [upd_same, orow_succ]; simp [I2], ?_⟩
    refine ⟨by rw [upd_ne hpl.symm]; exact hts6.1, fun j q e => ?_⟩
    have h8 := hts6.2 j q e
    rw [upd_ne (fun z => by subst z; rw [hp6] at h8; cases h8)]; exact h8
  · rintro σ H' ⟨⟨kv, rfl⟩, hs, hpx, htx⟩
    walk_at "rd"
    refine ⟨_, rfl, ?_⟩
    refine rd_slL (SqL.of hpx) fun p8 h8 => ?_
    walk_at "rd"
    refine q hok hsg m0 m1 p8 _ ⟨hs.trans (same_new h8 _), hs.free h8, ?_⟩
    have em : m = ((m.toNat : Nat) : Int) := by omega
    have el : (ts.map V.ref).length = m.toNat := by rw [List.length_map]; omega
    rw [upd_same, el]
    conv => lhs; rw [em]
    rw [cutI_to]
    rfl
theorem sc_own_runs : FnScope ["letters", "sign", "many"] ["letters", "sign", "many"] (defScope (top 39)) := ⟨rfl, rfl, rfl, by decide +kernel, rfl, by decide +kernel, by decide +kernel⟩
theorem ok_own_runs (d : DefAt K mg "own_runs" (top 39) ["letters", "sign", "many"]) (T_check_sign : Has P w K mg base "check_sign" 2 ["letters", "sign"] (spCheckS K c)) (T_check_many : Has P w K mg base "check_many" 1 ["many", "most"] (spMany c)) {tk_MOST_RUNS : Tok} (T_c_MOST_RUNS : mg "MOST_RUNS" = some (.int 60 tk_MOST_RUNS)) (T_first_runs : Has P w K mg base "first_runs" 2 ["letters", "sign", "many"] (spFirst K)) : Has P w K mg base "own_runs" 3 ["letters", "sign", "many"] (spOwnRuns K c) := by
  refine d.has sc_own_runs (fun vs H Q E h => ?_) (fun f cdv A outer s H vs Q E hr h => ?_)
  · obtain ⟨t, a, b, x, m, rfl, _⟩ := h; rfl
  obtain ⟨t, a, b, x, m, rfl, ⟨hT, hab, hx, hm⟩, q, e0, e3, e4⟩ := h
  have S := sc_own_runs
  have hu := hr.units
  refine ⟨_, (pss_cons (ps_expr (pe_callN T_check_sign hr rfl pass_cx (pa_cons (pv 0) (pa_cons (pv 1) pa_nil star_Name) star_Name)))
 (pss_cons (ps_expr (pe_callN T_check_many hr rfl pass_cx (pa_cons (pv 2) (pa_cons (pe_glob (v := .int 60) rfl T_c_MOST_RUNS ⟨_, rfl⟩) pa_nil star_Name) star_Name)))
 (pss_one (ps_ret (pe_callN T_first_runs hr rfl passE (pa_cons (pv 0) (pa_cons (pv 1) (pa_cons (pv 2) pa_nil star_Name) star_Name) star_Name)))))), ?_⟩
  walk_at "rd"
  refine ⟨t, a, b, x, rfl, hT, hab, hx, fun hok hsg => ?_, e0, e3⟩
  walk_at "rd"
  refine ⟨m, 60, rfl, hm, by decide, fun hmm => ?_, e4 hok hsg⟩
  walk_at "rd"
  exact ⟨t, a, b, x, m, rfl, hT, hok, hsg, hmm.1, by omega, q hok hsg hmm.1 hmm.2⟩
theorem sc_next_signs : FnScope ["letters", "row"] ["letters", "row"] (defScope (top 28)) := ⟨rfl, rfl, rfl, by decide +kernel, rfl, by decide +kernel, by decide +kernel⟩
theorem ok_next_signs (d : DefAt K mg "next_signs" (top 28) ["letters", "row"]) (T_smooth_height : Has P w K mg base "smooth_height" 3 ["letters", "row"] (spHeight K)) : Has P w K mg base "next_signs" 4 ["letters", "row"] (spNext K) := by
  refine d.has sc_next_signs (fun vs H Q E h => ?_) (fun f cdv A outer s H vs Q E hr h => ?_)
  · obtain ⟨t, r, a, b, ns, rfl, _⟩ := h; rfl
  obtain ⟨t, r, a, b, ns, rfl, hT, hb, hR, hz, q⟩ := h
  have S := sc_next_signs
  have hu := hr.units
  refine ⟨_, (pss_one (ps_ret (pe_comp (fr := ["letters", "row"]) (ix := [0, 1]) rfl (compsc (by decide +kernel)) (pi_tupK (K := K) (pv 0)) (fun _ _ _ _ _ => (pts_one (pt_cmpR op_notN (pe_callN T_smooth_height hr rfl passE (pa_cons (pv 1) (pa_cons (pe_op op_addA (pv 2) (pe_lst (pa_cons (pv 0) pa_nil star_Name))) pa_nil star_BinOp) star_Name)) pe_non (nomark _)))) (fun _ _ _ _ _ => (pv 0))))), ?_⟩
  walk_at "rd"
  refine ⟨t, rfl, ⟨_, hT⟩, fun acc ha => comp_tup (xs := [.int a, .int b]) (smV a b ns) (fun v => v) ha hT (by show 2 ≤ sizeLine; decide) (fun v H3 hv hs R k => ?_) (fun v H3 hv _ hs R k => ?_) (fun H2 hn => ?_)⟩
  · have hv' : ∃ y, v = .int y := by
      rcases List.mem_cons.mp hv with e | hv
      · exact ⟨a, e⟩
      · exact ⟨b, List.mem_singleton.mp hv⟩
    obtain ⟨y, rfl⟩ := hv'
    walk_at "rd"
    refine ⟨(by show 1 ≤ sizeLine; decide), fun p1 h1 => ?_⟩
    have s1 := same_new h1 (.lst [.int y])
    refine rd_cat (s1 _ _ (hs _ _ hR)) upd_same (by rw [List.length_map]; exact small (by show ns.length + 1 ≤ 100000; omega)) fun p2 h2 => ?_
    have s2 := same_new h2 (.lst (I2 ns ++ [.int y]))
    have e : I2 ns ++ [.int y] = I2 (ns ++ [y]) := by simp [I2]
    walk_at "rd"
    refine ⟨t, p2, a, b, ns ++ [y], rfl, ((hs.trans s1).trans s2).seqT hT, hb, SqL.of (by rw [upd_same, e]), by simp; omega, fun H4 s4 => ?_⟩
    walk_at "rd"
    refine ⟨rfl, ?_⟩
    rw [hV_none]
    walk_at "rd"
    rw [Bool.not_not]
    exact k H4 fun b o z => s4 _ _ (s2 _ _ (s1 _ _ z))
  · walk_at "rd"
    exact k H3 fun _ _ z => z
  · rw [smV_map] at hn
    exact q acc H2 hn
theorem sc_goes_on : FnScope ["letters", "row"] ["letters", "row"] (defScope (top 31)) := ⟨rfl, rfl, rfl, by decide +kernel, rfl, by decide +kernel, by decide +kernel⟩
theorem ok_goes_on (d : DefAt K mg "goes_on" (top 31) ["letters", "row"]) (T_check_row : Has P w K mg base "check_row" 2 ["letters", "row"] (spCheckR K c)) (T_next_signs : Has P w K mg base "next_signs" 4 ["letters", "row"] (spNext K)) : Has P w K mg base "goes_on" 5 ["letters", "row"] (spGoes K c) := by
  refine d.has sc_goes_on (fun vs H Q E h => ?_) (fun f cdv A outer s H vs Q E hr h => ?_)
  · obtain ⟨t, r, a, b, ns, rfl, _⟩ := h; rfl
  obtain ⟨t, r, a, b, ns, rfl, hlr, hR, q, bad⟩ := h
  have S := sc_goes_on
  have hu := hr.units
  refine ⟨_, (pss_cons (ps_expr (pe_callN T_check_row hr rfl pass_cx (pa_cons (pv 0) (pa_cons (pv 1) pa_nil star_Name) star_Name)))
 (pss_one (ps_ret (pe_callN T_next_signs hr rfl passE (pa_cons (pv 0) (pa_cons (pv 1) pa_nil star_Name) star_Name))))), ?_⟩
  walk_at "rd"
  refine ⟨t, r, a, b, ns, rfl, hlr, fun hok hrow => ?_, bad⟩
  walk_at "rd"
  exact ⟨t, r, a, b, ns, rfl, hlr.1, by unfold okL at hok; omega, hR, by have := hrow.1; omega, q hok hrow⟩
theorem sc_all_smooth : FnScope ["letters", "many", "rows", "size", "longer", "row"] ["letters", "many"] (defScope (top 32)) := ⟨rfl, rfl, rfl, by decide +kernel, rfl, by decide +kernel, by decide +kernel⟩
theorem ok_all_smooth (d : DefAt K mg "all_smooth" (top 32) ["letters", "many"]) (T_check_letters : Has P w K mg base "check_letters" 1 ["letters"] (spCheckL K c)) (T_check_many : Has P w K mg base "check_many" 1 ["many", "most"] (spMany c)) {tk_LONGEST_LISTED : Tok} (T_c_LONGEST_LISTED : mg "LONGEST_LISTED" = some (.int 10 tk_LONGEST_LISTED)) (T_z_range : mg "range" = none) (T_next_signs : Has P w K mg base "next_signs" 4 ["letters", "row"] (spNext K)) : Has P w K mg base "all_smooth" 5 ["letters", "many"] (spAll K c) := by
  refine d.has sc_all_smooth (fun vs H Q E h => ?_) (fun f cdv A outer s H vs Q E hr h => ?_)
  · obtain ⟨t, a, b, m, rfl, _⟩ := h; rfl
  obtain ⟨t, a, b, m, rfl, hT, hab, hm, q, e0, e4⟩ := h
  have S := sc_all_smooth
  have hu := hr.units
  refine ⟨_, (pss_cons (ps_expr (pe_callN T_check_letters hr rfl pass_cx (pa_cons (pv 0) pa_nil star_Name)))
 (pss_cons (ps_expr (pe_callN T_check_many hr rfl pass_cx (pa_cons (pv 1) (pa_cons (pe_glob (v := .int 10) rfl T_c_LONGEST_LISTED ⟨_, rfl⟩) pa_nil star_Name) star_Name)))
 (pss_cons (ps_set (i := 2) S.nd rfl (by first | exact Or.inl rfl | exact Or.inr rfl) (pe_lst (pa_cons (pe_lst pa_nil) pa_nil star_List)))
 (pss_cons (ps_for PassesOwn.leaving rfl (pi_range1 rfl T_z_range (pa_cons (pv 1) pa_nil star_Name)) (pg_name (i := 3) S.nd rfl (by first | exact Or.inl rfl | exact Or.inr rfl)) (pss_cons (ps_set (i := 4) S.nd rfl (by first | exact Or.inl rfl | exact Or.inr rfl) (pe_lst pa_nil))
 (pss_cons (ps_for PassesOwn.leaving rfl (pi_listK (K := K) (pv 2)) (pg_name (i := 5) S.nd rfl (by first | exact Or.inl rfl | exact Or.inr rfl)) (pss_one (ps_expr (pe_bmK (K := K) PySem.F.plainAttrs_list PySem.F.slot_list_extend PySem.F.type_list_extend mt_extend (pv 4) (pa_cons (pe_comp (fr := ["row"]) (ix := [5]) rfl (compsc (by decide +kernel)) (pi_listK (K := K) (pe_callN T_next_signs hr rfl passE (pa_cons (pv 0) (pa_cons (pv 5) pa_nil star_Name) star_Name))) (fun _ _ _ _ _ => pts_nil) (fun _ _ _ _ _ => (pe_op op_addA (pv 1) (pe_lst (pa_cons (pv 0) pa_nil star_Name))))) pa_nil star_ListComp)))))
 (pss_one (ps_set (i := 2) S.nd rfl (by first | exact Or.inl rfl | exact Or.inr rfl) (pv 4))))))
 (pss_one (ps_ret (pv 2))))))), ?_⟩
  walk_at "rd"
  refine ⟨t, a, b, rfl, hT, hab, fun hok => ?_, e0⟩
  have hok' := hok
  unfold okL at hok'
  have hb : 2 ≤ b := by omega
  walk_at "rd"
  refine ⟨m, 10, rfl, hm, by decide, fun hmm => ?_, e4 hok⟩
  obtain ⟨m0, m1⟩ := hmm
  walk_at "rd"
  refine ⟨(by show 0 ≤ sizeLine; decide), fun p0 hp0 => ?_⟩
  have s0 := same_new hp0 (.lst [])
  have h00 : upd H p0 (.lst []) p0 = some (.lst []) := upd_same
  generalize upd H p0 (.lst []) = H1 at s0 h00 ⊢
  walk_at "rd"
  refine ⟨(by show 1 ≤ sizeLine; decide), fun l0 hl0 => ?_⟩
  have s1 := same_new hl0 (.lst [.ref p0])
  have hl1 : upd H1 l0 (.lst [.ref p0]) l0 = some (.lst [.ref p0]) := upd_same
  have hne0 : p0 ≠ l0 := ne_of_none h00 hl0
  generalize upd H1 l0 (.lst [.ref p0]) = H2 at s1 hl1 ⊢
  have r0 : Rows H H2 [p0] (sml a b 0) := ⟨rfl, fun i p w e e' => by
    cases i with
    | zero =>
      simp [sml] at e e'
      subst e e'
      exact ⟨s1 _ _ h00, hp0⟩
    | succ i => simp at e, by simp⟩
  walk_at "rd"
  refine ⟨_, rfl, by omega, by omega, for_range (fun i σ H' => ∃ l ps k3 k4 k5, σ = [some (.ref t), some (.int m), some (.ref l), k3, k4, k5] ∧ Same H H' ∧ H l = none ∧ l ∉ ps ∧ H' l = some (.lst (ps.map V.ref)) ∧ Rows H H' ps (sml a b i)) ?_ ?_ ?_⟩
  · exact ⟨l0, [p0], none, none, none, rfl, s0.trans s1, s0.free hl0, by simp [hne0.symm], hl1, r0⟩
  · rintro i σ H' hi ⟨l, ps, k3, k4, k5, rfl, hs, hln, hlp, hl, hrows⟩
    have hi10 : i < 10 := by omega
    have hcnt := sml_count a b i
    have hcnt2 : (sml a b i).length ≤ 1024 := Nat.le_trans hcnt (by have : 2 ^ i ≤ 2 ^ 10 := Nat.pow_le_pow_right (by decide) (by omega); exact this)
    walk_at "rd"
    refine ⟨(by show 0 ≤ sizeLine; decide), fun q0 hq0 => ?_⟩
    have s3 := same_new hq0 (.lst [])
    have hq3 : upd H' q0 (.lst []) q0 = some (.lst []) := upd_same
    have hl3 := s3 _ _ hl
    have hr3 := hrows.stay s3
    have hqn := hs.free hq0
    generalize upd H' q0 (.lst []) = H3 at s3 hq3 hl3 hr3 ⊢
    walk_at "rd"
    refine ⟨l, rfl, ⟨_, SqL.of hl3⟩, for_list (xs := ps.map V.ref) (fun j σ H4 => ∃ qs k5, σ = [some (.ref t), some (.int m), some (.ref l), some (.int (0 + (i : Int))), some (.ref q0), k5] ∧ Same H' H4 ∧ H4 q0 = some (.lst (qs.map V.ref)) ∧ q0 ∉ qs ∧ Rows H' H4 qs (((sml a b i).take j).flatMap (ups a b))) ?_ ?_ ?_ ?_⟩
    · exact ⟨[], k5, rfl, s3, hq3, by simp, Rows.nil⟩
    · rintro j σ H4 hj ⟨qs, k5, rfl, s4, _⟩
      exact SqL.of (s4 _ _ hl)
    · rintro j v σ H4 hv ⟨qs, k5, rfl, s4, hq4, hqq, hr4⟩
      obtain ⟨p, hp, rfl⟩ := ref_at hv
      have hj : j < ps.length := (List.getElem?_eq_some_iff.mp hp).1
      have hj' : j < (sml a b i).length := by rw [← hrows.len]; exact hj
      have hw : (sml a b i)[j]? = some (sml a b i)[j] := List.getElem?_eq_getElem hj'
      obtain ⟨hpw, _⟩ := hrows.each j p _ hp hw
      have hwl : ((sml a b i)[j]).length = i := sml_length a b i _ (List.getElem_mem hj')
      have hfl := fm_take (a := a) (b := b) hw
      have hql : qs.length ≤ 3000 := by
        rw [hr4.len]
        have key : ∀ l : List (List Int), (l.flatMap (ups a b)).length ≤ 2 * l.length := by
          intro l
          induction l with
          | nil => simp
          | cons w r ih2 =>
            rw [List.flatMap_cons, List.length_append, List.length_cons]
            have : (ups a b w).length ≤ 2 := by unfold ups; rw [List.length_map]; exact nxt_len a b w
            omega
        have := key ((sml a b i).take j)
        rw [List.length_take] at this
        omega
      generalize (sml a b i)[j] = w at hpw hwl hfl
      walk_at "rd"
      refine ⟨.inl ⟨rfl, _, SqL.of hq4⟩, ?_⟩
      walk_at "rd"
      refine ⟨t, p, a, b, w, rfl, (hs.trans s4).seqT hT, hb, s4 _ _ hpw, by omega, fun l5 H5 n5 => ?_⟩
      have s45 := n5.same
      have hnl := nxt_len a b w
      refine ⟨l5, rfl, ⟨_, n5.sqL⟩, fun acc hacc => comp_by (xs := I2 (nxt a b w)) (fun k ys H6 => ∃ rs, ys = rs.map V.ref ∧ Same H5 H6 ∧ H6 acc = some (.lst ys) ∧ acc ∉ rs ∧ rs.length = k ∧ Rows H5 H6 rs (((nxt a b w).take k).map fun s => w ++ [s])) ?_ (small (by rw [List.length_map]; omega)) ?_ ?_ ?_⟩
      · exact ⟨[], rfl, same_new hacc _, upd_same, by simp, rfl, Rows.nil⟩
      · rintro k ys H6 hk ⟨rs, rfl, s6, ha6, har, hlen, hr6⟩
        obtain ⟨j1, j2, j3⟩ := itl_ok (K := K) (s6.seq n5.sqL) k
        exact ⟨j1, j2, j3, by rw [List.length_map]; omega⟩
      · rintro k v ys H6 hv ⟨rs, rfl, s6, ha6, har, hlen, hr6⟩ N hN
        obtain ⟨y, hy, rfl⟩ := int_at hv
        have hup := ups_take a b w hy
        refine @iteT _ (N (rs.map V.ref) H6) ?_
        have hw6 := s6 _ _ (s45 _ _ (s4 _ _ hpw))
        change tOp rAddA (tVar 1) (tLst (tCons (tVar 0) tNil)) [some (.int y), some (.ref p)] H6 _
        walk_at "rd"
        refine ⟨(by show 1 ≤ sizeLine; decide), fun p1 h1 => ?_⟩
        have s7 := same_new h1 (.lst [.int y])
        refine rd_cat (s7 _ _ hw6) upd_same (by rw [List.length_map]; exact small (by show w.length + 1 ≤ 100000; omega)) fun p2 h2 => ?_
        have e2 : I2 w ++ [.int y] = I2 (w ++ [y]) := by simp [I2]
        rw [e2]
        have h62 : H6 p2 = none := s7.free h2
        have h52 : H5 p2 = none := s6.free h62
        have s8 := same_new h2 (.lst (I2 (w ++ [y])))
        have h88 : upd (upd H6 p1 (.lst [.int y])) p2 (.lst (I2 (w ++ [y]))) p2 = some (.lst (I2 (w ++ [y]))) := upd_same
        generalize upd (upd H6 p1 (.lst [.int y])) p2 (.lst (I2 (w ++ [y]))) = H8 at s8 h88 ⊢
        have s68 := s7.trans s8
        have hap : acc ≠ p2 := ne_of_none ha6 h62
        refine ⟨s68 _ _ ha6, hN _ _ ⟨rs ++ [p2], by simp, same_upd (s6.trans s68) hacc, upd_same, by simp [har, hap], by simp [hlen], ?_⟩⟩
        rw [hup]
        exact ((hr6.snoc s68 h62 h52 h88)).other (by simp [har, hap])
      · rintro ys H6 ⟨rs, rfl, s6, ha6, har, hlen, hr6⟩
        rw [List.length_map, List.take_length] at hr6
        have hrs : rs.length ≤ 2 := by rw [List.length_map] at hlen; omega
        walk_at "rd"
        have hq6 := s6 _ _ (s45 _ _ hq4)
        refine rd_ext hq6 ha6 ?_ ?_
        · rw [List.length_map, List.length_map]
          exact small (by omega)
        walk_at "rd"
        have s46 := s45.trans s6
        have hq5 := s45 _ _ hq4
        have hqr : q0 ∉ rs := hr6.free hq5
        refine ⟨qs ++ rs, _, rfl, same_upd (s4.trans s46) hq0, by rw [upd_same]; simp, by simp [hqq, hqr], ?_⟩
        rw [hfl]
        refine Rows.other ((hr4.stay s46).app (hr6.down (s4.trans s45)) fun x hx hx' => ?_) (by simp [hqq, hqr])
        obtain ⟨_, _, h9, _⟩ := hr4.mem hx
        obtain ⟨_, _, _, h10⟩ := hr6.mem hx'
        rw [s45 _ _ h9] at h10; cases h10
    · rintro σ H4 ⟨qs, k5, rfl, s4, hq4, hqq, hr4⟩
      rw [List.length_map, hrows.len, List.take_length] at hr4
      walk_at "rd"
      exact ⟨q0, qs, _, _, _, rfl, hs.trans s4, hqn, hqq, hq4, hr4.down hs⟩
  · rintro σ H' ⟨l, ps, k3, k4, k5, rfl, hs, hln, hlp, hl, hrows⟩
    walk_at "rd"
    exact q hok m0 m1 l ps H' hs hln hlp hl hrows
theorem sc_shown : FnScope ["letters", "row"] ["letters", "row"] (defScope (top 34)) := ⟨rfl, rfl, rfl, by decide +kernel, rfl, by decide +kernel, by decide +kernel⟩
theorem ok_shown (d : DefAt K mg "shown" (top 34) ["letters", "row"]) (T_check_row : Has P w K mg base "check_row" 2 ["letters", "row"] (spCheckR K c)) (T_z_str : mg "str" = none) : Has P w K mg base "shown" 3 ["letters", "row"] (spShown K c) := by
  refine d.has sc_shown (fun vs H Q E h => ?_) (fun f cdv A outer s H vs Q E hr h => ?_)
  · obtain ⟨t, r, a, b, ns, rfl, _⟩ := h; rfl
  obtain ⟨t, r, a, b, ns, rfl, hlr, q, bad⟩ := h
  have S := sc_shown
  have hu := hr.units
  refine ⟨_, (pss_cons (ps_expr (pe_callN T_check_row hr rfl pass_cx (pa_cons (pv 0) (pa_cons (pv 1) pa_nil star_Name) star_Name)))
 (pss_one (ps_ret (pe_bmK (K := K) PySem.F.plainAttrs_str PySem.F.slot_str_join PySem.F.type_str_join (mt_join (K := K)) pe_str (pa_cons (pe_comp (fr := []) (ix := []) rfl (compsc (by decide +kernel)) (pi_listK (K := K) (pv 1)) (fun _ _ _ _ _ => pts_nil) (fun _ _ _ _ _ => (pe_callTy call_str_int rfl T_z_str bt_str (pa_cons (pv 0) pa_nil star_Name)))) pa_nil star_ListComp))))), ?_⟩
  walk_at "rd"
  refine ⟨t, r, a, b, ns, rfl, hlr, fun hok hrow => ?_, bad⟩
  have hok' := hok
  unfold okL at hok'
  have bd : ∀ y ∈ ns, 0 ≤ y ∧ y ≤ 9 := fun y hy => by rcases hrow.2 y hy with e | e <;> omega
  walk_at "rd"
  refine ⟨rfl, ?_⟩
  walk_at "rd"
  have hz := hlr.2.2.2.1
  refine ⟨r, rfl, ⟨_, hlr.2.1⟩, fun acc ha => comp_list (xs := I2 ns) (fun _ => true) (fun v => match v with | .int x => .str (dig x) | v => v) ha hlr.2.1 (small (by rw [List.length_map]; omega)) (fun v H3 _ _ R k => k H3 fun _ _ z => z) (fun v H3 hv _ hs R k => ?_) (fun H2 hn => ?_)⟩
  · obtain ⟨x, hx, rfl⟩ := List.mem_map.mp hv
    walk_at "rd"
    exact ⟨x, rfl, dig_small (bd x hx).1 (bd x hx).2, k H3 fun _ _ z => z⟩
  · have e : ((I2 ns).filter fun _ => true).map (fun v => match v with | .int x => .str (dig x) | v => v) = (ns.map dig).map V.str := by
      rw [List.filter_eq_self.mpr (fun _ _ => rfl)]
      simp [I2]
    rw [e] at hn
    walk_at "rd"
    refine ⟨_, acc, ns.map dig, rfl, rfl, hn.sqL, ?_, q hok hrow H2 hn.same⟩
    have hs : ((ns.map dig).map (·.length)).sum ≤ ns.length := by
      clear hn e q bad hlr hrow hz
      induction ns with
      | nil => simp
      | cons x r ih =>
        have := dig_len (bd x List.mem_cons_self).1 (bd x List.mem_cons_self).2
        have := ih fun y hy => bd y (List.mem_cons_of_mem _ hy)
        simp only [List.map_cons, List.sum_cons, List.length_cons]
        omega
    have h0 : (Str.ofString "").length = 0 := by decide +kernel
    rw [h0, List.length_map]
    omega
theorem sc_read : FnScope ["letters", "text", "signs", "row", "figure"] ["letters", "text"] (defScope (top 35)) := ⟨rfl, rfl, rfl, by decide +kernel, rfl, by decide +kernel, by decide +kernel⟩
theorem ok_read (d : DefAt K mg "read" (top 35) ["letters", "text"]) (T_check_letters : Has P w K mg base "check_letters" 1 ["letters"] (spCheckL K c)) (T_z_str : mg "str" = none) (T_m_BadText : mg "BadText" = some (.ref (c 5))) (T_x_BadText : PySem.W.excIn K (c 5) bmVE "ValueError.__new__" = true) : Has P w K mg base "read" 2 ["letters", "text"] (spRead K c) := by
  refine d.has sc_read (fun vs H Q E h => ?_) (fun f cdv A outer s H vs Q E hr h => ?_)
  · obtain ⟨t, a, b, z, rfl, _⟩ := h; rfl
  obtain ⟨t, a, b, z, rfl, hT, hab, hz, hzl, q, e0, e5⟩ := h
  have S := sc_read
  have hu := hr.units
  refine ⟨_, (pss_cons (ps_expr (pe_callN T_check_letters hr rfl pass_cx (pa_cons (pv 0) pa_nil star_Name)))
 (pss_cons (ps_set (i := 2) S.nd rfl (by first | exact Or.inl rfl | exact Or.inr rfl) (pe_dict2 (pe_callTy call_str_int rfl T_z_str bt_str (pa_cons (pe_ix (ix_seqK (K := K)) (pv 0) pe_int (fun _ _ => rfl)) pa_nil star_Subscript)) (pe_ix (ix_seqK (K := K)) (pv 0) pe_int (fun _ _ => rfl)) (pe_callTy call_str_int rfl T_z_str bt_str (pa_cons (pe_ix (ix_seqK (K := K)) (pv 0) pe_int (fun _ _ => rfl)) pa_nil star_Subscript)) (pe_ix (ix_seqK (K := K)) (pv 0) pe_int (fun _ _ => rfl))))
 (pss_cons (ps_set (i := 3) S.nd rfl (by first | exact Or.inl rfl | exact Or.inr rfl) (pe_lst pa_nil))
 (pss_cons (ps_for PassesOwn.leaving rfl (pi_str (pv 1)) (pg_name (i := 4) S.nd rfl (by first | exact Or.inl rfl | exact Or.inr rfl)) (pss_cons (ps_if (pt_cmpR op_notInD (pv 4) (pv 2) (by with_unfolding_all rfl)) (pss_one (ps_raise rfl rfl T_m_BadText T_x_BadText throws_cx (pa_cons (pe_fstr (.cons pe_str (.cons (pe_reprS (pv 4)) .nil))) pa_nil star_JoinedStr))) pss_nil)
 (pss_one (ps_expr (pe_bmK (K := K) PySem.F.plainAttrs_list PySem.F.slot_list_append PySem.F.type_list_append mt_append (pv 3) (pa_cons (pe_ix ix_dict (pv 2) (pv 4) (fun _ _ => rfl)) pa_nil star_Subscript))))))
 (pss_one (ps_ret (pv 3))))))), ?_⟩
  walk_at "rd"
  refine ⟨t, a, b, rfl, hT, hab, fun hok => ?_, e0⟩
  have hok' := hok
  unfold okL at hok'
  walk_at "rd"
  refine rd_dict2 fun p hp => ?_
  have s1 := same_new hp (.dK [])
  have hp1 : upd H p (.dK []) p = some (.dK []) := upd_same
  generalize upd H p (.dK []) = H1 at s1 hp1 ⊢
  walk_at "rd"
  refine rd_ixT (s1.seqT hT) two_at0 ?_
  walk_at "rd"
  refine ⟨a, rfl, dig_small (by omega) (by omega), ?_⟩
  walk_at "rd"
  refine rd_ixT (s1.seqT hT) two_at0 ?_
  walk_at "rd"
  refine rd_ixT (s1.seqT hT) two_at1 ?_
  walk_at "rd"
  refine ⟨b, rfl, dig_small (by omega) (by omega), ?_⟩
  walk_at "rd"
  refine rd_ixT (s1.seqT hT) two_at1 ?_
  have hdd : dig a ≠ dig b := by
    rw [dig_eq (by omega) (by omega), dig_eq (by omega) (by omega)]
    intro h
    injection h with h
    have h2 : (48 + a).toNat = (48 + b).toNat := by simpa using h
    omega
  refine ⟨hp1, dig a, dig b, rfl, rfl, hdd, ?_⟩
  have s2 : Same H (upd H1 p (D2 (dig a) (.int a) (dig b) (.int b))) := same_upd s1 hp
  have hp2 : upd H1 p (D2 (dig a) (.int a) (dig b) (.int b)) p = some (D2 (dig a) (.int a) (dig b) (.int b)) := upd_same
  generalize upd H1 p (D2 (dig a) (.int a) (dig b) (.int b)) = H2 at s2 hp2 ⊢
  walk_at "rd"
  refine ⟨by decide, fun l hl => ?_⟩
  have s3 := same_new hl (.lst [])
  have hl3 : upd H2 l (.lst []) l = some (.lst []) := upd_same
  have hp3 := s3 _ _ hp2
  have hln := s2.free hl
  have hpl : p ≠ l := ne_of_none hp2 hl
  generalize upd H2 l (.lst []) = H3 at s3 hl3 hp3 ⊢
  have zl : z.cps.toList.length = z.cps.size := rfl
  walk_at "rd"
  refine ⟨z, rfl, hz, for_str (x := z) (fun i σ H' => (∃ kv, σ = [some (.ref t), some (.str z), some (.ref p), some (.ref l), kv]) ∧ Same H H' ∧ H' p = some (D2 (dig a) (.int a) (dig b) (.int b)) ∧ H' l = some (.lst (I2 ((z.cps.toList.take i).map fun (c : Nat) => (c : Int) - 48))) ∧ ∀ c ∈ z.cps.toList.take i, c = (48 + a).toNat ∨ c = (48 + b).toNat) ?_ ?_ ?_⟩
  · exact ⟨⟨none, rfl⟩, s2.trans s3, hp3, hl3, fun c hc => nomatch hc⟩
  · rintro i cc σ H' hcc ⟨⟨kv, rfl⟩, hs, hpx, hlx, hm⟩
    have hcc' : z.cps.toList[i]? = some cc := by rw [Array.getElem?_toList]; exact hcc
    have hmem : cc ∈ z.cps.toList := List.mem_of_getElem? hcc'
    have hc128 : cc < 128 := by
      have h1 : z.cps.all (· < 128) = true := hz
      have := Array.all_eq_true'.mp h1 cc (by simpa using hmem)
      simpa using this
    have tk : z.cps.toList.take (i + 1) = z.cps.toList.take i ++ [cc] := by rw [List.take_add_one, hcc']; rfl
    have hil : i < z.cps.toList.length := (List.getElem?_eq_some_iff.mp hcc').1
    have ia := dig_inj (c := cc) (i := a) (by omega) (by omega)
    have ib := dig_inj (c := cc) (i := b) (by omega) (by omega)
    walk_at "rd"
    refine ⟨p, _, _, _, _, _, rfl, rfl, hpx, ?_⟩
    walk_at "rd"
    refine ite2 (fun c1 => ?_) (fun c1 => ?_)
    · have hno : ¬ (cc = (48 + a).toNat ∨ cc = (48 + b).toNat) := by
        simp only [Bool.not_eq_true', Bool.or_eq_false_iff, decide_eq_false_iff_not] at c1
        rintro (h | h)
        · exact c1.1 (ia.mpr h)
        · exact c1.2 (ib.mpr h)
      walk_at "rd"
      refine ⟨_, 100, rfl, by decide +kernel, by decide, ?_⟩
      walk_at "rd"
      refine ⟨⟨cc, rfl, hc128⟩, fun y hy => ⟨y, 5000, rfl, hy, by decide, ?_⟩⟩
      walk_at "rd"
      intro y2 hy2
      walk_at "rd"
      exact ⟨(by show 1 ≤ sizeLine; decide), e5 hok (fun h => hno (h cc hmem)) H' hs⟩
    · have hyes : cc = (48 + a).toNat ∨ cc = (48 + b).toNat := by
        have c2 : (decide (dig a = ⟨#[cc]⟩) || decide (dig b = ⟨#[cc]⟩)) = true := by
          cases hh : (decide (dig a = ⟨#[cc]⟩) || decide (dig b = ⟨#[cc]⟩)) with
          | true => rfl
          | false => rw [hh] at c1; exact absurd rfl c1
        rw [Bool.or_eq_true, decide_eq_true_iff, decide_eq_true_iff] at c2
        rcases c2 with h | h
        · exact .inl (ia.mp h)
        · exact .inr (ib.mp h)
      walk_at "rd"
      refine ⟨.inl ⟨rfl, _, SqL.of hlx⟩, ?_⟩
      walk_at "rd"
      have hval : valO (dig a) (.int a) (dig b) (.int b) ⟨#[cc]⟩ = some (.int ((cc : Int) - 48)) := by
        unfold valO
        by_cases h : dig a = ⟨#[cc]⟩
        · rw [if_pos h]
          have := ia.mp h
          congr 2
          omega
        · rw [if_neg h]
          have h2 : dig b = ⟨#[cc]⟩ := by
            rcases hyes with z | z
            · exact absurd (ia.mpr z) h
            · exact ib.mpr z
          rw [if_pos h2]
          have := ib.mp h2
          congr 2
          omega
      refine ⟨p, _, _, _, _, _, _, rfl, rfl, hpx, hval, ?_⟩
      walk_at "rd"
      refine rd_app hlx (small' (by rw [List.length_map, List.length_map, List.length_take]; omega)) ?_
      walk_at "rd"
      refine ⟨⟨_, rfl⟩, same_upd hs hln, by rw [upd_ne hpl]; exact hpx, ?_, fun c hc => ?_⟩
      · rw [upd_same, tk]; simp [I2]
      · rw [tk] at hc
        rcases List.mem_append.mp hc with hc | hc
        · exact hm c hc
        · rw [List.mem_singleton.mp hc]; exact hyes
  · rintro σ H' ⟨⟨kv, rfl⟩, hs, hpx, hlx, hm⟩
    walk_at "rd"
    rw [← zl, List.take_length] at hlx hm
    exact q hok hm l H' ⟨hs, hln, hlx⟩
theorem sc_law_call : FnScope ["call", "letters", "row", "odd"] ["call", "letters", "row", "odd"] (defScope (top 52)) := ⟨rfl, rfl, rfl, by decide +kernel, rfl, by decide +kernel, by decide +kernel⟩
theorem ok_law_call (d : DefAt K mg "_law_call" (top 52) ["call", "letters", "row", "odd"]) (T_inner : Has P w K mg base "inner" 3 ["letters", "row"] (spInnerC K c)) (T_height : Has P w K mg base "height" 4 ["letters", "row"] (spHeightC K c)) (T_goes_on : Has P w K mg base "goes_on" 5 ["letters", "row"] (spGoes K c)) (T_shown : Has P w K mg base "shown" 3 ["letters", "row"] (spShown K c)) (T_all_smooth : Has P w K mg base "all_smooth" 5 ["letters", "many"] (spAll K c)) (T_read : Has P w K mg base "read" 2 ["letters", "text"] (spRead K c)) (T_own : Has P w K mg base "own" 3 ["letters", "sign", "many"] (spOwn K c)) (T_own_runs : Has P w K mg base "own_runs" 3 ["letters", "sign", "many"] (spOwnRuns K c)) (T_built : Has P w K mg base "built" 3 ["letters", "sign", "some"] (spBuild K c)) : Has P w K mg base "_law_call" 6 ["call", "letters", "row", "odd"] (spCallK K c) := by
  refine d.has sc_law_call (fun vs H Q E h => ?_) (fun f cdv A outer s H vs Q E hr h => ?_)
  · obtain ⟨t, r, a, b, ns, cl, odd, rfl, _⟩ := h; rfl
  obtain ⟨t, r, a, b, ns, cl, odd, rfl, hcl, hodd, hlr, hR, q, e⟩ := h
  have S := sc_law_call
  have hu := hr.units
  refine ⟨_, (pss_cons (ps_if (pt_cmpR (op_eqK (K := K) hu) (pv 0) pe_int (nomark _)) (pss_one (ps_expr (pe_callN T_inner hr rfl pass_cx (pa_cons (pv 1) (pa_cons (pv 2) pa_nil star_Name) star_Name)))) pss_nil)
 (pss_cons (ps_if (pt_cmpR (op_eqK (K := K) hu) (pv 0) pe_int (nomark _)) (pss_one (ps_expr (pe_callN T_height hr rfl pass_cx (pa_cons (pv 1) (pa_cons (pv 2) pa_nil star_Name) star_Name)))) pss_nil)
 (pss_cons (ps_if (pt_cmpR (op_eqK (K := K) hu) (pv 0) pe_int (nomark _)) (pss_one (ps_expr (pe_callN T_goes_on hr rfl pass_cx (pa_cons (pv 1) (pa_cons (pv 2) pa_nil star_Name) star_Name)))) pss_nil)
 (pss_cons (ps_if (pt_cmpR (op_eqK (K := K) hu) (pv 0) pe_int (nomark _)) (pss_one (ps_expr (pe_callN T_shown hr rfl pass_cx (pa_cons (pv 1) (pa_cons (pv 2) pa_nil star_Name) star_Name)))) pss_nil)
 (pss_cons (ps_if (pt_cmpR (op_eqK (K := K) hu) (pv 0) pe_int (nomark _)) (pss_one (ps_expr (pe_callN T_all_smooth hr rfl pass_cx (pa_cons (pv 1) (pa_cons (pe_ix (ix_seqK (K := K)) (pe_lst (pa_cons pe_int (pa_cons pe_int pa_nil star_Constant) star_Constant)) (pv 3) (fun _ _ => rfl)) pa_nil star_Subscript) star_Name)))) pss_nil)
 (pss_cons (ps_if (pt_cmpR (op_eqK (K := K) hu) (pv 0) pe_int (nomark _)) (pss_one (ps_expr (pe_callN T_read hr rfl pass_cx (pa_cons (pv 1) (pa_cons (pe_ix (ix_seqK (K := K)) (pe_lst (pa_cons pe_str (pa_cons pe_str pa_nil star_Constant) star_Constant)) (pv 3) (fun _ _ => rfl)) pa_nil star_Subscript) star_Name)))) pss_nil)
 (pss_cons (ps_if (pt_cmpR (op_eqK (K := K) hu) (pv 0) pe_int (nomark _)) (pss_one (ps_expr (pe_callN T_own hr rfl pass_cx (pa_cons (pv 1) (pa_cons (pe_ix (ix_seqK (K := K)) (pv 1) pe_int (fun _ _ => rfl)) (pa_cons (pe_ix (ix_seqK (K := K)) (pe_lst (pa_cons pe_int (pa_cons pe_int pa_nil star_Constant) star_Constant)) (pv 3) (fun _ _ => rfl)) pa_nil star_Subscript) star_Subscript) star_Name)))) pss_nil)
 (pss_cons (ps_if (pt_cmpR (op_eqK (K := K) hu) (pv 0) pe_int (nomark _)) (pss_one (ps_expr (pe_callN T_own_runs hr rfl pass_cx (pa_cons (pv 1) (pa_cons (pe_ix (ix_seqK (K := K)) (pe_lst (pa_cons (pe_ix (ix_seqK (K := K)) (pv 1) pe_int (fun _ _ => rfl)) (pa_cons pe_int pa_nil star_Constant) star_Subscript)) (pv 3) (fun _ _ => rfl)) (pa_cons pe_int pa_nil star_Constant) star_Subscript) star_Name)))) pss_nil)
 (pss_one (ps_if (pt_cmpR (op_eqK (K := K) hu) (pv 0) pe_int (nomark _)) (pss_one (ps_expr (pe_callN T_built hr rfl pass_cx (pa_cons (pv 1) (pa_cons (pe_ix (ix_seqK (K := K)) (pv 1) pe_int (fun _ _ => rfl)) (pa_cons (pe_lst (pa_cons pe_int (pa_cons (pe_op op_sub pe_int (pe_op op_mulA pe_int (pv 3))) pa_nil star_BinOp) star_Constant)) pa_nil star_List) star_Subscript) star_Name)))) pss_nil)))))))))), ?_⟩
  have e0 : ¬ okL a b → ∀ H', Same H H' → E (.ref (c 0)) none H' := fun h => e 0 (by unfold dueJ; rw [if_neg h])
  have e1 : cl ≤ 3 → okL a b → ¬ okR a b ns → ∀ H', Same H H' → E (.ref (c 1)) none H' := fun h1 h2 h3 => e 1 (by unfold dueJ; rw [if_pos h2, if_pos h1, if_neg h3])
  have eo : 3 < cl → okL a b → odd = 1 → ∀ H', Same H H' → E (.ref (c (kj cl))) none H' := fun h1 h2 h3 => e (kj cl) (by unfold dueJ; rw [if_pos h2, if_neg (by omega), if_pos h3])
  have qn : cl ≤ 3 → okL a b → okR a b ns → ∀ H', Same H H' → Q .non H' := fun h1 h2 h3 => q (by unfold dueJ; rw [if_pos h2, if_pos h1, if_pos h3])
  have qe : 3 < cl → okL a b → odd = 0 → ∀ H', Same H H' → Q .non H' := fun h1 h2 h3 => q (by unfold dueJ; rw [if_pos h2, if_neg (by omega), if_neg (by omega)])
  have hT := hlr.1
  have hab := hlr.2.2.1
  have hz := hlr.2.2.2.1
  clear e q
  have hc9 : cl = 0 ∨ cl = 1 ∨ cl = 2 ∨ cl = 3 ∨ cl = 4 ∨ cl = 5 ∨ cl = 6 ∨ cl = 7 ∨ cl = 8 := by omega
  walk_at "rd"
  rcases hc9 with rfl | rfl | rfl | rfl | rfl | rfl | rfl | rfl | rfl
  · refine ite2 (fun _ => ?_) (fun cc => absurd (decide_eq_true rfl) cc)
    walk_at "rd"
    refine ⟨t, r, a, b, ns, rfl, hlr, fun hok hrow => ⟨fun _ H1 s1 => ?_, fun v _ l H1 n1 => ?_⟩, fun h => e0 h H (Same.refl H), fun h h' => e1 (by decide) h h' H (Same.refl H)⟩
    · walk_at "rd"
      refine ite2 (fun cc => absurd (of_decide_eq_true cc) (by decide)) (fun _ => ?_)
      walk_at "rd"
      refine ite2 (fun cc => absurd (of_decide_eq_true cc) (by decide)) (fun _ => ?_)
      walk_at "rd"
      refine ite2 (fun cc => absurd (of_decide_eq_true cc) (by decide)) (fun _ => ?_)
      walk_at "rd"
      refine ite2 (fun cc => absurd (of_decide_eq_true cc) (by decide)) (fun _ => ?_)
      walk_at "rd"
      refine ite2 (fun cc => absurd (of_decide_eq_true cc) (by decide)) (fun _ => ?_)
      walk_at "rd"
      refine ite2 (fun cc => absurd (of_decide_eq_true cc) (by decide)) (fun _ => ?_)
      walk_at "rd"
      refine ite2 (fun cc => absurd (of_decide_eq_true cc) (by decide)) (fun _ => ?_)
      walk_at "rd"
      refine ite2 (fun cc => absurd (of_decide_eq_true cc) (by decide)) (fun _ => ?_)
      walk_at "rd"
      exact qn (by decide) hok hrow H1 s1
    · walk_at "rd"
      refine ite2 (fun cc => absurd (of_decide_eq_true cc) (by decide)) (fun _ => ?_)
      walk_at "rd"
      refine ite2 (fun cc => absurd (of_decide_eq_true cc) (by decide)) (fun _ => ?_)
      walk_at "rd"
      refine ite2 (fun cc => absurd (of_decide_eq_true cc) (by decide)) (fun _ => ?_)
      walk_at "rd"
      refine ite2 (fun cc => absurd (of_decide_eq_true cc) (by decide)) (fun _ => ?_)
      walk_at "rd"
      refine ite2 (fun cc => absurd (of_decide_eq_true cc) (by decide)) (fun _ => ?_)
      walk_at "rd"
      refine ite2 (fun cc => absurd (of_decide_eq_true cc) (by decide)) (fun _ => ?_)
      walk_at "rd"
      refine ite2 (fun cc => absurd (of_decide_eq_true cc) (by decide)) (fun _ => ?_)
      walk_at "rd"
      refine ite2 (fun cc => absurd (of_decide_eq_true cc) (by decide)) (fun _ => ?_)
      walk_at "rd"
      exact qn (by decide) hok hrow H1 n1.same
  · refine ite2 (fun cc => absurd (of_decide_eq_true cc) (by decide)) (fun _ => ?_)
    walk_at "rd"
    refine ite2 (fun _ => ?_) (fun cc => absurd (decide_eq_true rfl) cc)
    walk_at "rd"
    refine ⟨t, r, a, b, ns, rfl, hlr, fun hok hrow H1 s1 => ?_, fun h => e0 h H (Same.refl H), fun h h' => e1 (by decide) h h' H (Same.refl H)⟩
    walk_at "rd"
    refine ite2 (fun cc => absurd (of_decide_eq_true cc) (by decide)) (fun _ => ?_)
    walk_at "rd"
    refine ite2 (fun cc => absurd (of_decide_eq_true cc) (by decide)) (fun _ => ?_)
    walk_at "rd"
    refine ite2 (fun cc => absurd (of_decide_eq_true cc) (by decide)) (fun _ => ?_)
    walk_at "rd"
    refine ite2 (fun cc => absurd (of_decide_eq_true cc) (by decide)) (fun _ => ?_)
    walk_at "rd"
    refine ite2 (fun cc => absurd (of_decide_eq_true cc) (by decide)) (fun _ => ?_)
    walk_at "rd"
    refine ite2 (fun cc => absurd (of_decide_eq_true cc) (by decide)) (fun _ => ?_)
    walk_at "rd"
    refine ite2 (fun cc => absurd (of_decide_eq_true cc) (by decide)) (fun _ => ?_)
    walk_at "rd"
    exact qn (by decide) hok hrow H1 s1
  · refine ite2 (fun cc => absurd (of_decide_eq_true cc) (by decide)) (fun _ => ?_)
    walk_at "rd"
    refine ite2 (fun cc => absurd (of_decide_eq_true cc) (by decide)) (fun _ => ?_)
    walk_at "rd"
    refine ite2 (fun _ => ?_) (fun cc => absurd (decide_eq_true rfl) cc)
    walk_at "rd"
    refine ⟨t, r, a, b, ns, rfl, hlr, hR, fun hok hrow l H1 n1 => ?_, fun h => e0 h H (Same.refl H), fun h h' => e1 (by decide) h h' H (Same.refl H)⟩
    walk_at "rd"
    refine ite2 (fun cc => absurd (of_decide_eq_true cc) (by decide)) (fun _ => ?_)
    walk_at "rd"
    refine ite2 (fun cc => absurd (of_decide_eq_true cc) (by decide)) (fun _ => ?_)
    walk_at "rd"
    refine ite2 (fun cc => absurd (of_decide_eq_true cc) (by decide)) (fun _ => ?_)
    walk_at "rd"
    refine ite2 (fun cc => absurd (of_decide_eq_true cc) (by decide)) (fun _ => ?_)
    walk_at "rd"
    refine ite2 (fun cc => absurd (of_decide_eq_true cc) (by decide)) (fun _ => ?_)
    walk_at "rd"
    refine ite2 (fun cc => absurd (of_decide_eq_true cc) (by decide)) (fun _ => ?_)
    walk_at "rd"
    exact qn (by decide) hok hrow H1 n1.same
  · refine ite2 (fun cc => absurd (of_decide_eq_true cc) (by decide)) (fun _ => ?_)
    walk_at "rd"
    refine ite2 (fun cc => absurd (of_decide_eq_true cc) (by decide)) (fun _ => ?_)
    walk_at "rd"
    refine ite2 (fun cc => absurd (of_decide_eq_true cc) (by decide)) (fun _ => ?_)
    walk_at "rd"
    refine ite2 (fun _ => ?_) (fun cc => absurd (decide_eq_true rfl) cc)
    walk_at "rd"
    refine ⟨t, r, a, b, ns, rfl, hlr, fun hok hrow H1 s1 => ?_, fun h => e0 h H (Same.refl H), fun h h' => e1 (by decide) h h' H (Same.refl H)⟩
    walk_at "rd"
    refine ite2 (fun cc => absurd (of_decide_eq_true cc) (by decide)) (fun _ => ?_)
    walk_at "rd"
    refine ite2 (fun cc => absurd (of_decide_eq_true cc) (by decide)) (fun _ => ?_)
    walk_at "rd"
    refine ite2 (fun cc => absurd (of_decide_eq_true cc) (by decide)) (fun _ => ?_)
    walk_at "rd"
    refine ite2 (fun cc => absurd (of_decide_eq_true cc) (by decide)) (fun _ => ?_)
    walk_at "rd"
    refine ite2 (fun cc => absurd (of_decide_eq_true cc) (by decide)) (fun _ => ?_)
    walk_at "rd"
    exact qn (by decide) hok hrow H1 s1
  · refine ite2 (fun cc => absurd (of_decide_eq_true cc) (by decide)) (fun _ => ?_)
    walk_at "rd"
    refine ite2 (fun cc => absurd (of_decide_eq_true cc) (by decide)) (fun _ => ?_)
    walk_at "rd"
    refine ite2 (fun cc => absurd (of_decide_eq_true cc) (by decide)) (fun _ => ?_)
    walk_at "rd"
    refine ite2 (fun cc => absurd (of_decide_eq_true cc) (by decide)) (fun _ => ?_)
    walk_at "rd"
    refine ite2 (fun _ => ?_) (fun cc => absurd (decide_eq_true rfl) cc)
    walk_at "rd"
    refine ⟨(by show 2 ≤ sizeLine; decide), fun p hp => ?_⟩
    have s1 := same_new hp (.lst [.int 2, .int 11])
    walk_at "rd"
    refine rd_ixL (SqL.of upd_same) (two_at hodd) ?_
    have hv : (if odd = 0 then V.int 2 else V.int 11) = V.int (if odd = 0 then 2 else 11) := by split <;> rfl
    rw [hv]
    generalize upd H p (.lst [.int 2, .int 11]) = H1 at s1 ⊢
    walk_at "rd"
    refine ⟨t, a, b, _, rfl, s1.seqT hT, hab, by split <;> decide, fun hok m0 m1 l ps H2 s2 _ _ _ _ => ?_, fun h => e0 h H1 s1, fun h h' => eo (by decide) h (by rcases hodd with z | z; subst z; exact absurd ⟨by decide, by decide⟩ h'; exact z) H1 s1⟩
    have ho : odd = 0 := by rcases hodd with z | z; exact z; subst z; exact absurd m1 (by decide)
    walk_at "rd"
    refine ite2 (fun cc => absurd (of_decide_eq_true cc) (by decide)) (fun _ => ?_)
    walk_at "rd"
    refine ite2 (fun cc => absurd (of_decide_eq_true cc) (by decide)) (fun _ => ?_)
    walk_at "rd"
    refine ite2 (fun cc => absurd (of_decide_eq_true cc) (by decide)) (fun _ => ?_)
    walk_at "rd"
    refine ite2 (fun cc => absurd (of_decide_eq_true cc) (by decide)) (fun _ => ?_)
    walk_at "rd"
    exact qe (by decide) hok ho H2 (s1.trans s2)
  · refine ite2 (fun cc => absurd (of_decide_eq_true cc) (by decide)) (fun _ => ?_)
    walk_at "rd"
    refine ite2 (fun cc => absurd (of_decide_eq_true cc) (by decide)) (fun _ => ?_)
    walk_at "rd"
    refine ite2 (fun cc => absurd (of_decide_eq_true cc) (by decide)) (fun _ => ?_)
    walk_at "rd"
    refine ite2 (fun cc => absurd (of_decide_eq_true cc) (by decide)) (fun _ => ?_)
    walk_at "rd"
    refine ite2 (fun cc => absurd (of_decide_eq_true cc) (by decide)) (fun _ => ?_)
    walk_at "rd"
    refine ite2 (fun _ => ?_) (fun cc => absurd (decide_eq_true rfl) cc)
    walk_at "rd"
    refine ⟨(by show 2 ≤ sizeLine; decide), fun p hp => ?_⟩
    have s1 := same_new hp (.lst [.str (Str.ofString ""), .str (Str.ofString "x")])
    walk_at "rd"
    refine rd_ixL (SqL.of upd_same) (two_at hodd) ?_
    have hv : (if odd = 0 then V.str (Str.ofString "") else V.str (Str.ofString "x")) = V.str (if odd = 0 then Str.ofString "" else Str.ofString "x") := by split <;> rfl
    rw [hv]
    generalize upd H p (.lst [.str (Str.ofString ""), .str (Str.ofString "x")]) = H1 at s1 ⊢
    walk_at "rd"
    have f0 : figs a b (Str.ofString "") := by
      have : (Str.ofString "").cps.toList = [] := by decide +kernel
      intro y hy
      rw [this] at hy; cases hy
    have fx : okL a b → ¬ figs a b (Str.ofString "x") := fun hok h => by
      unfold okL at hok
      have h120 : (120 : Nat) ∈ (Str.ofString "x").cps.toList := by decide +kernel
      have := h 120 h120
      omega
    refine ⟨t, a, b, _, rfl, s1.seqT hT, hab, by split <;> (unfold asc; decide +kernel), by split <;> decide +kernel, fun hok hf l H2 n2 => ?_, fun h => e0 h H1 s1, fun h h' H2 s2 => eo (by decide) h (by rcases hodd with z | z; subst z; exact absurd f0 h'; exact z) H2 (s1.trans s2)⟩
    have ho : odd = 0 := by rcases hodd with z | z; exact z; subst z; exact absurd hf (fx hok)
    walk_at "rd"
    refine ite2 (fun cc => absurd (of_decide_eq_true cc) (by decide)) (fun _ => ?_)
    walk_at "rd"
    refine ite2 (fun cc => absurd (of_decide_eq_true cc) (by decide)) (fun _ => ?_)
    walk_at "rd"
    refine ite2 (fun cc => absurd (of_decide_eq_true cc) (by decide)) (fun _ => ?_)
    walk_at "rd"
    exact qe (by decide) hok ho H2 (s1.trans n2.same)
  · refine ite2 (fun cc => absurd (of_decide_eq_true cc) (by decide)) (fun _ => ?_)
    walk_at "rd"
    refine ite2 (fun cc => absurd (of_decide_eq_true cc) (by decide)) (fun _ => ?_)
    walk_at "rd"
    refine ite2 (fun cc => absurd (of_decide_eq_true cc) (by decide)) (fun _ => ?_)
    walk_at "rd"
    refine ite2 (fun cc => absurd (of_decide_eq_true cc) (by decide)) (fun _ => ?_)
    walk_at "rd"
    refine ite2 (fun cc => absurd (of_decide_eq_true cc) (by decide)) (fun _ => ?_)
    walk_at "rd"
    refine ite2 (fun cc => absurd (of_decide_eq_true cc) (by decide)) (fun _ => ?_)
    walk_at "rd"
    refine ite2 (fun _ => ?_) (fun cc => absurd (decide_eq_true rfl) cc)
    walk_at "rd"
    refine rd_ixT hT two_at0 ?_
    walk_at "rd"
    refine ⟨(by show 2 ≤ sizeLine; decide), fun p hp => ?_⟩
    have s1 := same_new hp (.lst [.int 3, .int 401])
    walk_at "rd"
    refine rd_ixL (SqL.of upd_same) (two_at hodd) ?_
    have hv : (if odd = 0 then V.int 3 else V.int 401) = V.int (if odd = 0 then 3 else 401) := by split <;> rfl
    rw [hv]
    generalize upd H p (.lst [.int 3, .int 401]) = H1 at s1 ⊢
    walk_at "rd"
    refine ⟨t, a, b, a, _, rfl, ⟨s1.seqT hT, hab, by omega, by split <;> decide⟩, fun hok _ m0 m1 l H2 n2 => ?_, fun h => e0 h H1 s1, fun _ h => absurd (.inl rfl) h, fun h _ h' => eo (by decide) h (by rcases hodd with z | z; subst z; exact absurd ⟨by decide, by decide⟩ h'; exact z) H1 s1⟩
    have ho : odd = 0 := by rcases hodd with z | z; exact z; subst z; exact absurd m1 (by decide)
    walk_at "rd"
    refine ite2 (fun cc => absurd (of_decide_eq_true cc) (by decide)) (fun _ => ?_)
    walk_at "rd"
    refine ite2 (fun cc => absurd (of_decide_eq_true cc) (by decide)) (fun _ => ?_)
    walk_at "rd"
    exact qe (by decide) hok ho H2 (s1.trans n2.same)
  · refine ite2 (fun cc => absurd (of_decide_eq_true cc) (by decide)) (fun _ => ?_)
    walk_at "rd"
    refine ite2 (fun cc => absurd (of_decide_eq_true cc) (by decide)) (fun _ => ?_)
    walk_at "rd"
    refine ite2 (fun cc => absurd (of_decide_eq_true cc) (by decide)) (fun _ => ?_)
    walk_at "rd"
    refine ite2 (fun cc => absurd (of_decide_eq_true cc) (by decide)) (fun _ => ?_)
    walk_at "rd"
    refine ite2 (fun cc => absurd (of_decide_eq_true cc) (by decide)) (fun _ => ?_)
    walk_at "rd"
    refine ite2 (fun cc => absurd (of_decide_eq_true cc) (by decide)) (fun _ => ?_)
    walk_at "rd"
    refine ite2 (fun cc => absurd (of_decide_eq_true cc) (by decide)) (fun _ => ?_)
    walk_at "rd"
    refine ite2 (fun _ => ?_) (fun cc => absurd (decide_eq_true rfl) cc)
    walk_at "rd"
    refine rd_ixT hT two_at1 ?_
    walk_at "rd"
    refine ⟨(by show 2 ≤ sizeLine; decide), fun p hp => ?_⟩
    have s1 := same_new hp (.lst [.int b, .int 11])
    walk_at "rd"
    refine rd_ixL (SqL.of upd_same) (two_at hodd) ?_
    have hv : (if odd = 0 then V.int b else V.int 11) = V.int (if odd = 0 then b else 11) := by split <;> rfl
    rw [hv]
    generalize upd H p (.lst [.int b, .int 11]) = H1 at s1 ⊢
    walk_at "rd"
    refine ⟨t, a, b, _, 3, rfl, ⟨s1.seqT hT, hab, by split <;> omega, by decide⟩, fun hok hsg m0 m1 l H2 ts s2 _ _ _ => ?_, fun h => e0 h H1 s1, fun h h' => eo (by decide) h (by rcases hodd with z | z; subst z; exact absurd (.inr rfl) h'; exact z) H1 s1, fun _ _ h => absurd ⟨by decide, by decide⟩ h⟩
    have ho : odd = 0 := by
      rcases hodd with z | z
      · exact z
      · subst z
        unfold okL at hok
        rw [if_neg (by decide)] at hsg
        omega
    walk_at "rd"
    refine ite2 (fun cc => absurd (of_decide_eq_true cc) (by decide)) (fun _ => ?_)
    walk_at "rd"
    exact qe (by decide) hok ho H2 (s1.trans s2)
  · refine ite2 (fun cc => absurd (of_decide_eq_true cc) (by decide)) (fun _ => ?_)
    walk_at "rd"
    refine ite2 (fun cc => absurd (of_decide_eq_true cc) (by decide)) (fun _ => ?_)
    walk_at "rd"
    refine ite2 (fun cc => absurd (of_decide_eq_true cc) (by decide)) (fun _ => ?_)
    walk_at "rd"
    refine ite2 (fun cc => absurd (of_decide_eq_true cc) (by decide)) (fun _ => ?_)
    walk_at "rd"
    refine ite2 (fun cc => absurd (of_decide_eq_true cc) (by decide)) (fun _ => ?_)
    walk_at "rd"
    refine ite2 (fun cc => absurd (of_decide_eq_true cc) (by decide)) (fun _ => ?_)
    walk_at "rd"
    refine ite2 (fun cc => absurd (of_decide_eq_true cc) (by decide)) (fun _ => ?_)
    walk_at "rd"
    refine ite2 (fun cc => absurd (of_decide_eq_true cc) (by decide)) (fun _ => ?_)
    walk_at "rd"
    refine ite2 (fun _ => ?_) (fun cc => absurd (decide_eq_true rfl) cc)
    walk_at "rd"
    refine rd_ixT hT two_at0 ?_
    walk_at "rd"
    refine .inl ⟨_, _, rfl, rfl, .inl ⟨by decide, by decide⟩, ?_⟩
    walk_at "rd"
    refine ⟨(by show 2 ≤ sizeLine; decide), fun p hp => ?_⟩
    have s1 := same_new hp (.lst (I2 [1, 2 - 2 * odd]))
    have hp1 : upd H p (.lst (I2 [1, 2 - 2 * odd])) p = some (.lst (I2 [1, 2 - 2 * odd])) := upd_same
    walk_at "rd"
    change spBuild K c [.ref t, .int a, .ref p] (upd H p (.lst (I2 [1, 2 - 2 * odd]))) _ _
    generalize upd H p (.lst (I2 [1, 2 - 2 * odd])) = H1 at s1 hp1 ⊢
    refine ⟨t, p, a, b, a, [1, 2 - 2 * odd], rfl, ⟨s1.seqT hT, SqL.of hp1, hab, by simp, fun y hy => ?_⟩, by omega, fun hok _ hN l H2 n2 => ?_, fun h => e0 h H1 s1, fun _ h => absurd (.inl rfl) h, fun h _ h' => eo (by decide) h ?_ H1 s1⟩
    · have : y = 1 ∨ y = 2 - 2 * odd := by simpa using hy
      omega
    · have ho : odd = 0 := by
        have := (hN.2 (2 - 2 * odd) (by simp)).1
        omega
      walk_at "rd"
      exact qe (by decide) hok ho H2 (s1.trans n2.same)
    · rcases hodd with z | z
      · subst z
        exact absurd ⟨by decide, fun y hy => by have : y = 1 ∨ y = 2 := by simpa using hy
                                                omega⟩ h'
      · exact z
theorem sc_law_kinds : FnScope ["call", "letters", "row", "odd", "kinds", "e"] ["call", "letters", "row", "odd"] (defScope (top 53)) := ⟨rfl, rfl, rfl, by decide +kernel, rfl, by decide +kernel, by decide +kernel⟩
theorem ok_law_kinds (d : DefAt K mg "_law_kinds" (top 53) ["call", "letters", "row", "odd"]) (T_m_RunError : mg "RunError" = some (.ref (c 6))) (T_ty_RunError : PySem.W.typeIn K (.ref (c 6)) = some (.type "type")) (T_cs_RunError : (PySem.W.clsIn K (c 6)).isSome = true) (T_be_RunError : PySem.W.mroIn K (c 6) (.type "BaseException") = some true) (T_law_call : Has P w K mg base "_law_call" 6 ["call", "letters", "row", "odd"] (spCallK K c)) (T_law_kind : HasH P w K mg base "_law_kind" 1 ["e"] (spKind K c)) (hK : Kits K c) : Has P w K mg base "_law_kinds" 7 ["call", "letters", "row", "odd"] (spKinds K c) := by
  refine d.has sc_law_kinds (fun vs H Q E h => ?_) (fun f cdv A outer s H vs Q E hr h => ?_)
  · obtain ⟨t, r, a, b, ns, cl, odd, rfl, _⟩ := h; rfl
  obtain ⟨t, r, a, b, ns, cl, odd, rfl, hcl, hodd, hlr, hR, q⟩ := h
  have S := sc_law_kinds
  have hu := hr.units
  refine ⟨_, (pss_cons (ps_set (i := 4) S.nd rfl (by first | exact Or.inl rfl | exact Or.inr rfl) (pe_lst pa_nil))
 (pss_cons (ps_tryAs (i := 5) rfl rfl rfl rfl T_m_RunError T_ty_RunError T_cs_RunError T_be_RunError S.nd rfl rfl (fun p0 Hd E' hc => (pss_one (ps_expr (pe_callNT T_law_call hr rfl rfl hc (pa_cons (pv 0) (pa_cons (pv 1) (pa_cons (pv 2) (pa_cons (pv 3) pa_nil star_Name) star_Name) star_Name) star_Name))))) (fun a => (pss_one (ps_set (i := 4) S.nd rfl (by first | exact Or.inl rfl | exact Or.inr rfl) (pe_callNH T_law_kind (hr.toH _) rfl passE (pa_cons (pv 5) pa_nil star_Name))))))
 (pss_one (ps_ret (pv 4))))), ?_⟩
  walk_at "rd"
  refine ⟨(by show 0 ≤ sizeLine; decide), fun kd hkd => ?_⟩
  have s0 := same_new hkd (.lst [])
  have hk0 : upd H kd (.lst []) kd = some (.lst []) := upd_same
  generalize upd H kd (.lst []) = H1 at s0 hk0 ⊢
  walk_at "rd"
  refine ⟨t, r, a, b, ns, cl, odd, rfl, hcl, hodd, hlr.stay s0, s0 _ _ hR, fun hd H2 s2 => ?_, fun j hd H2 s2 => ⟨_, rfl, hK.sub j (dueJ_lt hd), fun ea hea => ?_⟩⟩
  · walk_at "rd"
    exact q kd H2 (s0.trans s2) (by rw [hd]; exact s2 _ _ hk0)
  · have s3 := same_new hea (excO ea (c j))
    walk_at "rd"
    refine ⟨ea, j, rfl, dueJ_lt hd, upd_same, fun l H3 n3 => ?_⟩
    walk_at "rd"
    exact q l H3 (s0.trans (s2.trans (s3.trans n3.same))) (by rw [hd]; exact n3.here)
theorem sc_law : FnScope ["script", "letters", "row", "call", "odd", "due", "others"] ["script"] (defScope (top 54)) := ⟨rfl, rfl, rfl, by decide +kernel, rfl, by decide +kernel, by decide +kernel⟩
theorem ok_law (d : DefAt K mg "law" (top 54) ["script"]) (T_law_letters : Has P w K mg base "_law_letters" 1 ["cell"] (spLetters)) (T_law_cell_at : Has P w K mg base "_law_cell_at" 1 ["script", "k"] (spCell K)) (T_law_digits : Has P w K mg base "_law_digits" 1 ["letters", "cell", "many"] (spDigits K)) (T_z_len : mg "len" = none) (T_law_one : Has P w K mg base "_law_one" 1 ["k"] (spOne)) (T_law_kinds : Has P w K mg base "_law_kinds" 7 ["call", "letters", "row", "odd"] (spKinds K c)) : Has P w K mg base "law" 8 ["script"] (spLaw K) := by
  refine d.has sc_law (fun vs H Q E h => ?_) (fun f cdv A outer s H vs Q E hr h => ?_)
  · obtain ⟨sc, ns, rfl, _⟩ := h; rfl
  obtain ⟨sc, ns, rfl, hS, h63, q⟩ := h
  have S := sc_law
  have hu := hr.units
  let P2 : St → Hp → Prop := fun σ' H' => ∃ t a b, σ' = [some (.ref sc), some (.ref t), none, none, none, none, none] ∧ Same H H' ∧ SqT K H' t [.int a, .int b] ∧ (0 ≤ a ∧ a ≤ 10 ∧ 0 ≤ b ∧ b ≤ 10)
  let P4 : St → Hp → Prop := fun σ' H' => ∃ t r a b rs, σ' = [some (.ref sc), some (.ref t), some (.ref r), none, none, none, none] ∧ Same H H' ∧ LR K H' t r a b rs ∧ H' r = some (.lst (I2 rs)) ∧ (0 ≤ a ∧ a ≤ 10 ∧ 0 ≤ b ∧ b ≤ 10)
  let P5 : St → Hp → Prop := P4
  let P8 : St → Hp → Prop := fun σ' H' => ∃ t r a b rs cl odd l, σ' = [some (.ref sc), some (.ref t), some (.ref r), some (.int cl), some (.int odd), some (.ref l), none] ∧ LR K H' t r a b rs ∧ H' r = some (.lst (I2 rs)) ∧ (0 ≤ cl ∧ cl ≤ 8) ∧ (odd = 0 ∨ odd = 1) ∧ H' l = some (.lst ((due8 cl odd).map V.bl))
  let P11 : St → Hp → Prop := fun σ' H' => ∃ t r a b rs cl odd l k6, σ' = [some (.ref sc), some (.ref t), some (.ref r), some (.int cl), some (.int odd), some (.ref l), k6] ∧ LR K H' t r a b rs ∧ H' r = some (.lst (I2 rs)) ∧ (0 ≤ cl ∧ cl ≤ 8) ∧ (odd = 0 ∨ odd = 1) ∧ H' l = some (.lst ((due10 a b rs cl odd).map V.bl))
  let P12 : St → Hp → Prop := fun σ' H' => ∃ t r a b rs cl odd l k6, σ' = [some (.ref sc), some (.ref t), some (.ref r), some (.int cl), some (.int odd), some (.ref l), k6] ∧ LR K H' t r a b rs ∧ H' r = some (.lst (I2 rs)) ∧ (0 ≤ cl ∧ cl ≤ 8) ∧ (odd = 0 ∨ odd = 1) ∧ H' l = some (.lst ((kindsOf (dueJ a b rs cl odd)).map V.bl))
  have R12 : PSs (cxOf (CXE P w) P w K mg base ["script", "letters", "row", "call", "odd", "due", "others"] "law" (defScope (top 54)) f cdv A outer s H E) ((defBody (top 54)).drop 12) (fun D' σ' H' => D' = { nx := fun _ H' => Q .non H', rt := Q } ∧ P12 σ' H') := by
    refine PSs.weak ((pss_one (ps_ret (pe_cmpR (op_eqK (K := K) hu) (pe_callN T_law_kinds hr rfl passE (pa_cons (pv 3) (pa_cons (pv 1) (pa_cons (pv 2) (pa_cons (pv 4) pa_nil star_Name) star_Name) star_Name) star_Name)) (pv 5) (nomark _))))) ?_
    rintro D σ' H1 ⟨rfl, t, r, a, b, rs, cl, odd, l, k6, rfl, hlr, hr1, hcl, hodd, hl1⟩
    walk_at "rd"
    refine ⟨t, r, a, b, rs, cl, odd, rfl, hcl, hodd, hlr, hr1, fun l2 H2 s2 h2 => ?_⟩
    walk_at "rd"
    have hb := bls_ok (kindsOf (dueJ a b rs cl odd))
    refine rd_eqD (b := true) (.lst (SqL.of h2) (DtA.bls _)) (.lst (SqL.of (s2 _ _ hl1)) (DtA.bls _)) hb.1 hb.1 hb.2 ?_
    exact q _
  have R11 : PSs (cxOf (CXE P w) P w K mg base ["script", "letters", "row", "call", "odd", "due", "others"] "law" (defScope (top 54)) f cdv A outer s H E) ((defBody (top 54)).drop 11) (fun D' σ' H' => D' = { nx := fun _ H' => Q .non H', rt := Q } ∧ P11 σ' H') := by
    refine PSs.weak ((pss_cons (ps_if (pt_not (pt_chain3 op_le op_lt op_le pe_int (pe_ix (ix_seqK (K := K)) (pv 1) pe_int (fun _ _ => rfl)) (pe_ix (ix_seqK (K := K)) (pv 1) pe_int (fun _ _ => rfl)) pe_int)) (pss_one (ps_set (i := 5) S.nd rfl (by first | exact Or.inl rfl | exact Or.inr rfl) (pe_callN T_law_one hr rfl passE (pa_cons pe_int pa_nil star_Constant)))) pss_nil)
 R12)) ?_
    rintro D σ' H1 ⟨rfl, t, r, a, b, rs, cl, odd, l, k6, rfl, hlr, hr1, hcl, hodd, hl1⟩
    have fin : okL a b → ∀ H2, Same H1 H2 → P12 [some (.ref sc), some (.ref t), some (.ref r), some (.int cl), some (.int odd), some (.ref l), k6] H2 := fun hok H2 s2 => ⟨t, r, a, b, rs, cl, odd, l, k6, rfl, hlr.stay s2, s2 _ _ hr1, hcl, hodd, by rw [due_eq, if_pos hok]; exact s2 _ _ hl1⟩
    have fin0 : ¬ okL a b → ∀ l2 H2, New H1 H2 l2 (.lst ((oneOf 0).map V.bl)) → P12 [some (.ref sc), some (.ref t), some (.ref r), some (.int cl), some (.int odd), some (.ref l2), k6] H2 := fun hok l2 H2 n2 => ⟨t, r, a, b, rs, cl, odd, l2, k6, rfl, hlr.stay n2.same, n2.same _ _ hr1, hcl, hodd, by rw [due_eq, if_neg hok]; exact n2.here⟩
    walk_at "rd"
    refine rd_ixT hlr.1 two_at0 ?_
    walk_at "rd"
    refine ite2 (fun c1 => ?_) (fun c1 => ?_)
    · have c1 := of_decide_eq_true c1
      walk_at "rd"
      refine rd_ixT hlr.1 two_at1 ?_
      walk_at "rd"
      refine ite2 (fun c2 => ?_) (fun c2 => ?_)
      · have c2 := of_decide_eq_true c2
        walk_at "rd"
        refine ite2 (fun c3 => ?_) (fun c3 => ?_)
        · simp only [Bool.not_eq_true', decide_eq_false_iff_not] at c3
          walk_at "rd"
          refine ⟨0, rfl, fun l2 H2 n2 => ?_⟩
          walk_at "rd"
          exact ⟨rfl, fin0 (fun h => c3 h.2.2) l2 H2 n2⟩
        · simp only [Bool.not_eq_true', decide_eq_false_iff_not, Classical.not_not] at c3
          walk_at "rd"
          exact ⟨rfl, fin ⟨c1, c2, c3⟩ H1 (Same.refl _)⟩
      · have c2 := of_decide_eq_false (Bool.eq_false_iff.mpr c2)
        walk_at "rd"
        refine iteT ?_
        walk_at "rd"
        refine ⟨0, rfl, fun l2 H2 n2 => ?_⟩
        walk_at "rd"
        exact ⟨rfl, fin0 (fun h => c2 h.2.1) l2 H2 n2⟩
    · have c1 := of_decide_eq_false (Bool.eq_false_iff.mpr c1)
      walk_at "rd"
      refine iteT ?_
      walk_at "rd"
      refine ⟨0, rfl, fun l2 H2 n2 => ?_⟩
      walk_at "rd"
      exact ⟨rfl, fin0 (fun h => c1 h.1) l2 H2 n2⟩
  have R9 : PSs (cxOf (CXE P w) P w K mg base ["script", "letters", "row", "call", "odd", "due", "others"] "law" (defScope (top 54)) f cdv A outer s H E) ((defBody (top 54)).drop 9) (fun D' σ' H' => D' = { nx := fun _ H' => Q .non H', rt := Q } ∧ P8 σ' H') := by
    refine PSs.weak ((pss_cons (ps_compset (i₀ := 6) S.nd rfl (by first | exact Or.inl rfl | exact Or.inr rfl) (fr := ["letters"]) (ix := [1]) rfl (compsc (by decide +kernel)) (pi_listK (K := K) (pv 2)) (fun _ _ _ _ _ => (pts_one (pt_cmpR (op_notInK (K := K)) (pv 0) (pv 1) (by with_unfolding_all rfl)))) (fun _ _ _ _ _ => (pv 0)))
 (pss_cons (ps_if (PW.pt (pw_and (pt_cmpR op_lt (pv 3) pe_int (nomark _)) (pw_and1 (PW.pt (pw_or (pt_cmpR op_gt (pe_callB (call_lenK (K := K)) rfl T_z_len bt_len (pa_cons (pv 2) pa_nil star_Name)) pe_int (nomark _)) (pw_or1 (pt_cmpR (op_neK (K := K) hu) (pv 6) (pe_lst pa_nil) (nomark _)))))))) (pss_one (ps_set (i := 5) S.nd rfl (by first | exact Or.inl rfl | exact Or.inr rfl) (pe_callN T_law_one hr rfl passE (pa_cons pe_int pa_nil star_Constant)))) pss_nil)
 R11))) ?_
    rintro D σ' H1 ⟨rfl, t, r, a, b, rs, cl, odd, l, rfl, hlr, hr1, hcl, hodd, hl1⟩
    have hz := hlr.2.2.2.1
    have l0 : (I2 rs).length = rs.length := List.length_map _
    walk_at "rd"
    refine ⟨r, rfl, ⟨_, SqL.of hr1⟩, fun acc ha => comp_list (xs := I2 rs) (fun v => match v with | .int x => !decide (x = a ∨ x = b) | _ => false) (fun v => v) ha (SqL.of hr1) (small (by omega)) (fun v H3 hv hs R k => ?_) (fun v H3 hv _ hs R k => ?_) (fun H2 hn => ?_)⟩
    · obtain ⟨x, hx, rfl⟩ := List.mem_map.mp hv
      walk_at "rd"
      refine rd_notIn (hs.seqT hlr.1) ?_
      walk_at "rd"
      exact k H3 fun _ _ z => z
    · walk_at "rd"
      exact k H3 fun _ _ z => z
    have e : ((I2 rs).filter (fun v => match v with | .int x => !decide (x = a ∨ x = b) | _ => false)).map (fun v => v) = I2 (rs.filter fun x => !decide (x = a ∨ x = b)) := by
      clear hn hr1 hlr hz l0
      induction rs with
      | nil => rfl
      | cons x r ih =>
        simp only [I2, List.map_cons, List.filter_cons] at ih ⊢
        by_cases h : x = a ∨ x = b
        · simp only [h, decide_true, Bool.not_true, Bool.false_eq_true, if_false]; exact ih
        · simp only [h, decide_false, Bool.not_false, if_true, List.map_cons]; rw [ih]
    rw [e] at hn
    have hof : (rs.filter fun x => !decide (x = a ∨ x = b)) = [] ↔ ∀ x ∈ rs, x = a ∨ x = b := by
      rw [List.filter_eq_nil_iff]
      constructor
      · intro h x hx; exact Classical.byContradiction fun hn => h x hx (by rw [decide_eq_false hn]; rfl)
      · intro h x hx; rw [decide_eq_true (h x hx)]; decide
    generalize (rs.filter fun x => !decide (x = a ∨ x = b)) = os at hn hof
    have fin : ¬ (cl ≤ 3 ∧ ¬ okR a b rs) → ∀ H3, Same H2 H3 → P11 [some (.ref sc), some (.ref t), some (.ref r), some (.int cl), some (.int odd), some (.ref l), some (.ref acc)] H3 := fun hok H3 s3 => ⟨t, r, a, b, rs, cl, odd, l, _, rfl, hlr.stay (hn.same.trans s3), s3 _ _ (hn.same _ _ hr1), hcl, hodd, by unfold due10; rw [if_neg hok]; exact s3 _ _ (hn.same _ _ hl1)⟩
    have fin1 : (cl ≤ 3 ∧ ¬ okR a b rs) → ∀ H3 l4 H4, Same H2 H3 → New H3 H4 l4 (.lst ((oneOf 1).map V.bl)) → P11 [some (.ref sc), some (.ref t), some (.ref r), some (.int cl), some (.int odd), some (.ref l4), some (.ref acc)] H4 := fun hok H3 l4 H4 s3 n4 => ⟨t, r, a, b, rs, cl, odd, l4, _, rfl, hlr.stay (hn.same.trans (s3.trans n4.same)), n4.same _ _ (s3 _ _ (hn.same _ _ hr1)), hcl, hodd, by unfold due10; rw [if_pos hok]; exact n4.here⟩
    walk_at "rd"
    refine ite2 (fun c1 => ?_) (fun c1 => ?_)
    · have c1 := of_decide_eq_true c1
      walk_at "rd"
      refine ⟨r, _, rfl, .inl (SqL.of (hn.same _ _ hr1)), ?_⟩
      walk_at "rd"
      rw [l0]
      refine ite2 (fun c2 => ?_) (fun c2 => ?_)
      · have c2 := of_decide_eq_true c2
        refine iteT ?_
        walk_at "rd"
        refine ⟨1, rfl, fun l4 H4 n4 => ?_⟩
        walk_at "rd"
        exact ⟨rfl, fin1 ⟨by omega, fun h => by have := h.1; omega⟩ H2 l4 H4 (Same.refl _) n4⟩
      · have c2 := of_decide_eq_false (Bool.eq_false_iff.mpr c2)
        walk_at "rd"
        refine ⟨(by show 0 ≤ sizeLine; decide), fun p3 h3 => ?_⟩
        have s3 := same_new h3 (.lst [])
        refine rd_neL (ms := []) (SqL.of (s3 _ _ hn.here)) (SqL.of upd_same) ?_
        generalize upd H2 p3 (.lst []) = H3 at s3 ⊢
        walk_at "rd"
        refine ite2 (fun c3 => ?_) (fun c3 => ?_)
        · have c3 : ¬ os = [] := by simpa using c3
          walk_at "rd"
          refine ⟨1, rfl, fun l4 H4 n4 => ?_⟩
          walk_at "rd"
          exact ⟨rfl, fin1 ⟨by omega, fun h => c3 (hof.mpr h.2)⟩ H3 l4 H4 s3 n4⟩
        · have c3 : os = [] := by simpa using c3
          walk_at "rd"
          exact ⟨rfl, fin (fun h => h.2 ⟨by omega, hof.mp c3⟩) H3 s3⟩
    · have c1 := of_decide_eq_false (Bool.eq_false_iff.mpr c1)
      refine iteF ?_
      walk_at "rd"
      exact ⟨rfl, fin (fun h => by omega) H2 (Same.refl _)⟩
  have R5 : PSs (cxOf (CXE P w) P w K mg base ["script", "letters", "row", "call", "odd", "due", "others"] "law" (defScope (top 54)) f cdv A outer s H E) ((defBody (top 54)).drop 5) (fun D' σ' H' => D' = { nx := fun _ H' => Q .non H', rt := Q } ∧ P5 σ' H') := by
    refine PSs.weak ((pss_cons (ps_set (i := 3) S.nd rfl (by first | exact Or.inl rfl | exact Or.inr rfl) (pe_op op_mod (pe_callN T_law_cell_at hr rfl passE (pa_cons (pv 0) (pa_cons pe_int pa_nil star_Constant) star_Name)) pe_int))
 (pss_cons (ps_set (i := 4) S.nd rfl (by first | exact Or.inl rfl | exact Or.inr rfl) (pe_op op_mod (pe_op op_fdiv (pe_callN T_law_cell_at hr rfl passE (pa_cons (pv 0) (pa_cons pe_int pa_nil star_Constant) star_Name)) pe_int) pe_int))
 (pss_cons (ps_set (i := 5) S.nd rfl (by first | exact Or.inl rfl | exact Or.inr rfl) (pe_lst pa_nil))
 (pss_cons (ps_if (PW.pt (pw_and (pt_cmpR op_gt (pv 3) pe_int (nomark _)) (pw_and1 (pt_cmpR (op_eqK (K := K) hu) (pv 4) pe_int (nomark _))))) (pss_one (ps_set (i := 5) S.nd rfl (by first | exact Or.inl rfl | exact Or.inr rfl) (pe_callN T_law_one hr rfl passE (pa_cons (pe_ix (ix_seqK (K := K)) (pe_lst (pa_cons pe_int (pa_cons pe_int (pa_cons pe_int (pa_cons pe_int (pa_cons pe_int pa_nil star_Constant) star_Constant) star_Constant) star_Constant) star_Constant)) (pe_op op_sub (pv 3) pe_int) (fun _ _ => rfl)) pa_nil star_Subscript)))) pss_nil)
 R9))))) ?_
    rintro D σ' H1 ⟨rfl, t, r, a, b, rs, rfl, hs, hlr, hr1, hab⟩
    walk_at "rd"
    refine ⟨sc, ns, 4, rfl, hs.seq hS, by decide, ?_⟩
    walk_at "rd"
    refine ⟨sc, ns, 4, rfl, hs.seq hS, by decide, ?_⟩
    walk_at "rd"
    have b1 : 0 ≤ cell ns 4 % 9 ∧ cell ns 4 % 9 ≤ 8 := by omega
    have b2 : cell ns 4 / 9 % 2 = 0 ∨ cell ns 4 / 9 % 2 = 1 := by omega
    generalize cell ns 4 % 9 = cl at b1 ⊢
    generalize cell ns 4 / 9 % 2 = odd at b2 ⊢
    refine ⟨(by show 0 ≤ sizeLine; decide), fun l hl => ?_⟩
    have s2 := same_new hl (.lst [])
    have hl2 : upd H1 l (.lst []) l = some (.lst []) := upd_same
    have hlr2 := hlr.stay s2
    have hr2 := s2 _ _ hr1
    generalize upd H1 l (.lst []) = H2 at s2 hl2 hlr2 hr2 ⊢
    have fin : ¬ (3 < cl ∧ odd = 1) → P8 [some (.ref sc), some (.ref t), some (.ref r), some (.int cl), some (.int odd), some (.ref l), none] H2 := fun h => ⟨t, r, a, b, rs, cl, odd, l, rfl, hlr2, hr2, b1, b2, by unfold due8; rw [if_neg h]; exact hl2⟩
    walk_at "rd"
    refine ite2 (fun c1 => ?_) (fun c1 => ?_)
    · have c1 := of_decide_eq_true c1
      walk_at "rd"
      refine ite2 (fun c2 => ?_) (fun c2 => ?_)
      · have c2 := of_decide_eq_true c2
        walk_at "rd"
        refine ⟨(by show 5 ≤ sizeLine; decide), fun p3 h3 => ?_⟩
        have s3 := same_new h3 (.lst [.int 4, .int 5, .int 4, .int 3, .int 2])
        have hk : atI [V.int 4, V.int 5, V.int 4, V.int 3, V.int 2] (cl - 4) = some (.int (kj cl)) := by
          have h5 : cl = 4 ∨ cl = 5 ∨ cl = 6 ∨ cl = 7 ∨ cl = 8 := by omega
          rcases h5 with rfl | rfl | rfl | rfl | rfl <;> rfl
        walk_at "rd"
        refine rd_ixL (SqL.of upd_same) hk ?_
        generalize upd H2 p3 (.lst [.int 4, .int 5, .int 4, .int 3, .int 2]) = H3 at s3 ⊢
        walk_at "rd"
        refine ⟨_, rfl, fun l4 H4 n4 => ?_⟩
        walk_at "rd"
        have s24 := s3.trans n4.same
        exact ⟨rfl, t, r, a, b, rs, cl, odd, l4, rfl, hlr2.stay s24, s24 _ _ hr2, b1, b2, by unfold due8; rw [if_pos ⟨c1, c2⟩]; exact n4.here⟩
      · have c2 := of_decide_eq_false (Bool.eq_false_iff.mpr c2)
        walk_at "rd"
        exact ⟨rfl, fin fun h => c2 h.2⟩
    · have c1 := of_decide_eq_false (Bool.eq_false_iff.mpr c1)
      refine iteF ?_
      walk_at "rd"
      exact ⟨rfl, fin fun h => c1 h.1⟩
  have R4 : PSs (cxOf (CXE P w) P w K mg base ["script", "letters", "row", "call", "odd", "due", "others"] "law" (defScope (top 54)) f cdv A outer s H E) ((defBody (top 54)).drop 4) (fun D' σ' H' => D' = { nx := fun _ H' => Q .non H', rt := Q } ∧ P4 σ' H') := by
    refine PSs.weak ((pss_cons (ps_if (pt_cmpR (op_eqK (K := K) hu) (pe_op op_mod (pe_callN T_law_cell_at hr rfl passE (pa_cons (pv 0) (pa_cons pe_int pa_nil star_Constant) star_Name)) pe_int) pe_int (nomark _)) (pss_one (ps_set (i := 2) S.nd rfl (by first | exact Or.inl rfl | exact Or.inr rfl) (pe_op op_mulA (pe_lst (pa_cons (pe_ix (ix_seqK (K := K)) (pv 1) pe_int (fun _ _ => rfl)) pa_nil star_Subscript)) pe_int))) pss_nil)
 R5)) ?_
    rintro D σ' H1 ⟨rfl, t, r, a, b, rs, rfl, hs, hlr, hr1, hab⟩
    walk_at "rd"
    refine ⟨sc, ns, 3, rfl, hs.seq hS, by decide, ?_⟩
    walk_at "rd"
    refine ite2 (fun cc => ?_) (fun cc => ?_)
    · walk_at "rd"
      refine rd_ixT hlr.1 two_at0 ?_
      walk_at "rd"
      refine ⟨(by show 1 ≤ sizeLine; decide), fun p2 h2 => ?_⟩
      have s2 := same_new h2 (.lst [.int a])
      walk_at "rd"
      refine rd_rep upd_same (by decide) (by decide) fun p3 h3 => ?_
      rw [I2_rep]
      have s3 := same_new h3 (.lst (I2 (List.replicate (401 : Int).toNat a)))
      walk_at "rd"
      refine ⟨rfl, t, p3, a, b, _, rfl, hs.trans (s2.trans s3), ⟨(s2.trans s3).seqT hlr.1, SqL.of upd_same, by omega, ?_, fun y hy => ?_⟩, upd_same, hab⟩
      · rw [List.length_replicate]; decide
      · rw [(List.mem_replicate.mp hy).2]; omega
    · walk_at "rd"
      exact ⟨rfl, t, r, a, b, rs, rfl, hs, hlr, hr1, hab⟩
  have R2 : PSs (cxOf (CXE P w) P w K mg base ["script", "letters", "row", "call", "odd", "due", "others"] "law" (defScope (top 54)) f cdv A outer s H E) ((defBody (top 54)).drop 2) (fun D' σ' H' => D' = { nx := fun _ H' => Q .non H', rt := Q } ∧ P2 σ' H') := by
    refine PSs.weak ((pss_cons (ps_set (i := 2) S.nd rfl (by first | exact Or.inl rfl | exact Or.inr rfl) (pe_callN T_law_digits hr rfl passE (pa_cons (pv 1) (pa_cons (pe_callN T_law_cell_at hr rfl passE (pa_cons (pv 0) (pa_cons pe_int pa_nil star_Constant) star_Name)) (pa_cons (pe_op op_mod (pe_callN T_law_cell_at hr rfl passE (pa_cons (pv 0) (pa_cons pe_int pa_nil star_Constant) star_Name)) pe_int) pa_nil star_BinOp) star_Call) star_Name)))
 (pss_cons (ps_if (PW.pt (pw_and (pt_cmpR (op_neK (K := K) hu) (pv 2) (pe_lst pa_nil) (nomark _)) (pw_and1 (pt_cmpR (op_eqK (K := K) hu) (pe_op op_mod (pe_callN T_law_cell_at hr rfl passE (pa_cons (pv 0) (pa_cons pe_int pa_nil star_Constant) star_Name)) pe_int) pe_int (nomark _))))) (pss_one (ps_asg (pe_ix (ix_seqK (K := K)) (pe_lst (pa_cons pe_int (pa_cons pe_int pa_nil star_Constant) star_Constant)) (pe_op op_mod (pe_op op_fdiv (pe_callN T_law_cell_at hr rfl passE (pa_cons (pv 0) (pa_cons pe_int pa_nil star_Constant) star_Name)) pe_int) pe_int) (fun _ _ => rfl)) (pg_sub (pv 2) (pe_op op_mod (pe_op op_fdiv (pe_callN T_law_cell_at hr rfl passE (pa_cons (pv 0) (pa_cons pe_int pa_nil star_Constant) star_Name)) pe_int) (pe_callB (call_lenK (K := K)) rfl T_z_len bt_len (pa_cons (pv 2) pa_nil star_Name))) set_list))) pss_nil)
 R4))) ?_
    rintro D σ' H1 ⟨rfl, t, a, b, rfl, hs, hT, hab⟩
    walk_at "rd"
    refine ⟨sc, ns, 2, rfl, hs.seq hS, by decide, ?_⟩
    walk_at "rd"
    refine ⟨sc, ns, 1, rfl, hs.seq hS, by decide, ?_⟩
    walk_at "rd"
    refine ⟨t, _, _, a, b, rfl, hT, by omega, by omega, fun r H2 rs n2 hlen hm => ?_⟩
    have hz : rs.length ≤ 20 := by omega
    have hs2 := hs.trans n2.same
    have hT2 := n2.same.seqT hT
    have hr2 := n2.here
    have hrn : H r = none := hs.free n2.fresh
    have hbd : ∀ y ∈ rs, -100 ≤ y ∧ y ≤ 100 := fun y hy => by rcases hm y hy with e | e <;> omega
    have l0 : (I2 rs).length = rs.length := List.length_map _
    clear n2
    walk_at "rd"
    refine ⟨(by show 0 ≤ sizeLine; decide), fun p3 h3 => ?_⟩
    have s3 := same_new h3 (.lst [])
    refine rd_neL (ms := []) (SqL.of (s3 _ _ hr2)) (SqL.of upd_same) ?_
    have hs3 := hs2.trans s3
    have hT3 := s3.seqT hT2
    have hr3 := s3 _ _ hr2
    generalize upd H2 p3 (.lst []) = H3 at s3 hs3 hT3 hr3 ⊢
    have stay : P4 [some (.ref sc), some (.ref t), some (.ref r), none, none, none, none] H3 := ⟨t, r, a, b, rs, rfl, hs3, ⟨hT3, SqL.of hr3, by omega, by omega, hbd⟩, hr3, hab⟩
    walk_at "rd"
    refine ite2 (fun c1 => ?_) (fun c1 => ?_)
    · have hne : rs ≠ [] := by simpa using c1
      have hpos : 0 < rs.length := List.length_pos_iff.mpr hne
      walk_at "rd"
      refine ⟨sc, ns, 3, rfl, hs3.seq hS, by decide, ?_⟩
      walk_at "rd"
      refine ite2 (fun c2 => ?_) (fun c2 => ?_)
      · walk_at "rd"
        refine ⟨(by show 2 ≤ sizeLine; decide), fun p4 h4 => ?_⟩
        have s4 := same_new h4 (.lst [.int 0, .int 10])
        walk_at "rd"
        refine ⟨sc, ns, 3, rfl, (hs3.trans s4).seq hS, by decide, ?_⟩
        walk_at "rd"
        refine rd_ixL (SqL.of upd_same) (two_at (mod2 _)) ?_
        have hv : (if cell ns 3 / 3 % 2 = 0 then V.int 0 else V.int 10) = V.int (if cell ns 3 / 3 % 2 = 0 then 0 else 10) := by split <;> rfl
        have hvb : -100 ≤ (if cell ns 3 / 3 % 2 = 0 then (0 : Int) else 10) ∧ (if cell ns 3 / 3 % 2 = 0 then (0 : Int) else 10) ≤ 100 := by split <;> omega
        rw [hv]
        generalize (if cell ns 3 / 3 % 2 = 0 then (0 : Int) else 10) = vv at hvb
        have hT4 := s4.seqT hT3
        have hr4 := s4 _ _ hr3
        have hs4 := hs3.trans s4
        generalize upd H3 p4 (.lst [.int 0, .int 10]) = H4 at s4 hT4 hr4 hs4 ⊢
        walk_at "rd"
        refine ⟨sc, ns, 3, rfl, hs4.seq hS, by decide, ?_⟩
        walk_at "rd"
        refine ⟨r, _, rfl, .inl (SqL.of hr4), ?_⟩
        rw [l0]
        walk_at "rd"
        refine rd_mod (by omega) ?_
        have m1 : 0 ≤ cell ns 3 / 6 % (rs.length : Int) := Int.emod_nonneg _ (by omega)
        have m2 : cell ns 3 / 6 % (rs.length : Int) < rs.length := Int.emod_lt_of_pos _ (by omega)
        refine ⟨r, _, _, _, rfl, rfl, hr4, ixN_in m1 (by rw [l0]; exact m2), ?_⟩
        walk_at "rd"
        refine ⟨rfl, t, r, a, b, rs.set (cell ns 3 / 6 % (rs.length : Int)).toNat vv, rfl, same_upd hs4 hrn, ⟨SqT.upd_lst hT4 hr4, SqL.of ?_, by omega, ?_, fun y hy => ?_⟩, ?_, hab⟩
        · rw [upd_same]; simp [I2]
        · rw [List.length_set]; omega
        · rcases set_mem hy with h | h
          · exact hbd y h
          · omega
        · rw [upd_same]; simp [I2]
      · walk_at "rd"
        exact ⟨rfl, stay⟩
    · refine iteF ?_
      walk_at "rd"
      exact ⟨rfl, stay⟩
  refine ⟨_, (pss_cons (ps_set (i := 1) S.nd rfl (by first | exact Or.inl rfl | exact Or.inr rfl) (pe_callN T_law_letters hr rfl passE (pa_cons (pe_op op_fdiv (pe_callN T_law_cell_at hr rfl passE (pa_cons (pv 0) (pa_cons pe_int pa_nil star_Constant) star_Name)) pe_int) pa_nil star_BinOp)))
 (pss_cons (ps_if (pt_cmpR (op_eqK (K := K) hu) (pe_op op_mod (pe_callN T_law_cell_at hr rfl passE (pa_cons (pv 0) (pa_cons pe_int pa_nil star_Constant) star_Name)) pe_int) pe_int (nomark _)) (pss_one (ps_set (i := 1) S.nd rfl (by first | exact Or.inl rfl | exact Or.inr rfl) (pe_tup (pa_cons (pe_op op_mod (pe_op op_fdiv (pe_callN T_law_cell_at hr rfl passE (pa_cons (pv 0) (pa_cons pe_int pa_nil star_Constant) star_Name)) pe_int) pe_int) (pa_cons (pe_op op_mod (pe_op op_fdiv (pe_callN T_law_cell_at hr rfl passE (pa_cons (pv 0) (pa_cons pe_int pa_nil star_Constant) star_Name)) pe_int) pe_int) pa_nil star_BinOp) star_BinOp)))) pss_nil)
 R2)), ?_⟩
  walk_at "rd"
  refine ⟨sc, ns, 0, rfl, hS, by decide, ?_⟩
  walk_at "rd"
  refine ⟨_, rfl, fun t H1 a b n1 hok => ?_⟩
  have hab := hok
  unfold okL at hab
  walk_at "rd"
  refine ⟨sc, ns, 0, rfl, n1.same.seq hS, by decide, ?_⟩
  walk_at "rd"
  refine ite2 (fun cc => ?_) (fun cc => ?_)
  · walk_at "rd"
    refine ⟨sc, ns, 0, rfl, n1.same.seq hS, by decide, ?_⟩
    walk_at "rd"
    refine ⟨sc, ns, 0, rfl, n1.same.seq hS, by decide, ?_⟩
    walk_at "rd"
    refine ⟨(by show 2 ≤ sizeLine; decide), fun t2 h2 => ?_⟩
    walk_at "rd"
    exact ⟨rfl, t2, _, _, rfl, n1.same.trans (same_new h2 _), SqT.of upd_same, by omega⟩
  · walk_at "rd"
    exact ⟨rfl, t, a, b, rfl, n1.same, n1.sqT, by omega⟩
end
open PyProof.Rows in
theorem all_mk {l : PySem.W.OpenLaw} {w : World} {K : PySem.W.Frag} {h : Heap} {mg : Str → Option Value} {fa : Addr} (X : K.In h) (G : h.Ns mainGlobals mg) (hfa : mg "law" = some (.ref fa))
    {f_law_letters : Addr} {od_law_letters an_law_letters : Option Addr} {sl_law_letters : Array (Option Value)} {oc_law_letters kV_law_letters dc_law_letters pm_law_letters cd_law_letters ct_law_letters : Value}
    (a_law_letters : PySem.W.nsIn K mainGlobals "_law_letters" = some (some (.ref f_law_letters)))
    (l_law_letters : K.lookup f_law_letters = some ⟨oc_law_letters, od_law_letters, .func (PySem.W.fnOf "_law_letters" "_law_letters" (defArgs (top 46)) (defBody (top 46)) (defScope (top 46)) .none kV_law_letters dc_law_letters pm_law_letters an_law_letters cd_law_letters ct_law_letters), sl_law_letters⟩)
    (d_law_letters : PySem.W.codeIn K cd_law_letters "_law_letters" = true) (k_law_letters : PySem.W.keepIn K (.ref f_law_letters) = true)
    {f_law_cell_at : Addr} {od_law_cell_at an_law_cell_at : Option Addr} {sl_law_cell_at : Array (Option Value)} {oc_law_cell_at kV_law_cell_at dc_law_cell_at pm_law_cell_at cd_law_cell_at ct_law_cell_at : Value}
    (a_law_cell_at : PySem.W.nsIn K mainGlobals "_law_cell_at" = some (some (.ref f_law_cell_at)))
    (l_law_cell_at : K.lookup f_law_cell_at = some ⟨oc_law_cell_at, od_law_cell_at, .func (PySem.W.fnOf "_law_cell_at" "_law_cell_at" (defArgs (top 41)) (defBody (top 41)) (defScope (top 41)) .none kV_law_cell_at dc_law_cell_at pm_law_cell_at an_law_cell_at cd_law_cell_at ct_law_cell_at), sl_law_cell_at⟩)
    (d_law_cell_at : PySem.W.codeIn K cd_law_cell_at "_law_cell_at" = true) (k_law_cell_at : PySem.W.keepIn K (.ref f_law_cell_at) = true)
    {f_law_digits : Addr} {od_law_digits an_law_digits : Option Addr} {sl_law_digits : Array (Option Value)} {oc_law_digits kV_law_digits dc_law_digits pm_law_digits cd_law_digits ct_law_digits : Value}
    (a_law_digits : PySem.W.nsIn K mainGlobals "_law_digits" = some (some (.ref f_law_digits)))
    (l_law_digits : K.lookup f_law_digits = some ⟨oc_law_digits, od_law_digits, .func (PySem.W.fnOf "_law_digits" "_law_digits" (defArgs (top 48)) (defBody (top 48)) (defScope (top 48)) .none kV_law_digits dc_law_digits pm_law_digits an_law_digits cd_law_digits ct_law_digits), sl_law_digits⟩)
    (d_law_digits : PySem.W.codeIn K cd_law_digits "_law_digits" = true) (k_law_digits : PySem.W.keepIn K (.ref f_law_digits) = true)
    {f_law_one : Addr} {od_law_one an_law_one : Option Addr} {sl_law_one : Array (Option Value)} {oc_law_one kV_law_one dc_law_one pm_law_one cd_law_one ct_law_one : Value}
    (a_law_one : PySem.W.nsIn K mainGlobals "_law_one" = some (some (.ref f_law_one)))
    (l_law_one : K.lookup f_law_one = some ⟨oc_law_one, od_law_one, .func (PySem.W.fnOf "_law_one" "_law_one" (defArgs (top 44)) (defBody (top 44)) (defScope (top 44)) .none kV_law_one dc_law_one pm_law_one an_law_one cd_law_one ct_law_one), sl_law_one⟩)
    (d_law_one : PySem.W.codeIn K cd_law_one "_law_one" = true) (k_law_one : PySem.W.keepIn K (.ref f_law_one) = true)
    {f_check_letters : Addr} {od_check_letters an_check_letters : Option Addr} {sl_check_letters : Array (Option Value)} {oc_check_letters kV_check_letters dc_check_letters pm_check_letters cd_check_letters ct_check_letters : Value}
    (a_check_letters : PySem.W.nsIn K mainGlobals "check_letters" = some (some (.ref f_check_letters)))
    (l_check_letters : K.lookup f_check_letters = some ⟨oc_check_letters, od_check_letters, .func (PySem.W.fnOf "check_letters" "check_letters" (defArgs (top 15)) (defBody (top 15)) (defScope (top 15)) .none kV_check_letters dc_check_letters pm_check_letters an_check_letters cd_check_letters ct_check_letters), sl_check_letters⟩)
    (d_check_letters : PySem.W.codeIn K cd_check_letters "check_letters" = true) (k_check_letters : PySem.W.keepIn K (.ref f_check_letters) = true)
    {f_check_row : Addr} {od_check_row an_check_row : Option Addr} {sl_check_row : Array (Option Value)} {oc_check_row kV_check_row dc_check_row pm_check_row cd_check_row ct_check_row : Value}
    (a_check_row : PySem.W.nsIn K mainGlobals "check_row" = some (some (.ref f_check_row)))
    (l_check_row : K.lookup f_check_row = some ⟨oc_check_row, od_check_row, .func (PySem.W.fnOf "check_row" "check_row" (defArgs (top 16)) (defBody (top 16)) (defScope (top 16)) .none kV_check_row dc_check_row pm_check_row an_check_row cd_check_row ct_check_row), sl_check_row⟩)
    (d_check_row : PySem.W.codeIn K cd_check_row "check_row" = true) (k_check_row : PySem.W.keepIn K (.ref f_check_row) = true)
    {f_run_lengths : Addr} {od_run_lengths an_run_lengths : Option Addr} {sl_run_lengths : Array (Option Value)} {oc_run_lengths kV_run_lengths dc_run_lengths pm_run_lengths cd_run_lengths ct_run_lengths : Value}
    (a_run_lengths : PySem.W.nsIn K mainGlobals "run_lengths" = some (some (.ref f_run_lengths)))
    (l_run_lengths : K.lookup f_run_lengths = some ⟨oc_run_lengths, od_run_lengths, .func (PySem.W.fnOf "run_lengths" "run_lengths" (defArgs (top 22)) (defBody (top 22)) (defScope (top 22)) .none kV_run_lengths dc_run_lengths pm_run_lengths an_run_lengths cd_run_lengths ct_run_lengths), sl_run_lengths⟩)
    (d_run_lengths : PySem.W.codeIn K cd_run_lengths "run_lengths" = true) (k_run_lengths : PySem.W.keepIn K (.ref f_run_lengths) = true)
    {f_lengths_fit : Addr} {od_lengths_fit an_lengths_fit : Option Addr} {sl_lengths_fit : Array (Option Value)} {oc_lengths_fit kV_lengths_fit dc_lengths_fit pm_lengths_fit cd_lengths_fit ct_lengths_fit : Value}
    (a_lengths_fit : PySem.W.nsIn K mainGlobals "lengths_fit" = some (some (.ref f_lengths_fit)))
    (l_lengths_fit : K.lookup f_lengths_fit = some ⟨oc_lengths_fit, od_lengths_fit, .func (PySem.W.fnOf "lengths_fit" "lengths_fit" (defArgs (top 25)) (defBody (top 25)) (defScope (top 25)) .none kV_lengths_fit dc_lengths_fit pm_lengths_fit an_lengths_fit cd_lengths_fit ct_lengths_fit), sl_lengths_fit⟩)
    (d_lengths_fit : PySem.W.codeIn K cd_lengths_fit "lengths_fit" = true) (k_lengths_fit : PySem.W.keepIn K (.ref f_lengths_fit) = true)
    {f_inner_lengths : Addr} {od_inner_lengths an_inner_lengths : Option Addr} {sl_inner_lengths : Array (Option Value)} {oc_inner_lengths kV_inner_lengths dc_inner_lengths pm_inner_lengths cd_inner_lengths ct_inner_lengths : Value}
    (a_inner_lengths : PySem.W.nsIn K mainGlobals "inner_lengths" = some (some (.ref f_inner_lengths)))
    (l_inner_lengths : K.lookup f_inner_lengths = some ⟨oc_inner_lengths, od_inner_lengths, .func (PySem.W.fnOf "inner_lengths" "inner_lengths" (defArgs (top 26)) (defBody (top 26)) (defScope (top 26)) .none kV_inner_lengths dc_inner_lengths pm_inner_lengths an_inner_lengths cd_inner_lengths ct_inner_lengths), sl_inner_lengths⟩)
    (d_inner_lengths : PySem.W.codeIn K cd_inner_lengths "inner_lengths" = true) (k_inner_lengths : PySem.W.keepIn K (.ref f_inner_lengths) = true)
    {f_inner : Addr} {od_inner an_inner : Option Addr} {sl_inner : Array (Option Value)} {oc_inner kV_inner dc_inner pm_inner cd_inner ct_inner : Value}
    (a_inner : PySem.W.nsIn K mainGlobals "inner" = some (some (.ref f_inner)))
    (l_inner : K.lookup f_inner = some ⟨oc_inner, od_inner, .func (PySem.W.fnOf "inner" "inner" (defArgs (top 29)) (defBody (top 29)) (defScope (top 29)) .none kV_inner dc_inner pm_inner an_inner cd_inner ct_inner), sl_inner⟩)
    (d_inner : PySem.W.codeIn K cd_inner "inner" = true) (k_inner : PySem.W.keepIn K (.ref f_inner) = true)
    {f_smooth_height : Addr} {od_smooth_height an_smooth_height : Option Addr} {sl_smooth_height : Array (Option Value)} {oc_smooth_height kV_smooth_height dc_smooth_height pm_smooth_height cd_smooth_height ct_smooth_height : Value}
    (a_smooth_height : PySem.W.nsIn K mainGlobals "smooth_height" = some (some (.ref f_smooth_height)))
    (l_smooth_height : K.lookup f_smooth_height = some ⟨oc_smooth_height, od_smooth_height, .func (PySem.W.fnOf "smooth_height" "smooth_height" (defArgs (top 27)) (defBody (top 27)) (defScope (top 27)) .none kV_smooth_height dc_smooth_height pm_smooth_height an_smooth_height cd_smooth_height ct_smooth_height), sl_smooth_height⟩)
    (d_smooth_height : PySem.W.codeIn K cd_smooth_height "smooth_height" = true) (k_smooth_height : PySem.W.keepIn K (.ref f_smooth_height) = true)
    {f_height : Addr} {od_height an_height : Option Addr} {sl_height : Array (Option Value)} {oc_height kV_height dc_height pm_height cd_height ct_height : Value}
    (a_height : PySem.W.nsIn K mainGlobals "height" = some (some (.ref f_height)))
    (l_height : K.lookup f_height = some ⟨oc_height, od_height, .func (PySem.W.fnOf "height" "height" (defArgs (top 30)) (defBody (top 30)) (defScope (top 30)) .none kV_height dc_height pm_height an_height cd_height ct_height), sl_height⟩)
    (d_height : PySem.W.codeIn K cd_height "height" = true) (k_height : PySem.W.keepIn K (.ref f_height) = true)
    {f_next_signs : Addr} {od_next_signs an_next_signs : Option Addr} {sl_next_signs : Array (Option Value)} {oc_next_signs kV_next_signs dc_next_signs pm_next_signs cd_next_signs ct_next_signs : Value}
    (a_next_signs : PySem.W.nsIn K mainGlobals "next_signs" = some (some (.ref f_next_signs)))
    (l_next_signs : K.lookup f_next_signs = some ⟨oc_next_signs, od_next_signs, .func (PySem.W.fnOf "next_signs" "next_signs" (defArgs (top 28)) (defBody (top 28)) (defScope (top 28)) .none kV_next_signs dc_next_signs pm_next_signs an_next_signs cd_next_signs ct_next_signs), sl_next_signs⟩)
    (d_next_signs : PySem.W.codeIn K cd_next_signs "next_signs" = true) (k_next_signs : PySem.W.keepIn K (.ref f_next_signs) = true)
    {f_goes_on : Addr} {od_goes_on an_goes_on : Option Addr} {sl_goes_on : Array (Option Value)} {oc_goes_on kV_goes_on dc_goes_on pm_goes_on cd_goes_on ct_goes_on : Value}
    (a_goes_on : PySem.W.nsIn K mainGlobals "goes_on" = some (some (.ref f_goes_on)))
    (l_goes_on : K.lookup f_goes_on = some ⟨oc_goes_on, od_goes_on, .func (PySem.W.fnOf "goes_on" "goes_on" (defArgs (top 31)) (defBody (top 31)) (defScope (top 31)) .none kV_goes_on dc_goes_on pm_goes_on an_goes_on cd_goes_on ct_goes_on), sl_goes_on⟩)
    (d_goes_on : PySem.W.codeIn K cd_goes_on "goes_on" = true) (k_goes_on : PySem.W.keepIn K (.ref f_goes_on) = true)
    {f_shown : Addr} {od_shown an_shown : Option Addr} {sl_shown : Array (Option Value)} {oc_shown kV_shown dc_shown pm_shown cd_shown ct_shown : Value}
    (a_shown : PySem.W.nsIn K mainGlobals "shown" = some (some (.ref f_shown)))
    (l_shown : K.lookup f_shown = some ⟨oc_shown, od_shown, .func (PySem.W.fnOf "shown" "shown" (defArgs (top 34)) (defBody (top 34)) (defScope (top 34)) .none kV_shown dc_shown pm_shown an_shown cd_shown ct_shown), sl_shown⟩)
    (d_shown : PySem.W.codeIn K cd_shown "shown" = true) (k_shown : PySem.W.keepIn K (.ref f_shown) = true)
    {f_check_many : Addr} {od_check_many an_check_many : Option Addr} {sl_check_many : Array (Option Value)} {oc_check_many kV_check_many dc_check_many pm_check_many cd_check_many ct_check_many : Value}
    (a_check_many : PySem.W.nsIn K mainGlobals "check_many" = some (some (.ref f_check_many)))
    (l_check_many : K.lookup f_check_many = some ⟨oc_check_many, od_check_many, .func (PySem.W.fnOf "check_many" "check_many" (defArgs (top 19)) (defBody (top 19)) (defScope (top 19)) .none kV_check_many dc_check_many pm_check_many an_check_many cd_check_many ct_check_many), sl_check_many⟩)
    (d_check_many : PySem.W.codeIn K cd_check_many "check_many" = true) (k_check_many : PySem.W.keepIn K (.ref f_check_many) = true)
    {f_all_smooth : Addr} {od_all_smooth an_all_smooth : Option Addr} {sl_all_smooth : Array (Option Value)} {oc_all_smooth kV_all_smooth dc_all_smooth pm_all_smooth cd_all_smooth ct_all_smooth : Value}
    (a_all_smooth : PySem.W.nsIn K mainGlobals "all_smooth" = some (some (.ref f_all_smooth)))
    (l_all_smooth : K.lookup f_all_smooth = some ⟨oc_all_smooth, od_all_smooth, .func (PySem.W.fnOf "all_smooth" "all_smooth" (defArgs (top 32)) (defBody (top 32)) (defScope (top 32)) .none kV_all_smooth dc_all_smooth pm_all_smooth an_all_smooth cd_all_smooth ct_all_smooth), sl_all_smooth⟩)
    (d_all_smooth : PySem.W.codeIn K cd_all_smooth "all_smooth" = true) (k_all_smooth : PySem.W.keepIn K (.ref f_all_smooth) = true)
    {f_read : Addr} {od_read an_read : Option Addr} {sl_read : Array (Option Value)} {oc_read kV_read dc_read pm_read cd_read ct_read : Value}
    (a_read : PySem.W.nsIn K mainGlobals "read" = some (some (.ref f_read)))
    (l_read : K.lookup f_read = some ⟨oc_read, od_read, .func (PySem.W.fnOf "read" "read" (defArgs (top 35)) (defBody (top 35)) (defScope (top 35)) .none kV_read dc_read pm_read an_read cd_read ct_read), sl_read⟩)
    (d_read : PySem.W.codeIn K cd_read "read" = true) (k_read : PySem.W.keepIn K (.ref f_read) = true)
    {f_check_sign : Addr} {od_check_sign an_check_sign : Option Addr} {sl_check_sign : Array (Option Value)} {oc_check_sign kV_check_sign dc_check_sign pm_check_sign cd_check_sign ct_check_sign : Value}
    (a_check_sign : PySem.W.nsIn K mainGlobals "check_sign" = some (some (.ref f_check_sign)))
    (l_check_sign : K.lookup f_check_sign = some ⟨oc_check_sign, od_check_sign, .func (PySem.W.fnOf "check_sign" "check_sign" (defArgs (top 17)) (defBody (top 17)) (defScope (top 17)) .none kV_check_sign dc_check_sign pm_check_sign an_check_sign cd_check_sign ct_check_sign), sl_check_sign⟩)
    (d_check_sign : PySem.W.codeIn K cd_check_sign "check_sign" = true) (k_check_sign : PySem.W.keepIn K (.ref f_check_sign) = true)
    {f_other_sign : Addr} {od_other_sign an_other_sign : Option Addr} {sl_other_sign : Array (Option Value)} {oc_other_sign kV_other_sign dc_other_sign pm_other_sign cd_other_sign ct_other_sign : Value}
    (a_other_sign : PySem.W.nsIn K mainGlobals "other_sign" = some (some (.ref f_other_sign)))
    (l_other_sign : K.lookup f_other_sign = some ⟨oc_other_sign, od_other_sign, .func (PySem.W.fnOf "other_sign" "other_sign" (defArgs (top 21)) (defBody (top 21)) (defScope (top 21)) .none kV_other_sign dc_other_sign pm_other_sign an_other_sign cd_other_sign ct_other_sign), sl_other_sign⟩)
    (d_other_sign : PySem.W.codeIn K cd_other_sign "other_sign" = true) (k_other_sign : PySem.W.keepIn K (.ref f_other_sign) = true)
    {f_first_runs : Addr} {od_first_runs an_first_runs : Option Addr} {sl_first_runs : Array (Option Value)} {oc_first_runs kV_first_runs dc_first_runs pm_first_runs cd_first_runs ct_first_runs : Value}
    (a_first_runs : PySem.W.nsIn K mainGlobals "first_runs" = some (some (.ref f_first_runs)))
    (l_first_runs : K.lookup f_first_runs = some ⟨oc_first_runs, od_first_runs, .func (PySem.W.fnOf "first_runs" "first_runs" (defArgs (top 37)) (defBody (top 37)) (defScope (top 37)) .none kV_first_runs dc_first_runs pm_first_runs an_first_runs cd_first_runs ct_first_runs), sl_first_runs⟩)
    (d_first_runs : PySem.W.codeIn K cd_first_runs "first_runs" = true) (k_first_runs : PySem.W.keepIn K (.ref f_first_runs) = true)
    {f_own : Addr} {od_own an_own : Option Addr} {sl_own : Array (Option Value)} {oc_own kV_own dc_own pm_own cd_own ct_own : Value}
    (a_own : PySem.W.nsIn K mainGlobals "own" = some (some (.ref f_own)))
    (l_own : K.lookup f_own = some ⟨oc_own, od_own, .func (PySem.W.fnOf "own" "own" (defArgs (top 38)) (defBody (top 38)) (defScope (top 38)) .none kV_own dc_own pm_own an_own cd_own ct_own), sl_own⟩)
    (d_own : PySem.W.codeIn K cd_own "own" = true) (k_own : PySem.W.keepIn K (.ref f_own) = true)
    {f_own_runs : Addr} {od_own_runs an_own_runs : Option Addr} {sl_own_runs : Array (Option Value)} {oc_own_runs kV_own_runs dc_own_runs pm_own_runs cd_own_runs ct_own_runs : Value}
    (a_own_runs : PySem.W.nsIn K mainGlobals "own_runs" = some (some (.ref f_own_runs)))
    (l_own_runs : K.lookup f_own_runs = some ⟨oc_own_runs, od_own_runs, .func (PySem.W.fnOf "own_runs" "own_runs" (defArgs (top 39)) (defBody (top 39)) (defScope (top 39)) .none kV_own_runs dc_own_runs pm_own_runs an_own_runs cd_own_runs ct_own_runs), sl_own_runs⟩)
    (d_own_runs : PySem.W.codeIn K cd_own_runs "own_runs" = true) (k_own_runs : PySem.W.keepIn K (.ref f_own_runs) = true)
    {f_check_lengths : Addr} {od_check_lengths an_check_lengths : Option Addr} {sl_check_lengths : Array (Option Value)} {oc_check_lengths kV_check_lengths dc_check_lengths pm_check_lengths cd_check_lengths ct_check_lengths : Value}
    (a_check_lengths : PySem.W.nsIn K mainGlobals "check_lengths" = some (some (.ref f_check_lengths)))
    (l_check_lengths : K.lookup f_check_lengths = some ⟨oc_check_lengths, od_check_lengths, .func (PySem.W.fnOf "check_lengths" "check_lengths" (defArgs (top 18)) (defBody (top 18)) (defScope (top 18)) .none kV_check_lengths dc_check_lengths pm_check_lengths an_check_lengths cd_check_lengths ct_check_lengths), sl_check_lengths⟩)
    (d_check_lengths : PySem.W.codeIn K cd_check_lengths "check_lengths" = true) (k_check_lengths : PySem.W.keepIn K (.ref f_check_lengths) = true)
    {f_built : Addr} {od_built an_built : Option Addr} {sl_built : Array (Option Value)} {oc_built kV_built dc_built pm_built cd_built ct_built : Value}
    (a_built : PySem.W.nsIn K mainGlobals "built" = some (some (.ref f_built)))
    (l_built : K.lookup f_built = some ⟨oc_built, od_built, .func (PySem.W.fnOf "built" "built" (defArgs (top 23)) (defBody (top 23)) (defScope (top 23)) .none kV_built dc_built pm_built an_built cd_built ct_built), sl_built⟩)
    (d_built : PySem.W.codeIn K cd_built "built" = true) (k_built : PySem.W.keepIn K (.ref f_built) = true)
    {f_law_call : Addr} {od_law_call an_law_call : Option Addr} {sl_law_call : Array (Option Value)} {oc_law_call kV_law_call dc_law_call pm_law_call cd_law_call ct_law_call : Value}
    (a_law_call : PySem.W.nsIn K mainGlobals "_law_call" = some (some (.ref f_law_call)))
    (l_law_call : K.lookup f_law_call = some ⟨oc_law_call, od_law_call, .func (PySem.W.fnOf "_law_call" "_law_call" (defArgs (top 52)) (defBody (top 52)) (defScope (top 52)) .none kV_law_call dc_law_call pm_law_call an_law_call cd_law_call ct_law_call), sl_law_call⟩)
    (d_law_call : PySem.W.codeIn K cd_law_call "_law_call" = true) (k_law_call : PySem.W.keepIn K (.ref f_law_call) = true)
    {f_law_kind : Addr} {od_law_kind an_law_kind : Option Addr} {sl_law_kind : Array (Option Value)} {oc_law_kind kV_law_kind dc_law_kind pm_law_kind cd_law_kind ct_law_kind : Value}
    (a_law_kind : PySem.W.nsIn K mainGlobals "_law_kind" = some (some (.ref f_law_kind)))
    (l_law_kind : K.lookup f_law_kind = some ⟨oc_law_kind, od_law_kind, .func (PySem.W.fnOf "_law_kind" "_law_kind" (defArgs (top 43)) (defBody (top 43)) (defScope (top 43)) .none kV_law_kind dc_law_kind pm_law_kind an_law_kind cd_law_kind ct_law_kind), sl_law_kind⟩)
    (d_law_kind : PySem.W.codeIn K cd_law_kind "_law_kind" = true) (k_law_kind : PySem.W.keepIn K (.ref f_law_kind) = true)
    {f_law_kinds : Addr} {od_law_kinds an_law_kinds : Option Addr} {sl_law_kinds : Array (Option Value)} {oc_law_kinds kV_law_kinds dc_law_kinds pm_law_kinds cd_law_kinds ct_law_kinds : Value}
    (a_law_kinds : PySem.W.nsIn K mainGlobals "_law_kinds" = some (some (.ref f_law_kinds)))
    (l_law_kinds : K.lookup f_law_kinds = some ⟨oc_law_kinds, od_law_kinds, .func (PySem.W.fnOf "_law_kinds" "_law_kinds" (defArgs (top 53)) (defBody (top 53)) (defScope (top 53)) .none kV_law_kinds dc_law_kinds pm_law_kinds an_law_kinds cd_law_kinds ct_law_kinds), sl_law_kinds⟩)
    (d_law_kinds : PySem.W.codeIn K cd_law_kinds "_law_kinds" = true) (k_law_kinds : PySem.W.keepIn K (.ref f_law_kinds) = true)
    {f_law : Addr} {od_law an_law : Option Addr} {sl_law : Array (Option Value)} {oc_law kV_law dc_law pm_law cd_law ct_law : Value}
    (a_law : PySem.W.nsIn K mainGlobals "law" = some (some (.ref f_law)))
    (l_law : K.lookup f_law = some ⟨oc_law, od_law, .func (PySem.W.fnOf "law" "law" (defArgs (top 54)) (defBody (top 54)) (defScope (top 54)) .none kV_law dc_law pm_law an_law cd_law ct_law), sl_law⟩)
    (d_law : PySem.W.codeIn K cd_law "law" = true) (k_law : PySem.W.keepIn K (.ref f_law) = true)
    {c0 : Addr} (m0 : PySem.W.nsIn K mainGlobals "NoLetters" = some (some (.ref c0)))
    {c1 : Addr} (m1 : PySem.W.nsIn K mainGlobals "NoRow" = some (some (.ref c1)))
    {c2 : Addr} (m2 : PySem.W.nsIn K mainGlobals "NoLengths" = some (some (.ref c2)))
    {c3 : Addr} (m3 : PySem.W.nsIn K mainGlobals "NoSign" = some (some (.ref c3)))
    {c4 : Addr} (m4 : PySem.W.nsIn K mainGlobals "TooMany" = some (some (.ref c4)))
    {c5 : Addr} (m5 : PySem.W.nsIn K mainGlobals "BadText" = some (some (.ref c5)))
    {c6 : Addr} (m6 : PySem.W.nsIn K mainGlobals "RunError" = some (some (.ref c6)))
    (x0 : PySem.W.excIn K c0 bmVE "ValueError.__new__" = true)
    (x1 : PySem.W.excIn K c1 bmVE "ValueError.__new__" = true)
    (x4 : PySem.W.excIn K c4 bmVE "ValueError.__new__" = true)
    (x5 : PySem.W.excIn K c5 bmVE "ValueError.__new__" = true)
    (x3 : PySem.W.excIn K c3 bmVE "ValueError.__new__" = true)
    (x2 : PySem.W.excIn K c2 bmVE "ValueError.__new__" = true)
    {tk_LEAST_NUMBER : Tok} (n_LEAST_NUMBER : PySem.W.nsIn K mainGlobals "LEAST_NUMBER" = some (some (.int 1 tk_LEAST_NUMBER)))
    {tk_GREATEST_NUMBER : Tok} (n_GREATEST_NUMBER : PySem.W.nsIn K mainGlobals "GREATEST_NUMBER" = some (some (.int 9 tk_GREATEST_NUMBER)))
    {tk_MOST_SIGNS : Tok} (n_MOST_SIGNS : PySem.W.nsIn K mainGlobals "MOST_SIGNS" = some (some (.int 400 tk_MOST_SIGNS)))
    {tk_LONGEST_LISTED : Tok} (n_LONGEST_LISTED : PySem.W.nsIn K mainGlobals "LONGEST_LISTED" = some (some (.int 10 tk_LONGEST_LISTED)))
    {tk_MOST_RUNS : Tok} (n_MOST_RUNS : PySem.W.nsIn K mainGlobals "MOST_RUNS" = some (some (.int 60 tk_MOST_RUNS)))
    {tk_MOST_LENGTHS : Tok} (n_MOST_LENGTHS : PySem.W.nsIn K mainGlobals "MOST_LENGTHS" = some (some (.int 60 tk_MOST_LENGTHS)))
    (z_len : PySem.W.nsIn K mainGlobals "len" = some none)
    (z_range : PySem.W.nsIn K mainGlobals "range" = some none)
    (z_any : PySem.W.nsIn K mainGlobals "any" = some none)
    (z_all : PySem.W.nsIn K mainGlobals "all" = some none)
    (z_str : PySem.W.nsIn K mainGlobals "str" = some none)
    (z_isinstance : PySem.W.nsIn K mainGlobals "isinstance" = some none)
    (z_ValueError : PySem.W.nsIn K mainGlobals "ValueError" = some none)
    (e0 : ErrCls K c0)
    (e1 : ErrCls K c1)
    (e2 : ErrCls K c2)
    (e3 : ErrCls K c3)
    (e4 : ErrCls K c4)
    (e5 : ErrCls K c5)
    (ho : chkOwn K (cOf c0 c1 c2 c3 c4 c5 c6) = true)
    (ty_RunError : PySem.W.typeIn K (.ref c6) = some (.type "type"))
    (cs_RunError : (PySem.W.clsIn K c6).isSome = true)
    (be_RunError : PySem.W.mroIn K c6 (.type "BaseException") = some true) :
    ∃ fd : FuncData, (∀ (s : Shared) (v : Value), BindsTo s fd ⟨[v], []⟩ [("script", v)]) ∧ ∀ base : Heap, K.In base → base.Ns mainGlobals mg → FnOk l.prog w K mg base (CXE l.prog w) 8 fa fd ["script"] (spLaw K) := by
  refine ⟨PySem.W.fnOf "law" "law" (defArgs (top 54)) (defBody (top 54)) (defScope (top 54)) .none kV_law dc_law pm_law an_law cd_law ct_law, fun s v => .of_eq rfl, fun base _ _ => ?_⟩
  have hK : Kits K (cOf c0 c1 c2 c3 c4 c5 c6) := kits_of e0 e1 e2 e3 e4 e5 ho
  have T_z_len := PySem.W.mg_none_of X G z_len
  have T_z_range := PySem.W.mg_none_of X G z_range
  have T_z_any := PySem.W.mg_none_of X G z_any
  have T_z_all := PySem.W.mg_none_of X G z_all
  have T_z_str := PySem.W.mg_none_of X G z_str
  have T_z_isinstance := PySem.W.mg_none_of X G z_isinstance
  have T_z_ValueError := PySem.W.mg_none_of X G z_ValueError
  have T_m_NoLetters : mg "NoLetters" = some (.ref ((cOf c0 c1 c2 c3 c4 c5 c6) 0)) := PySem.W.mg_of X G m0
  have T_m_NoRow : mg "NoRow" = some (.ref ((cOf c0 c1 c2 c3 c4 c5 c6) 1)) := PySem.W.mg_of X G m1
  have T_m_NoLengths : mg "NoLengths" = some (.ref ((cOf c0 c1 c2 c3 c4 c5 c6) 2)) := PySem.W.mg_of X G m2
  have T_m_NoSign : mg "NoSign" = some (.ref ((cOf c0 c1 c2 c3 c4 c5 c6) 3)) := PySem.W.mg_of X G m3
  have T_m_TooMany : mg "TooMany" = some (.ref ((cOf c0 c1 c2 c3 c4 c5 c6) 4)) := PySem.W.mg_of X G m4
  have T_m_BadText : mg "BadText" = some (.ref ((cOf c0 c1 c2 c3 c4 c5 c6) 5)) := PySem.W.mg_of X G m5
  have T_m_RunError : mg "RunError" = some (.ref ((cOf c0 c1 c2 c3 c4 c5 c6) 6)) := PySem.W.mg_of X G m6
  have T_x_NoLetters : PySem.W.excIn K ((cOf c0 c1 c2 c3 c4 c5 c6) 0) bmVE "ValueError.__new__" = true := x0
  have T_x_NoRow : PySem.W.excIn K ((cOf c0 c1 c2 c3 c4 c5 c6) 1) bmVE "ValueError.__new__" = true := x1
  have T_x_TooMany : PySem.W.excIn K ((cOf c0 c1 c2 c3 c4 c5 c6) 4) bmVE "ValueError.__new__" = true := x4
  have T_x_BadText : PySem.W.excIn K ((cOf c0 c1 c2 c3 c4 c5 c6) 5) bmVE "ValueError.__new__" = true := x5
  have T_x_NoSign : PySem.W.excIn K ((cOf c0 c1 c2 c3 c4 c5 c6) 3) bmVE "ValueError.__new__" = true := x3
  have T_x_NoLengths : PySem.W.excIn K ((cOf c0 c1 c2 c3 c4 c5 c6) 2) bmVE "ValueError.__new__" = true := x2
  have T_c_LEAST_NUMBER := PySem.W.mg_of X G n_LEAST_NUMBER
  have T_c_GREATEST_NUMBER := PySem.W.mg_of X G n_GREATEST_NUMBER
  have T_c_MOST_SIGNS := PySem.W.mg_of X G n_MOST_SIGNS
  have T_c_LONGEST_LISTED := PySem.W.mg_of X G n_LONGEST_LISTED
  have T_c_MOST_RUNS := PySem.W.mg_of X G n_MOST_RUNS
  have T_c_MOST_LENGTHS := PySem.W.mg_of X G n_MOST_LENGTHS
  have T_ty_RunError := ty_RunError
  have T_cs_RunError := cs_RunError
  have T_be_RunError := be_RunError
  have D_law_letters : DefAt K mg "_law_letters" (top 46) ["cell"] := ⟨f_law_letters, _, fun_mk l_law_letters d_law_letters k_law_letters, (fun_mk (st := top 46) l_law_letters d_law_letters k_law_letters).binds fun _ _ _ _ _ _ us hl => match us, hl with | [_], _ => rfl, PySem.W.mg_of X G a_law_letters⟩
  have T_law_letters := ok_law_letters (P := l.prog) (w := w) (base := base) D_law_letters 
  have D_law_cell_at : DefAt K mg "_law_cell_at" (top 41) ["script", "k"] := ⟨f_law_cell_at, _, fun_mk l_law_cell_at d_law_cell_at k_law_cell_at, (fun_mk (st := top 41) l_law_cell_at d_law_cell_at k_law_cell_at).binds fun _ _ _ _ _ _ us hl => match us, hl with | [_, _], _ => rfl, PySem.W.mg_of X G a_law_cell_at⟩
  have T_law_cell_at := ok_law_cell_at (P := l.prog) (w := w) (base := base) D_law_cell_at T_z_len
  have D_law_digits : DefAt K mg "_law_digits" (top 48) ["letters", "cell", "many"] := ⟨f_law_digits, _, fun_mk l_law_digits d_law_digits k_law_digits, (fun_mk (st := top 48) l_law_digits d_law_digits k_law_digits).binds fun _ _ _ _ _ _ us hl => match us, hl with | [_, _, _], _ => rfl, PySem.W.mg_of X G a_law_digits⟩
  have T_law_digits := ok_law_digits (P := l.prog) (w := w) (base := base) D_law_digits T_z_range
  have D_law_one : DefAt K mg "_law_one" (top 44) ["k"] := ⟨f_law_one, _, fun_mk l_law_one d_law_one k_law_one, (fun_mk (st := top 44) l_law_one d_law_one k_law_one).binds fun _ _ _ _ _ _ us hl => match us, hl with | [_], _ => rfl, PySem.W.mg_of X G a_law_one⟩
  have T_law_one := ok_law_one (P := l.prog) (w := w) (base := base) D_law_one T_z_range
  have D_check_letters : DefAt K mg "check_letters" (top 15) ["letters"] := ⟨f_check_letters, _, fun_mk l_check_letters d_check_letters k_check_letters, (fun_mk (st := top 15) l_check_letters d_check_letters k_check_letters).binds fun _ _ _ _ _ _ us hl => match us, hl with | [_], _ => rfl, PySem.W.mg_of X G a_check_letters⟩
  have T_check_letters := ok_check_letters (P := l.prog) (w := w) (base := base) (c := (cOf c0 c1 c2 c3 c4 c5 c6)) D_check_letters T_z_len T_c_LEAST_NUMBER T_c_GREATEST_NUMBER T_m_NoLetters T_x_NoLetters
  have D_check_row : DefAt K mg "check_row" (top 16) ["letters", "row"] := ⟨f_check_row, _, fun_mk l_check_row d_check_row k_check_row, (fun_mk (st := top 16) l_check_row d_check_row k_check_row).binds fun _ _ _ _ _ _ us hl => match us, hl with | [_, _], _ => rfl, PySem.W.mg_of X G a_check_row⟩
  have T_check_row := ok_check_row (P := l.prog) (w := w) (base := base) (c := (cOf c0 c1 c2 c3 c4 c5 c6)) D_check_row T_check_letters T_z_len T_c_MOST_SIGNS T_m_NoRow T_x_NoRow
  have D_run_lengths : DefAt K mg "run_lengths" (top 22) ["row"] := ⟨f_run_lengths, _, fun_mk l_run_lengths d_run_lengths k_run_lengths, (fun_mk (st := top 22) l_run_lengths d_run_lengths k_run_lengths).binds fun _ _ _ _ _ _ us hl => match us, hl with | [_], _ => rfl, PySem.W.mg_of X G a_run_lengths⟩
  have T_run_lengths := ok_run_lengths (P := l.prog) (w := w) (base := base) D_run_lengths 
  have D_lengths_fit : DefAt K mg "lengths_fit" (top 25) ["letters", "some"] := ⟨f_lengths_fit, _, fun_mk l_lengths_fit d_lengths_fit k_lengths_fit, (fun_mk (st := top 25) l_lengths_fit d_lengths_fit k_lengths_fit).binds fun _ _ _ _ _ _ us hl => match us, hl with | [_, _], _ => rfl, PySem.W.mg_of X G a_lengths_fit⟩
  have T_lengths_fit := ok_lengths_fit (P := l.prog) (w := w) (base := base) D_lengths_fit T_z_any T_z_all
  have D_inner_lengths : DefAt K mg "inner_lengths" (top 26) ["letters", "row"] := ⟨f_inner_lengths, _, fun_mk l_inner_lengths d_inner_lengths k_inner_lengths, (fun_mk (st := top 26) l_inner_lengths d_inner_lengths k_inner_lengths).binds fun _ _ _ _ _ _ us hl => match us, hl with | [_, _], _ => rfl, PySem.W.mg_of X G a_inner_lengths⟩
  have T_inner_lengths := ok_inner_lengths (P := l.prog) (w := w) (base := base) D_inner_lengths T_run_lengths T_lengths_fit
  have D_inner : DefAt K mg "inner" (top 29) ["letters", "row"] := ⟨f_inner, _, fun_mk l_inner d_inner k_inner, (fun_mk (st := top 29) l_inner d_inner k_inner).binds fun _ _ _ _ _ _ us hl => match us, hl with | [_, _], _ => rfl, PySem.W.mg_of X G a_inner⟩
  have T_inner := ok_inner (P := l.prog) (w := w) (base := base) (c := (cOf c0 c1 c2 c3 c4 c5 c6)) D_inner T_check_row T_inner_lengths
  have D_smooth_height : DefAt K mg "smooth_height" (top 27) ["letters", "row"] := ⟨f_smooth_height, _, fun_mk l_smooth_height d_smooth_height k_smooth_height, (fun_mk (st := top 27) l_smooth_height d_smooth_height k_smooth_height).binds fun _ _ _ _ _ _ us hl => match us, hl with | [_, _], _ => rfl, PySem.W.mg_of X G a_smooth_height⟩
  have T_smooth_height := ok_smooth_height (P := l.prog) (w := w) (base := base) D_smooth_height T_inner_lengths
  have D_height : DefAt K mg "height" (top 30) ["letters", "row"] := ⟨f_height, _, fun_mk l_height d_height k_height, (fun_mk (st := top 30) l_height d_height k_height).binds fun _ _ _ _ _ _ us hl => match us, hl with | [_, _], _ => rfl, PySem.W.mg_of X G a_height⟩
  have T_height := ok_height (P := l.prog) (w := w) (base := base) (c := (cOf c0 c1 c2 c3 c4 c5 c6)) D_height T_check_row T_smooth_height
  have D_next_signs : DefAt K mg "next_signs" (top 28) ["letters", "row"] := ⟨f_next_signs, _, fun_mk l_next_signs d_next_signs k_next_signs, (fun_mk (st := top 28) l_next_signs d_next_signs k_next_signs).binds fun _ _ _ _ _ _ us hl => match us, hl with | [_, _], _ => rfl, PySem.W.mg_of X G a_next_signs⟩
  have T_next_signs := ok_next_signs (P := l.prog) (w := w) (base := base) D_next_signs T_smooth_height
  have D_goes_on : DefAt K mg "goes_on" (top 31) ["letters", "row"] := ⟨f_goes_on, _, fun_mk l_goes_on d_goes_on k_goes_on, (fun_mk (st := top 31) l_goes_on d_goes_on k_goes_on).binds fun _ _ _ _ _ _ us hl => match us, hl with | [_, _], _ => rfl, PySem.W.mg_of X G a_goes_on⟩
  have T_goes_on := ok_goes_on (P := l.prog) (w := w) (base := base) (c := (cOf c0 c1 c2 c3 c4 c5 c6)) D_goes_on T_check_row T_next_signs
  have D_shown : DefAt K mg "shown" (top 34) ["letters", "row"] := ⟨f_shown, _, fun_mk l_shown d_shown k_shown, (fun_mk (st := top 34) l_shown d_shown k_shown).binds fun _ _ _ _ _ _ us hl => match us, hl with | [_, _], _ => rfl, PySem.W.mg_of X G a_shown⟩
  have T_shown := ok_shown (P := l.prog) (w := w) (base := base) (c := (cOf c0 c1 c2 c3 c4 c5 c6)) D_shown T_check_row T_z_str
  have D_check_many : DefAt K mg "check_many" (top 19) ["many", "most"] := ⟨f_check_many, _, fun_mk l_check_many d_check_many k_check_many, (fun_mk (st := top 19) l_check_many d_check_many k_check_many).binds fun _ _ _ _ _ _ us hl => match us, hl with | [_, _], _ => rfl, PySem.W.mg_of X G a_check_many⟩
  have T_check_many := ok_check_many (P := l.prog) (w := w) (base := base) (c := (cOf c0 c1 c2 c3 c4 c5 c6)) D_check_many T_m_TooMany T_x_TooMany
  have D_all_smooth : DefAt K mg "all_smooth" (top 32) ["letters", "many"] := ⟨f_all_smooth, _, fun_mk l_all_smooth d_all_smooth k_all_smooth, (fun_mk (st := top 32) l_all_smooth d_all_smooth k_all_smooth).binds fun _ _ _ _ _ _ us hl => match us, hl with | [_, _], _ => rfl, PySem.W.mg_of X G a_all_smooth⟩
  have T_all_smooth := ok_all_smooth (P := l.prog) (w := w) (base := base) (c := (cOf c0 c1 c2 c3 c4 c5 c6)) D_all_smooth T_check_letters T_check_many T_c_LONGEST_LISTED T_z_range T_next_signs
  have D_read : DefAt K mg "read" (top 35) ["letters", "text"] := ⟨f_read, _, fun_mk l_read d_read k_read, (fun_mk (st := top 35) l_read d_read k_read).binds fun _ _ _ _ _ _ us hl => match us, hl with | [_, _], _ => rfl, PySem.W.mg_of X G a_read⟩
  have T_read := ok_read (P := l.prog) (w := w) (base := base) (c := (cOf c0 c1 c2 c3 c4 c5 c6)) D_read T_check_letters T_z_str T_m_BadText T_x_BadText
  have D_check_sign : DefAt K mg "check_sign" (top 17) ["letters", "sign"] := ⟨f_check_sign, _, fun_mk l_check_sign d_check_sign k_check_sign, (fun_mk (st := top 17) l_check_sign d_check_sign k_check_sign).binds fun _ _ _ _ _ _ us hl => match us, hl with | [_, _], _ => rfl, PySem.W.mg_of X G a_check_sign⟩
  have T_check_sign := ok_check_sign (P := l.prog) (w := w) (base := base) (c := (cOf c0 c1 c2 c3 c4 c5 c6)) D_check_sign T_check_letters T_m_NoSign T_x_NoSign
  have D_other_sign : DefAt K mg "other_sign" (top 21) ["letters", "sign"] := ⟨f_other_sign, _, fun_mk l_other_sign d_other_sign k_other_sign, (fun_mk (st := top 21) l_other_sign d_other_sign k_other_sign).binds fun _ _ _ _ _ _ us hl => match us, hl with | [_, _], _ => rfl, PySem.W.mg_of X G a_other_sign⟩
  have T_other_sign := ok_other_sign (P := l.prog) (w := w) (base := base) D_other_sign 
  have D_first_runs : DefAt K mg "first_runs" (top 37) ["letters", "sign", "many"] := ⟨f_first_runs, _, fun_mk l_first_runs d_first_runs k_first_runs, (fun_mk (st := top 37) l_first_runs d_first_runs k_first_runs).binds fun _ _ _ _ _ _ us hl => match us, hl with | [_, _, _], _ => rfl, PySem.W.mg_of X G a_first_runs⟩
  have T_first_runs := ok_first_runs (P := l.prog) (w := w) (base := base) D_first_runs T_z_range T_z_len T_other_sign
  have D_own : DefAt K mg "own" (top 38) ["letters", "sign", "many"] := ⟨f_own, _, fun_mk l_own d_own k_own, (fun_mk (st := top 38) l_own d_own k_own).binds fun _ _ _ _ _ _ us hl => match us, hl with | [_, _, _], _ => rfl, PySem.W.mg_of X G a_own⟩
  have T_own := ok_own (P := l.prog) (w := w) (base := base) (c := (cOf c0 c1 c2 c3 c4 c5 c6)) D_own T_check_sign T_check_many T_c_MOST_SIGNS T_first_runs
  have D_own_runs : DefAt K mg "own_runs" (top 39) ["letters", "sign", "many"] := ⟨f_own_runs, _, fun_mk l_own_runs d_own_runs k_own_runs, (fun_mk (st := top 39) l_own_runs d_own_runs k_own_runs).binds fun _ _ _ _ _ _ us hl => match us, hl with | [_, _, _], _ => rfl, PySem.W.mg_of X G a_own_runs⟩
  have T_own_runs := ok_own_runs (P := l.prog) (w := w) (base := base) (c := (cOf c0 c1 c2 c3 c4 c5 c6)) D_own_runs T_check_sign T_check_many T_c_MOST_RUNS T_first_runs
  have D_check_lengths : DefAt K mg "check_lengths" (top 18) ["some"] := ⟨f_check_lengths, _, fun_mk l_check_lengths d_check_lengths k_check_lengths, (fun_mk (st := top 18) l_check_lengths d_check_lengths k_check_lengths).binds fun _ _ _ _ _ _ us hl => match us, hl with | [_], _ => rfl, PySem.W.mg_of X G a_check_lengths⟩
  have T_check_lengths := ok_check_lengths (P := l.prog) (w := w) (base := base) (c := (cOf c0 c1 c2 c3 c4 c5 c6)) D_check_lengths T_z_len T_c_MOST_LENGTHS T_m_NoLengths T_x_NoLengths T_c_LEAST_NUMBER T_c_GREATEST_NUMBER
  have D_built : DefAt K mg "built" (top 23) ["letters", "sign", "some"] := ⟨f_built, _, fun_mk l_built d_built k_built, (fun_mk (st := top 23) l_built d_built k_built).binds fun _ _ _ _ _ _ us hl => match us, hl with | [_, _, _], _ => rfl, PySem.W.mg_of X G a_built⟩
  have T_built := ok_built (P := l.prog) (w := w) (base := base) (c := (cOf c0 c1 c2 c3 c4 c5 c6)) D_built T_check_sign T_check_lengths T_other_sign
  have D_law_call : DefAt K mg "_law_call" (top 52) ["call", "letters", "row", "odd"] := ⟨f_law_call, _, fun_mk l_law_call d_law_call k_law_call, (fun_mk (st := top 52) l_law_call d_law_call k_law_call).binds fun _ _ _ _ _ _ us hl => match us, hl with | [_, _, _, _], _ => rfl, PySem.W.mg_of X G a_law_call⟩
  have T_law_call := ok_law_call (P := l.prog) (w := w) (base := base) (c := (cOf c0 c1 c2 c3 c4 c5 c6)) D_law_call T_inner T_height T_goes_on T_shown T_all_smooth T_read T_own T_own_runs T_built
  have D_law_kind : DefAt K mg "_law_kind" (top 43) ["e"] := ⟨f_law_kind, _, fun_mk l_law_kind d_law_kind k_law_kind, (fun_mk (st := top 43) l_law_kind d_law_kind k_law_kind).binds fun _ _ _ _ _ _ us hl => match us, hl with | [_], _ => rfl, PySem.W.mg_of X G a_law_kind⟩
  have T_law_kind := ok_law_kind (P := l.prog) (w := w) (base := base) (c := (cOf c0 c1 c2 c3 c4 c5 c6)) D_law_kind T_z_isinstance T_m_NoLetters T_m_NoRow T_m_NoLengths T_m_NoSign T_m_TooMany T_m_BadText T_z_ValueError hK
  have D_law_kinds : DefAt K mg "_law_kinds" (top 53) ["call", "letters", "row", "odd"] := ⟨f_law_kinds, _, fun_mk l_law_kinds d_law_kinds k_law_kinds, (fun_mk (st := top 53) l_law_kinds d_law_kinds k_law_kinds).binds fun _ _ _ _ _ _ us hl => match us, hl with | [_, _, _, _], _ => rfl, PySem.W.mg_of X G a_law_kinds⟩
  have T_law_kinds := ok_law_kinds (P := l.prog) (w := w) (base := base) (c := (cOf c0 c1 c2 c3 c4 c5 c6)) D_law_kinds T_m_RunError T_ty_RunError T_cs_RunError T_be_RunError T_law_call T_law_kind hK
  have D_law : DefAt K mg "law" (top 54) ["script"] := ⟨f_law, _, fun_mk l_law d_law k_law, (fun_mk (st := top 54) l_law d_law k_law).binds fun _ _ _ _ _ _ us hl => match us, hl with | [_], _ => rfl, PySem.W.mg_of X G a_law⟩
  have T_law := ok_law (P := l.prog) (w := w) (base := base) (c := (cOf c0 c1 c2 c3 c4 c5 c6)) D_law T_law_letters T_law_cell_at T_law_digits T_z_len T_law_one T_law_kinds
  exact T_law.top hfa (by cases (hfa.symm.trans (PySem.W.mg_of X G a_law)); exact l_law)
open PyProof.Rows in
theorem walk {l : PySem.W.OpenLaw} {q : Program} {loose : List Str} {XP : (Str → Option Value) → Heap → Prop} {YP : World → Heap → Prop} {d : DefRec} {K : Params → PySem.W.Frag} (hn : l.most = some 63) (hdf : d.params.defaults = [])
    (hY : ∀ (w : World) (h : Heap), YP w h → (K w.params).In h)
    (F : ∀ (w : World) (mg : Str → Option Value) (fa : Addr) (h : Heap), (K w.params).In h → h.Ns mainGlobals mg → mg d.name = some (.ref fa) →
      ∃ fd : FuncData, (∀ (s : Shared) (u : Value), BindsTo s fd ⟨[u], []⟩ [("script", u)]) ∧ ∀ base : Heap, (K w.params).In base → base.Ns mainGlobals mg → FnOk l.prog w (K w.params) mg base (CXE l.prog w) 8 fa fd ["script"] (spLaw (K w.params))) :
    PySem.W.WalkO q loose XP YP l.row.toRowW d [] (fun f vs => PySem.call f vs) :=
  L2.walk_of (n := 63) (k := 8) (x := "script") (CX := fun w => CXE l.prog w) (sp := fun w => spLaw (K w.params)) hn (by decide) hdf ⟨rfl, by decide, by decide, rfl⟩ hY F (fun _ _ a ns hl _ hS => ⟨a, ns, rfl, hS, hl, fun _ => rfl⟩) fun _ _ _ _ _ z => CXE_no z
end Sr
open PySem PySem.W PyProof.Rows L2
set_option maxRecDepth 100000 in
set_option maxHeartbeats 0 in
theorem PySem.Challenge.cw_selfruns_k10_what_is_refused_holds : PySem.Challenge.rw_selfruns_k10_what_is_refused.Holds := by
  w_on; o_law; k_head; (case hw => w_witness2)
  k_fill
  refine Sr.walk (l := PySem.Challenge.rw_selfruns_k10_what_is_refused) rfl rfl (fun w h Y => PySem.W.kIn_of Y) ?F
  case F =>
    intro w mg fa h KX G hmg
    refine' Sr.all_mk KX G hmg ?a_law_letters ?l_law_letters ?d_law_letters ?k_law_letters ?a_law_cell_at ?l_law_cell_at ?d_law_cell_at ?k_law_cell_at ?a_law_digits ?l_law_digits ?d_law_digits ?k_law_digits ?a_law_one ?l_law_one ?d_law_one ?k_law_one ?a_check_letters ?l_check_letters ?d_check_letters ?k_check_letters ?a_check_row ?l_check_row ?d_check_row ?k_check_row ?a_run_lengths ?l_run_lengths ?d_run_lengths ?k_run_lengths ?a_lengths_fit ?l_lengths_fit ?d_lengths_fit ?k_lengths_fit ?a_inner_lengths ?l_inner_lengths ?d_inner_lengths ?k_inner_lengths ?a_inner ?l_inner ?d_inner ?k_inner ?a_smooth_height ?l_smooth_height ?d_smooth_height ?k_smooth_height ?a_height ?l_height ?d_height ?k_height ?a_next_signs ?l_next_signs ?d_next_signs ?k_next_signs ?a_goes_on ?l_goes_on ?d_goes_on ?k_goes_on ?a_shown ?l_shown ?d_shown ?k_shown ?a_check_many ?l_check_many ?d_check_many ?k_check_many ?a_all_smooth ?l_all_smooth ?d_all_smooth ?k_all_smooth ?a_read ?l_read ?d_read ?k_read ?a_check_sign ?l_check_sign ?d_check_sign ?k_check_sign ?a_other_sign ?l_other_sign ?d_other_sign ?k_other_sign ?a_first_runs ?l_first_runs ?d_first_runs ?k_first_runs ?a_own ?l_own ?d_own ?k_own ?a_own_runs ?l_own_runs ?d_own_runs ?k_own_runs ?a_check_lengths ?l_check_lengths ?d_check_lengths ?k_check_lengths ?a_built ?l_built ?d_built ?k_built ?a_law_call ?l_law_call ?d_law_call ?k_law_call ?a_law_kind ?l_law_kind ?d_law_kind ?k_law_kind ?a_law_kinds ?l_law_kinds ?d_law_kinds ?k_law_kinds ?a_law ?l_law ?d_law ?k_law ?m0 ?m1 ?m2 ?m3 ?m4 ?m5 ?m6 ?x0 ?x1 ?x4 ?x5 ?x3 ?x2 ?n_LEAST_NUMBER ?n_GREATEST_NUMBER ?n_MOST_SIGNS ?n_LONGEST_LISTED ?n_MOST_RUNS ?n_MOST_LENGTHS ?z_len ?z_range ?z_any ?z_all ?z_str ?z_isinstance ?z_ValueError ?e0 ?e1 ?e2 ?e3 ?e4 ?e5 ?ho ?ty_RunError ?cs_RunError ?be_RunError
    (case a_law_letters => k_is)
    (case l_law_letters => k_is)
    (case d_law_letters => k_is)
    (case k_law_letters => k_is)
    (case a_law_cell_at => k_is)
    (case l_law_cell_at => k_is)
    (case d_law_cell_at => k_is)
    (case k_law_cell_at => k_is)
    (case a_law_digits => k_is)
    (case l_law_digits => k_is)
    (case d_law_digits => k_is)
    (case k_law_digits => k_is)
    (case a_law_one => k_is)
    (case l_law_one => k_is)
    (case d_law_one => k_is)
    (case k_law_one => k_is)
    (case a_check_letters => k_is)
    (case l_check_letters => k_is)
    (case d_check_letters => k_is)
    (case k_check_letters => k_is)
    (case a_check_row => k_is)
    (case l_check_row => k_is)
    (case d_check_row => k_is)
    (case k_check_row => k_is)
    (case a_run_lengths => k_is)
    (case l_run_lengths => k_is)
    (case d_run_lengths => k_is)
    (case k_run_lengths => k_is)
    (case a_lengths_fit => k_is)
    (case l_lengths_fit => k_is)
    (case d_lengths_fit => k_is)
    (case k_lengths_fit => k_is)
    (case a_inner_lengths => k_is)
    (case l_inner_lengths => k_is)
    (case d_inner_lengths => k_is)
    (case k_inner_lengths => k_is)
    (case a_inner => k_is)
    (case l_inner => k_is)
    (case d_inner => k_is)
    (case k_inner => k_is)
    (case a_smooth_height => k_is)
    (case l_smooth_height => k_is)
    (case d_smooth_height => k_is)
    (case k_smooth_height => k_is)
    (case a_height => k_is)
    (case l_height => k_is)
    (case d_height => k_is)
    (case k_height => k_is)
    (case a_next_signs => k_is)
    (case l_next_signs => k_is)
    (case d_next_signs => k_is)
    (case k_next_signs => k_is)
    (case a_goes_on => k_is)
    (case l_goes_on => k_is)
    (case d_goes_on => k_is)
    (case k_goes_on => k_is)
    (case a_shown => k_is)
    (case l_shown => k_is)
    (case d_shown => k_is)
    (case k_shown => k_is)
    (case a_check_many => k_is)
    (case l_check_many => k_is)
    (case d_check_many => k_is)
    (case k_check_many => k_is)
    (case a_all_smooth => k_is)
    (case l_all_smooth => k_is)
    (case d_all_smooth => k_is)
    (case k_all_smooth => k_is)
    (case a_read => k_is)
    (case l_read => k_is)
    (case d_read => k_is)
    (case k_read => k_is)
    (case a_check_sign => k_is)
    (case l_check_sign => k_is)
    (case d_check_sign => k_is)
    (case k_check_sign => k_is)
    (case a_other_sign => k_is)
    (case l_other_sign => k_is)
    (case d_other_sign => k_is)
    (case k_other_sign => k_is)
    (case a_first_runs => k_is)
    (case l_first_runs => k_is)
    (case d_first_runs => k_is)
    (case k_first_runs => k_is)
    (case a_own => k_is)
    (case l_own => k_is)
    (case d_own => k_is)
    (case k_own => k_is)
    (case a_own_runs => k_is)
    (case l_own_runs => k_is)
    (case d_own_runs => k_is)
    (case k_own_runs => k_is)
    (case a_check_lengths => k_is)
    (case l_check_lengths => k_is)
    (case d_check_lengths => k_is)
    (case k_check_lengths => k_is)
    (case a_built => k_is)
    (case l_built => k_is)
    (case d_built => k_is)
    (case k_built => k_is)
    (case a_law_call => k_is)
    (case l_law_call => k_is)
    (case d_law_call => k_is)
    (case k_law_call => k_is)
    (case a_law_kind => k_is)
    (case l_law_kind => k_is)
    (case d_law_kind => k_is)
    (case k_law_kind => k_is)
    (case a_law_kinds => k_is)
    (case l_law_kinds => k_is)
    (case d_law_kinds => k_is)
    (case k_law_kinds => k_is)
    (case a_law => k_is)
    (case l_law => k_is)
    (case d_law => k_is)
    (case k_law => k_is)
    (case m0 => k_is)
    (case m1 => k_is)
    (case m2 => k_is)
    (case m3 => k_is)
    (case m4 => k_is)
    (case m5 => k_is)
    (case m6 => k_is)
    (case x0 => k_exc)
    (case x1 => k_exc)
    (case x4 => k_exc)
    (case x5 => k_exc)
    (case x3 => k_exc)
    (case x2 => k_exc)
    (case n_LEAST_NUMBER => k_is)
    (case n_GREATEST_NUMBER => k_is)
    (case n_MOST_SIGNS => k_is)
    (case n_LONGEST_LISTED => k_is)
    (case n_MOST_RUNS => k_is)
    (case n_MOST_LENGTHS => k_is)
    (case z_len => k_is)
    (case z_range => k_is)
    (case z_any => k_is)
    (case z_all => k_is)
    (case z_str => k_is)
    (case z_isinstance => k_is)
    (case z_ValueError => k_is)
    (case e0 => exact ⟨by kernel_rfl, by kernel_rfl, by kernel_rfl, by kernel_rfl, by kernel_rfl, by kernel_rfl, by kernel_rfl, by kernel_rfl⟩)
    (case e1 => exact ⟨by kernel_rfl, by kernel_rfl, by kernel_rfl, by kernel_rfl, by kernel_rfl, by kernel_rfl, by kernel_rfl, by kernel_rfl⟩)
    (case e2 => exact ⟨by kernel_rfl, by kernel_rfl, by kernel_rfl, by kernel_rfl, by kernel_rfl, by kernel_rfl, by kernel_rfl, by kernel_rfl⟩)
    (case e3 => exact ⟨by kernel_rfl, by kernel_rfl, by kernel_rfl, by kernel_rfl, by kernel_rfl, by kernel_rfl, by kernel_rfl, by kernel_rfl⟩)
    (case e4 => exact ⟨by kernel_rfl, by kernel_rfl, by kernel_rfl, by kernel_rfl, by kernel_rfl, by kernel_rfl, by kernel_rfl, by kernel_rfl⟩)
    (case e5 => exact ⟨by kernel_rfl, by kernel_rfl, by kernel_rfl, by kernel_rfl, by kernel_rfl, by kernel_rfl, by kernel_rfl, by kernel_rfl⟩)
    (case ho => kernel_rfl)
    (case ty_RunError => kernel_rfl)
    (case cs_RunError => kernel_rfl)
    (case be_RunError => kernel_rfl)
#print axioms PySem.Challenge.cw_selfruns_k10_what_is_refused_holds
