import PyProof.Rows.All
import Wide.All
import OpenK.AllK
import Wide.FinOn
import PyProof.EqAt
import PyProof.EqKinds
import PyProof.TupleCall
import PyProof.CompFree
import PyProof.Cells
import KE.KDictList
import KE.KDictLaws
import Lean
import PySem.Challenge.RW_touchtree_k54_whole_back_and_twins
set_option Elab.async false
set_option linter.all false
set_option maxRecDepth 100000
namespace L2
open PySem PySem.Spec PyProof.Rows
noncomputable abbrev Key := Sum Int Str
noncomputable def keyIs : Key → Value → Bool
  | .inl k, v => Value.isInt k v
  | .inr x, v => Value.isStrOf x v
noncomputable def keyH (w : World) : Key → Int
  | .inl k => hashInt k
  | .inr x => hashStr w x
theorem keyIs_shape : ∀ {k : Key} {v : Value}, keyIs k v = true → (∃ i t, k = Sum.inl i ∧ v = Value.int i t) ∨ (∃ x t, k = Sum.inr x ∧ v = Value.str x t)
  | .inl i, v, h => by
    obtain ⟨t, e⟩ := Value.isInt_shape (k := i) (v := v) h
    exact .inl ⟨i, t, rfl, e⟩
  | .inr x, v, h => by
    obtain ⟨t, e⟩ := Value.isStrOf_shape (x := x) (v := v) h
    exact .inr ⟨x, t, rfl, e⟩
theorem key_ll (a b : Int) : decide ((Sum.inl a : Key) = Sum.inl b) = (a == b) := by
  by_cases e : a = b
  · subst e; simp
  · have h : ¬ (Sum.inl a : Key) = Sum.inl b := fun q => e (Sum.inl.inj q)
    rw [decide_eq_false h]
    exact (beq_eq_false_iff_ne.mpr e).symm
theorem key_rr (a b : Str) : decide ((Sum.inr a : Key) = Sum.inr b) = decide (a = b) := by
  by_cases e : a = b
  · subst e; simp
  · have h : ¬ (Sum.inr a : Key) = Sum.inr b := fun q => e (Sum.inr.inj q)
    rw [decide_eq_false h, decide_eq_false e]
theorem key_lr (a : Int) (b : Str) : decide ((Sum.inl a : Key) = Sum.inr b) = false := decide_eq_false (fun q => nomatch q)
theorem key_rl (a : Str) (b : Int) : decide ((Sum.inr a : Key) = Sum.inl b) = false := decide_eq_false (fun q => nomatch q)
noncomputable def mixKind (prog : Program) (w : World) : PySem.KeyKind prog w Key where
  is := keyIs
  hash := keyH w
  inj := fun v a b ha hb => by
    rcases keyIs_shape ha with ⟨i, t, rfl, rfl⟩ | ⟨x, t, rfl, rfl⟩
    · rcases keyIs_shape hb with ⟨j, u, rfl, e⟩ | ⟨y, u, rfl, e⟩
      · injection e with e1 _; rw [e1]
      · exact nomatch e
    · rcases keyIs_shape hb with ⟨j, u, rfl, e⟩ | ⟨y, u, rfl, e⟩
      · exact nomatch e
      · injection e with e1 _; rw [e1]
  byValue := fun k v h => by
    rcases keyIs_shape h with ⟨i, t, rfl, rfl⟩ | ⟨x, t, rfl, rfl⟩ <;> rfl
  pyHash := fun hv h => by
    rcases keyIs_shape hv with ⟨i, t, rfl, rfl⟩ | ⟨x, t, rfl, rfl⟩
    · exact wpAny_pyHash_int h
    · exact wpAny_pyHash_str h
  eqBool := fun hu hv h => by
    rcases keyIs_shape hu with ⟨i, t, rfl, rfl⟩ | ⟨x, t, rfl, rfl⟩
    · rcases keyIs_shape hv with ⟨j, u, rfl, rfl⟩ | ⟨y, u, rfl, rfl⟩
      · rw [key_ll] at h; exact wpAny_eqBool_int h
      · rw [key_lr] at h; exact SeqAt.EqAt.int_str i t y u _ _ _ _ h
    · rcases keyIs_shape hv with ⟨j, u, rfl, rfl⟩ | ⟨y, u, rfl, rfl⟩
      · rw [key_rl] at h; exact SeqAt.EqAt.str_int x t j u _ _ _ _ h
      · rw [key_rr] at h; exact wpAny_eqBool_str h
  «strs» := fun k x t v h => by
    rcases keyIs_shape h with ⟨i, u, rfl, e⟩ | ⟨y, u, rfl, e⟩
    · exact nomatch e
    · injection e with e1 _
      subst e1
      cases v <;> rfl
end L2
namespace L2
open PySem PySem.Spec PyProof.Rows
inductive V where
  | non | bl (b : Bool) | int (i : Int) | str (x : Str) | byt (b : Array UInt8) | flt (b : UInt64) | ref (a : Addr) | ty (n : String)
  deriving DecidableEq
noncomputable def RelV : V → Value → Prop
  | .non, u => u = Value.none
  | .bl b, u => u = Value.bool b
  | .int i, u => ∃ t, u = Value.int i t
  | .str x, u => ∃ t, u = Value.str x t
  | .byt b, u => ∃ t, u = Value.bytes b t
  | .flt b, u => ∃ t, u = Value.float b t
  | .ref a, u => u = Value.ref a
  | .ty n, u => u = Value.type n
noncomputable abbrev Vals : List V → List Value → Prop := Paired RelV
theorem Vals.length {xs : List V} {us : List Value} (r : Vals xs us) : xs.length = us.length := Paired.length r
theorem Vals.get : ∀ {xs : List V} {us : List Value} {i : Nat} {x : V}, Vals xs us → xs[i]? = some x → ∃ u, us[i]? = some u ∧ RelV x u
  | _, _, _, _, .nil, e => by simp at e
  | _, _, 0, _, .cons r _, e => by simp at e; subst e; exact ⟨_, rfl, r⟩
  | _, _, i + 1, x, .cons _ t, e => by
    obtain ⟨u, h1, h2⟩ := Vals.get (i := i) (x := x) t (by simpa using e)
    exact ⟨u, by simpa using h1, h2⟩
theorem Vals.append : ∀ {xs ys : List V} {us ws : List Value}, Vals xs us → Vals ys ws → Vals (xs ++ ys) (us ++ ws)
  | _, _, _, _, .nil, s => s
  | _, _, _, _, .cons r t, s => .cons r (Vals.append t s)
theorem Vals.take : ∀ {xs : List V} {us : List Value} (n : Nat), Vals xs us → Vals (xs.take n) (us.take n)
  | _, _, 0, _ => .nil
  | _, _, _ + 1, .nil => .nil
  | _, _, n + 1, .cons r t => .cons r (Vals.take n t)
theorem Vals.drop : ∀ {xs : List V} {us : List Value} (n : Nat), Vals xs us → Vals (xs.drop n) (us.drop n)
  | _, _, 0, r => r
  | _, _, _ + 1, .nil => .nil
  | _, _, n + 1, .cons _ t => Vals.drop n t
noncomputable def RelO : Option V → Option Value → Prop
  | some v, some u => RelV v u
  | none, none => True
  | _, _ => False
noncomputable def KV {κ : Type} : List (κ × V) → List (κ × Value) → Prop := Paired fun (p : κ × V) (q : κ × Value) => p.1 = q.1 ∧ RelV p.2 q.2
noncomputable def kV : Key → V
  | .inl i => .int i
  | .inr x => .str x
inductive HO where
  | lst (xs : List V)
  | tup (xs : List V)
  | dK (kvs : List (Key × V)) | dT (kvs : List (List Key × V))
  | set (S : Int → Bool) (n : Nat)
  | ins (C dx : Addr) (fs : List (Str × V))
  | own (x : Addr)
  | xd (fs : List (Str × V))
  | met (f x : Addr)
  | rng (lo hi : Int)
  | frz (o : Obj) (u : HO)
  | tbl (ps : Array Value)
  | ext (φ : Heap → Prop)
noncomputable abbrev Hp := Addr → Option HO
noncomputable def upd (H : Hp) (a : Addr) (o : HO) : Hp := fun b => if b = a then some o else H b
theorem upd_same {H : Hp} {a : Addr} {o : HO} : upd H a o a = some o := by unfold upd; rw [if_pos rfl]
theorem upd_ne {H : Hp} {a b : Addr} {o : HO} (h : b ≠ a) : upd H a o b = H b := by unfold upd; rw [if_neg h]
theorem ne_of_none {H : Hp} {a b : Addr} {o : HO} (h : H a = some o) (h' : H b = none) : a ≠ b := by
  intro e; subst e; rw [h] at h'; cases h'
section
variable (P : Program) (w : World)
noncomputable def ObjOk (H : Hp) (h : Heap) (a : Addr) : HO → Prop
  | .lst xs => xs.length ≤ sizeLine ∧ ∃ (its : List Value) (n : Nat), Vals xs its ∧ h.get? a = some { cls := .type "list", data := .seq its.toArray n }
  | .tup xs => xs.length ≤ sizeLine ∧ ∃ its : List Value, Vals xs its ∧ IsTup h a its.toArray
  | .dK kvs => kvs.length ≤ sizeLine ∧ (a == sysModules) = false ∧ ∃ vs, KV kvs vs ∧ h.DictOf (mixKind P w) a vs
  | .dT kvs => kvs.length ≤ sizeLine ∧ (a == sysModules) = false ∧ ∃ xs : List (List Key × Addr × Value),
      Paired (fun (p : List Key × V) (q : List Key × Addr × Value) => p.1 = q.1 ∧ H q.2.1 = some (.tup (p.1.map kV)) ∧ RelV p.2 q.2.2) kvs xs ∧
      ∃ o es ep, h.get? a = some o ∧ o.ExactDict ∧ o.data = .dict es ep ∧ es.toList = xs.map (entryOfKey (tupleKind (mixKind P w))) ∧ (xs.map (·.1)).Nodup
  | .set S n => h.SetOf (intKind P w) a S n
  | .ins C dx fs => H dx = some (.own a) ∧ fs.length ≤ 1000 ∧ dx ≠ a ∧ h.get? a = some (PySem.W.instObj C dx) ∧
      ∃ mA, h.Ns1 dx mA ∧ (∀ f, RelO (fs.lookup f) (mA f)) ∧ PySem.Within mA (fs.map (·.1))
  | .own _ => ∃ o, h.get? a = some o
  | .xd fs => ∃ mA, h.Ns1 a mA ∧ ∀ f, RelO (fs.lookup f) (mA f)
  | .rng lo hi => ∃ t u v, h.get? a = some { cls := .type "range", data := .fields #[.int lo t, .int hi u, .int 1 v] }
  | .frz o u => h.get? a = some o ∧ ObjOk H h a u
  | .tbl ps => h.get? a = some { cls := .none, data := .fields ps }
  | .met f x => h.get? a = some (PySem.W.methodObj (.ref f) (.ref x))
  | .ext φ => φ h ∧ (∃ o, h.get? a = some o) ∧ ∀ h1 h2 : Heap, φ h1 → (∀ o, h1.get? a = some o → h2.get? a = some o) → φ h2
noncomputable def HOk (H : Hp) (h : Heap) : Prop := ∀ a o, H a = some o → ObjOk P w H h a o
end
section
variable {P : Program} {w : World} {H H' : Hp} {h h' : Heap} {a : Addr} {o : HO}
theorem ObjOk.lt (x : ObjOk P w H h a o) : a < h.objs.size := by
  cases o with
  | lst xs => obtain ⟨_, _, _, _, e⟩ := x; exact Heap.lt_size e
  | tup xs => obtain ⟨_, _, _, p⟩ := x; exact p.lt
  | dK kvs => obtain ⟨_, _, _, _, o, _, _, e, _⟩ := x; exact Heap.lt_size e
  | dT kvs => obtain ⟨_, _, _, _, o, _, _, e, _⟩ := x; exact Heap.lt_size e
  | set S n => obtain ⟨o, _, _, _, e, _⟩ := x; exact Heap.lt_size e
  | ins C dx fs => obtain ⟨_, _, _, e, _⟩ := x; exact Heap.lt_size e
  | own y => obtain ⟨_, e⟩ := x; exact Heap.lt_size e
  | xd fs => obtain ⟨_, ⟨_, _, _, e, _⟩, _⟩ := x; exact Heap.lt_size e
  | rng lo hi => obtain ⟨_, _, _, e⟩ := x; exact Heap.lt_size e
  | frz ob u => obtain ⟨e, _⟩ := x; exact Heap.lt_size e
  | tbl ps => exact Heap.lt_size (show h.get? a = some _ from x)
  | met f y => exact Heap.lt_size (show h.get? a = some _ from x)
  | ext φ => obtain ⟨_, ⟨_, e⟩, _⟩ := x; exact Heap.lt_size e
theorem Paired.mapP {α β : Type} {F G : α → β → Prop} : ∀ {l₁ : List α} {l₂ : List β}, Paired F l₁ l₂ → (∀ a b, F a b → G a b) → Paired G l₁ l₂
  | _, _, .nil, _ => .nil
  | _, _, .cons r t, f => .cons (f _ _ r) (Paired.mapP t f)
theorem ObjOk.stay (x : ObjOk P w H h a o) (k : ∀ b u, (b = a ∨ H b = some (.own a)) → h.get? b = some u → h'.get? b = some u)
    (ho : ∀ b, H b = some (.own a) → H' b = some (.own a)) (ht : ∀ b xs, H b = some (.tup xs) → H' b = some (.tup xs)) : ObjOk P w H' h' a o := by
  induction o with
  | lst xs => obtain ⟨z, its, n, r, e⟩ := x; exact ⟨z, its, n, r, k _ _ (.inl rfl) e⟩
  | tup xs => obtain ⟨z, its, r, ob, e, c⟩ := x; exact ⟨z, its, r, ob, k _ _ (.inl rfl) e, c⟩
  | dK kvs => obtain ⟨z, y, vs, r, ob, es, ep, e, c⟩ := x; exact ⟨z, y, vs, r, ob, es, ep, k _ _ (.inl rfl) e, c⟩
  | dT kvs =>
    obtain ⟨z, y, xs, r, ob, es, ep, e, c⟩ := x
    exact ⟨z, y, xs, Paired.mapP r fun p q z => ⟨z.1, ht _ _ z.2.1, z.2.2⟩, ob, es, ep, k _ _ (.inl rfl) e, c⟩
  | set S n => obtain ⟨ob, es, ep, t, e, c⟩ := x; exact ⟨ob, es, ep, t, k _ _ (.inl rfl) e, c⟩
  | ins C dx fs =>
    obtain ⟨d, z, ne, e, mA, ⟨od, es, ep, e2, c⟩, r⟩ := x
    exact ⟨ho _ d, z, ne, k _ _ (.inl rfl) e, mA, ⟨od, es, ep, k _ _ (.inr d) e2, c⟩, r⟩
  | own y => obtain ⟨ob, e⟩ := x; exact ⟨ob, k _ _ (.inl rfl) e⟩
  | xd fs => obtain ⟨mA, ⟨od, es, ep, e, c⟩, r⟩ := x; exact ⟨mA, ⟨od, es, ep, k _ _ (.inl rfl) e, c⟩, r⟩
  | rng lo hi => obtain ⟨t, u, v, e⟩ := x; exact ⟨t, u, v, k _ _ (.inl rfl) e⟩
  | frz ob u ih => obtain ⟨e, q⟩ := x; exact ⟨k _ _ (.inl rfl) e, ih q⟩
  | tbl ps =>
    have e : h.get? a = some { cls := .none, data := .fields ps } := x
    show h'.get? a = some { cls := .none, data := .fields ps }
    exact k a _ (.inl rfl) e
  | met f y =>
    have e : h.get? a = some (PySem.W.methodObj (.ref f) (.ref y)) := x
    show h'.get? a = some (PySem.W.methodObj (.ref f) (.ref y))
    exact k a _ (.inl rfl) e
  | ext φ => obtain ⟨p, ⟨o, e⟩, st⟩ := x; exact ⟨st _ _ p fun o q => k _ _ (.inl rfl) q, ⟨o, k _ _ (.inl rfl) e⟩, st⟩
theorem HOk.lt (x : HOk P w H h) (e : H a = some o) : a < h.objs.size := (x a o e).lt
theorem HOk.fresh (x : HOk P w H h) (e : h.objs.size ≤ a) : H a = none := by
  cases q : H a with
  | none => rfl
  | some u => exact absurd (Nat.lt_of_lt_of_le (x.lt q) e) (Nat.lt_irrefl _)
theorem HOk.kept (x : HOk P w H h) (k : ∀ b u, h.get? b = some u → h'.get? b = some u) : HOk P w H h' := fun a o e =>
  (x a o e).stay (fun b u _ q => k b u q) (fun _ q => q) fun _ _ q => q
theorem HOk.laid (x : HOk P w H h) (k : ∀ b u, h.get? b = some u → h'.get? b = some u) (hp : h.objs.size ≤ a) (new : ObjOk P w (upd H a o) h' a o) : HOk P w (upd H a o) h' := fun b u e => by
  have hn := x.fresh hp
  by_cases hb : b = a
  · subst hb; rw [upd_same] at e; cases e; exact new
  · rw [upd_ne hb] at e
    exact (x b u e).stay (fun c v _ q => k c v q) (fun c q => by rw [upd_ne (ne_of_none q hn)]; exact q) fun c xs q => by rw [upd_ne (ne_of_none q hn)]; exact q
end
noncomputable def Rd (H : Hp) (a : Addr) (u : HO) : Prop := H a = some u ∨ ∃ o, H a = some (.frz o u)
theorem Rd.ok {P : Program} {w : World} {H : Hp} {h : Heap} {a : Addr} {u : HO} (r : Rd H a u) (x : HOk P w H h) : ObjOk P w H h a u := by
  rcases r with r | ⟨o, r⟩
  · exact x a u r
  · obtain ⟨_, q⟩ := x a _ r
    exact q
noncomputable def Mut : Option HO → Prop
  | some (.lst _) => True
  | some (.dK _) => True
  | some (.dT _) => True
  | some (.set _ _) => True
  | some (.ins _ _ _) => True
  | some (.ext _) => True
  | _ => False
section
variable {P : Program} {w : World} {H : Hp} {h h' : Heap} {x e : Addr} {o' : HO}
theorem HOk.write (ok : HOk P w H h) (mu : Mut (H x)) (he : e = x ∨ H e = some (.own x)) (k : ∀ b u, b ≠ e → h.get? b = some u → h'.get? b = some u) (heo : ∃ u, h'.get? e = some u)
    (new : ObjOk P w (upd H x o') h' x o') : HOk P w (upd H x o') h' := fun b u q => by
  have nown : ∀ c y, H c = some (.own y) → c ≠ x := fun c y r z => by subst z; rw [r] at mu; exact mu
  have ntup : ∀ c xs, H c = some (.tup xs) → c ≠ x := fun c xs r z => by subst z; rw [r] at mu; exact mu
  by_cases hb : b = x
  · subst hb; rw [upd_same] at q; cases q; exact new
  · rw [upd_ne hb] at q
    by_cases hbe : b = e
    · have q' : H b = some (.own x) := by
        rcases he with z | z
        · exact absurd (hbe.trans z) hb
        · rw [hbe]; exact z
      rw [q] at q'; cases q'
      obtain ⟨v, hv⟩ := heo
      exact ⟨v, by rw [hbe]; exact hv⟩
    · refine (ok b u q).stay (fun c v hc r => k c v ?_ r) (fun c r => by rw [upd_ne (nown c b r)]; exact r) fun c xs r => by rw [upd_ne (ntup c xs r)]; exact r
      rcases hc with rfl | hc
      · exact hbe
      · rintro rfl
        rcases he with z | z
        · exact nown c b hc z
        · rw [hc] at z; cases z; exact hb rfl
end
structure Un (fs ex : List Addr) (H H' : Hp) (h h' : Heap) : Prop where
  keep : ∀ b o, h.get? b = some o → H b = none → b ∉ fs → b ∉ ex → h'.get? b = some o
  slot : ∀ b o, h.get? b = some o → H b = none → b ∈ fs → b ∉ ex → ∃ sl, h'.get? b = some { o with slots := sl }
  free : ∀ b o, h.get? b = some o → H b = none → b ∉ ex → H' b = none
  there : ∀ b o, h.get? b = some o → b ∉ ex → ∃ o', h'.get? b = some o'
  tups : ∀ b xs, H b = some (.tup xs) → H' b = some (.tup xs)
  frzs : ∀ b o u, H b = some (.frz o u) → H' b = some (.frz o u)
  tbls : ∀ b ps, H b = some (.tbl ps) → ∃ more, H' b = some (.tbl (ps ++ more))
section
variable {fs fs' ex ex' : List Addr} {H H1 H2 : Hp} {h h1 h2 h' : Heap} {a x e : Addr} {o : HO}
theorem Un.any (u : Un fs ex H H1 h h1) {b : Addr} {ob : Obj} (q : h.get? b = some ob) (n : H b = none) (hx : b ∉ ex) : ∃ sl, h1.get? b = some { ob with slots := sl } := by
  by_cases hb : b ∈ fs
  · exact u.slot b ob q n hb hx
  · exact ⟨ob.slots, u.keep b ob q n hb hx⟩
theorem Un.kept (k : ∀ b u, h.get? b = some u → h'.get? b = some u) : Un fs ex H H h h' :=
  ⟨fun b ob q _ _ _ => k b ob q, fun b ob q _ _ _ => ⟨ob.slots, k b ob q⟩, fun _ _ _ n _ => n, fun b ob q _ => ⟨ob, k b ob q⟩, fun _ _ q => q, fun _ _ _ q => q, fun _ ps q => ⟨#[], by rw [q]; simp⟩⟩
theorem Un.refl : Un fs ex H H h h := Un.kept fun _ _ q => q
theorem Un.laid (k : ∀ b u, h.get? b = some u → h'.get? b = some u) (hp : h.objs.size ≤ a) (hn : H a = none) : Un fs ex H (upd H a o) h h' where
  keep := fun b u q _ _ _ => k b u q
  slot := fun b u q _ _ _ => ⟨u.slots, k b u q⟩
  free := fun b u q n _ => by rw [upd_ne (Nat.ne_of_lt (Nat.lt_of_lt_of_le (Heap.lt_size q) hp))]; exact n
  there := fun b u q _ => ⟨u, k b u q⟩
  tups := fun b xs q => by rw [upd_ne (ne_of_none q hn)]; exact q
  frzs := fun b u xs q => by rw [upd_ne (ne_of_none q hn)]; exact q
  tbls := fun b ps q => ⟨#[], by rw [upd_ne (ne_of_none q hn), q]; simp⟩
theorem Un.write (mu : Mut (H x)) (he : e = x ∨ H e = some (.own x)) (k : ∀ b u, b ≠ e → h.get? b = some u → h'.get? b = some u) (heo : ∃ u, h'.get? e = some u) : Un fs ex H (upd H x o) h h' := by
  have hx : ∀ b, H b = none → b ≠ x := fun b n z => by subst z; rw [n] at mu; exact mu
  have hb : ∀ b, H b = none → b ≠ e := fun b n z => by
    subst z
    rcases he with r | r
    · exact hx b n r
    · rw [n] at r; cases r
  have hm : ∀ b u, H b = some u → ¬ Mut (some u) → b ≠ x := fun b u q nm z => by subst z; rw [q] at mu; exact nm mu
  refine ⟨fun b u q n _ _ => k b u (hb b n) q, fun b u q n _ _ => ⟨u.slots, k b u (hb b n) q⟩, fun b u q n _ => by rw [upd_ne (hx b n)]; exact n, fun b u q _ => ?_,
    fun b xs q => by rw [upd_ne (hm b _ q fun z => z)]; exact q, fun b u xs q => by rw [upd_ne (hm b _ q fun z => z)]; exact q, fun b ps q => ⟨#[], by rw [upd_ne (hm b _ q fun z => z), q]; simp⟩⟩
  by_cases hbe : b = e
  · subst hbe; exact heo
  · exact ⟨u, k b u hbe q⟩
end
noncomputable def trk (h : Heap) (H : Hp) : List Addr := (List.range h.objs.size).filter fun a => (H a).isSome
noncomputable def hidT (h : Heap) (H : Hp) : Heap := PySem.W.hideAll h (trk h H)
theorem hidT_size (h : Heap) (H : Hp) : (hidT h H).objs.size = h.objs.size := PySem.W.hideAll_size _ _
theorem hidT_get {h : Heap} {H : Hp} {b : Addr} {o : Obj} (e : h.get? b = some o) (n : H b = none) : (hidT h H).get? b = some o :=
  PySem.W.hideAll_get _ e fun hm => by
    have q : (H b).isSome = true := (List.mem_filter.mp hm).2
    rw [n] at q; simp at q
theorem of_hidT {h : Heap} {H : Hp} {b : Addr} {o : Obj} (e : (hidT h H).get? b = some o) : h.get? b = some o ∧ H b = none := by
  have e' : h.get? b = some o := PySem.W.of_hideAll (trk h H) e
  refine ⟨e', ?_⟩
  cases q : H b with
  | none => rfl
  | some x =>
    have hm : b ∈ trk h H := List.mem_filter.mpr ⟨List.mem_range.mpr (Heap.lt_size e'), by simp [q]⟩
    have z : (hidT h H).get? b = none := PySem.W.hideAll_none (trk h H) hm
    rw [z] at e; cases e
noncomputable def allNews (g h : Heap) (L : Addr) : List (Addr × Obj) := (List.range h.objs.size).filterMap fun a => if a = L ∨ (g.get? a).isSome = true then none else (h.get? a).map fun o => (a, o)
noncomputable def rest (g h : Heap) (L d : Addr) : List (Addr × Obj) := (allNews g h L).filter fun p => decide (p.1 ≠ d)
end L2
namespace L2
open PySem PySem.Spec PyProof.Rows
structure Mod (K : PySem.W.Frag) (mg : Str → Option Value) (base : Heap) : Prop where
  kin : K.In base
  glob : base.Ns mainGlobals mg
  blt : ∃ mb, base.Ns builtinsNs mb ∧ ∀ x : Str, x ≠ "__name__" → mb x = bootBuiltins x
  nolimit : base.NoLimit
structure Cx where
  prog : Program
  w : World
  K : PySem.W.Frag
  mg : Str → Option Value
  base : Heap
  A : Around
  N : List Str
  s₀ : Shared
  H₀ : Hp
  env : Env
  outer : List Env
  stack : List Env
  ex : List Addr
  fn : Str → Bool
  calm : Bool
  pn : List (Addr × Obj)
  xe : Value → Shared → Prop
noncomputable def frs (l : List Env) : List Addr := l.filterMap (·.frame)
noncomputable abbrev Cx.fs (X : Cx) : List Addr := frs X.outer
noncomputable def Vis (sc : Scope) (x : Str) : Prop := sc.names.lookup x = some .local ∨ sc.names.lookup x = some .cell ∨ sc.names.lookup x = some .free
noncomputable def Loc (sc : Scope) (x : Str) : Prop := sc.names.lookup x = some .local ∨ sc.names.lookup x = some .cell
noncomputable def Look (env : Env) (h : Heap) (m : Str → Option Value) (x : Str) (u : Value) : Prop :=
  (env.kindOf x = some .local ∧ m x = some u) ∨ ((env.kindOf x = some .cell ∨ env.kindOf x = some .free) ∧ ∃ c, env.cells.lookup x = some c ∧ h.IsCell c (some u))
structure Cx.Ok (X : Cx) : Prop where
  mod : Mod X.K X.mg X.base
  kind : X.env.scope.kind = .function
  glob : X.env.globals = mainGlobals
  blt : X.env.builtins = builtinsNs
  above : X.s₀.heap.objs.size ≤ X.env.locals
  inj : ∀ x y c, X.env.cells.lookup x = some c → X.env.cells.lookup y = some c → x = y
  has : ∀ x, (X.env.kindOf x = some .cell ∨ X.env.kindOf x = some .free) → ∃ c, X.env.cells.lookup x = some c
  cab : ∀ x c, X.fn x = true → X.env.cells.lookup x = some c → X.s₀.heap.objs.size ≤ c
  hd : X.calm = true → X.A.handled = none
  frames : X.A.frames = some X.stack
  stk : X.stack = X.outer ∨ (X.stack = X.env :: X.outer ∧ X.env.frame = some X.env.locals)
  exf : ∀ b ∈ X.ex, b ≠ X.env.locals ∧ ∀ x c, X.env.cells.lookup x = some c → c ≠ b
  bs : ∀ b o, X.base.get? b = some o → X.s₀.heap.get? b = some o ∧ X.H₀ b = none
  bsz : X.base.objs.size ≤ X.s₀.heap.objs.size
  noex : ∀ b o, X.base.get? b = some o → b ∉ X.ex
  exfs : ∀ b ∈ X.ex, b ∉ X.fs
  funs : X.s₀.heap.FunFrames X.base X.outer
  frf : ∀ b ∈ X.fs, X.H₀ b = none
structure Inv (X : Cx) (pins : List (Addr × Obj)) (σ : List (Option V)) (H : Hp) (s : Shared) : Prop where
  ok : X.Ok
  os : s.os = X.s₀.os
  bare : AllBare s.gens
  base : Un X.fs X.ex X.H₀ H X.s₀.heap s.heap
  loc : ∃ m, s.heap.Ns X.env.locals m ∧ ∀ (i : Nat) (x : Str) (v : V), X.N[i]? = some x → σ[i]? = some (some v) → Vis X.env.scope x → ∃ u, RelV v u ∧ Look X.env s.heap m x u
  cell : ∀ x c, X.env.cells.lookup x = some c → ∃ v, s.heap.IsCell c v
  free : H X.env.locals = none
  freeC : ∀ x c, X.env.cells.lookup x = some c → H c = none
  pin : ∀ p ∈ X.pn ++ pins, s.heap.get? p.1 = some p.2 ∧ H p.1 = none ∧ p.1 ≠ X.env.locals ∧ p.1 ∉ X.fs ∧ ∀ v, p.2.data ≠ .cell v
  hok : HOk X.prog X.w H s.heap
  len : σ.length = X.N.length
section
variable {X : Cx} {pins : List (Addr × Obj)} {σ : List (Option V)} {H H' : Hp} {s : Shared} {h' : Heap}
theorem Cx.Ok.nofr (ok : X.Ok) {b : Addr} {o : Obj} (e : X.base.get? b = some o) : b ∉ X.fs := fun hb => by
  have := (ok.funs.mem hb).1
  rw [e] at this; cases this
theorem Inv.bs (I : Inv X pins σ H s) : ∀ b o, X.base.get? b = some o → s.heap.get? b = some o ∧ H b = none := fun b o e =>
  ⟨I.base.keep b o (I.ok.bs b o e).1 (I.ok.bs b o e).2 (I.ok.nofr e) (I.ok.noex b o e), I.base.free b o (I.ok.bs b o e).1 (I.ok.bs b o e).2 (I.ok.noex b o e)⟩
theorem Inv.bk (I : Inv X pins σ H s) : ∀ b o, X.base.get? b = some o → s.heap.get? b = some o := fun b o e => (I.bs b o e).1
theorem Inv.mod (I : Inv X pins σ H s) : Mod X.K X.mg X.base := I.ok.mod
theorem Inv.kIn (I : Inv X pins σ H s) : X.K.In s.heap := I.ok.mod.kin.keeps I.bk
theorem Inv.lt (I : Inv X pins σ H s) : X.env.locals < s.heap.objs.size := let ⟨_, hn, _⟩ := I.loc; hn.lt
theorem Inv.sz (I : Inv X pins σ H s) : X.s₀.heap.objs.size ≤ s.heap.objs.size := Nat.le_trans I.ok.above (Nat.le_of_lt I.lt)
theorem Inv.nofs (I : Inv X pins σ H s) {a : Addr} (h : s.heap.objs.size ≤ a) : a ∉ X.fs := fun hb => by
  obtain ⟨_, o, ho, _⟩ := I.ok.funs.mem hb
  exact absurd (Nat.lt_of_lt_of_le (Heap.lt_size ho) (Nat.le_trans I.sz h)) (Nat.lt_irrefl _)
theorem Inv.cne (I : Inv X pins σ H s) : ∀ x c, X.env.cells.lookup x = some c → c ≠ X.env.locals := fun x c e z => by
  obtain ⟨v, o, ho, hd⟩ := I.cell x c e
  obtain ⟨m, ⟨o', es, ep, ho', hd', _⟩, _⟩ := I.loc
  rw [z, ho'] at ho; cases ho; rw [hd'] at hd; cases hd
theorem Inv.funs (I : Inv X pins σ H s) : s.heap.FunFrames X.base X.outer := by
  have all : ∀ (l : List Env), (∀ b ∈ frs l, b ∈ X.fs) → X.s₀.heap.FunFrames X.base l → s.heap.FunFrames X.base l := by
    intro l
    induction l with
    | nil => intro _ _; trivial
    | cons env r ih =>
      intro hs hl
      obtain ⟨hk, ⟨L, o, hf, hn, ho, hd⟩, hr⟩ := hl
      have hL : L ∈ X.fs := hs L (by unfold frs; rw [List.filterMap_cons, hf]; exact List.mem_cons_self)
      obtain ⟨sl, e⟩ := I.base.slot L o ho (I.ok.frf L hL) hL fun z => I.ok.exfs L z hL
      exact ⟨hk, ⟨L, _, hf, hn, e, hd⟩, ih (fun b hb => hs b (by unfold frs; rw [List.filterMap_cons, hf]; exact List.mem_cons_of_mem _ hb)) hr⟩
  exact all X.outer (fun _ hb => hb) I.ok.funs
theorem Inv.stack (I : Inv X pins σ H s) : s.heap.FunFrames X.base X.stack := by
  rcases I.ok.stk with e | ⟨e, hf⟩
  · rw [e]; exact I.funs
  · rw [e]
    obtain ⟨m, hn, _⟩ := I.loc
    refine .cons (by rw [I.ok.kind]; decide) hf hn ?_ I.funs
    exact Heap.get?_none_of_le (Nat.le_trans I.ok.bsz I.ok.above)
theorem Inv.stkSub (I : Inv X pins σ H s) : ∀ b ∈ frs X.stack, b ∈ X.env.locals :: X.fs := fun b hb => by
  rcases I.ok.stk with e | ⟨e, hf⟩
  · rw [e] at hb; exact List.mem_cons_of_mem _ hb
  · rw [e] at hb
    unfold frs at hb
    rw [List.filterMap_cons, hf] at hb
    exact hb
theorem Inv.stkFree (I : Inv X pins σ H s) : ∀ b ∈ frs X.stack, H b = none := fun b hb => by
  rcases List.mem_cons.mp (I.stkSub b hb) with e | hb
  · rw [e]; exact I.free
  · obtain ⟨_, o, ho, _⟩ := I.ok.funs.mem hb
    exact I.base.free b o ho (I.ok.frf b hb) fun z => I.ok.exfs b z hb
theorem Inv.step {g' : Array GenState} {t' : Nat} {d' : Drawn} {ch : List Addr} (I : Inv X pins σ H s)
    (hch : ∀ b ∈ ch, (b ∈ X.ex ∨ X.s₀.heap.objs.size ≤ b) ∧ b ≠ X.env.locals ∧ (∀ x c, X.env.cells.lookup x = some c → c ≠ b) ∧ ∀ p ∈ X.pn ++ pins, p.1 ≠ b)
    (keep : ∀ b o, b ≠ X.env.locals → b ∉ X.fs → b ∉ ch → s.heap.get? b = some o → H b = none → h'.get? b = some o)
    (slot : ∀ b o, b ≠ X.env.locals → b ∈ X.fs → b ∉ ch → s.heap.get? b = some o → H b = none → ∃ sl, h'.get? b = some { o with slots := sl }) (free : ∀ b o, b ∉ ch → s.heap.get? b = some o → H b = none → H' b = none)
    (there : ∀ b o, b ∉ ch → s.heap.get? b = some o → ∃ o', h'.get? b = some o')
    (tups : ∀ b xs, H b = some (.tup xs) → H' b = some (.tup xs)) (frzs : ∀ b o u, H b = some (.frz o u) → H' b = some (.frz o u)) (tbls : ∀ b ps, H b = some (.tbl ps) → ∃ more, H' b = some (.tbl (ps ++ more)))
    (ns : ∀ m, s.heap.Ns X.env.locals m → h'.Ns X.env.locals m) (hok : HOk X.prog X.w H' h') (hg : AllBare g') :
    Inv X pins σ H' { s with heap := h', gens := g', drawn := d', toks := t' } := by
  have neL : ∀ b o, X.s₀.heap.get? b = some o → b ≠ X.env.locals := fun b o e => Nat.ne_of_lt (Nat.lt_of_lt_of_le (Heap.lt_size e) I.ok.above)
  have neC : ∀ b o, X.s₀.heap.get? b = some o → b ∉ X.ex → b ∉ ch := fun b o e hx hb => by
    rcases (hch b hb).1 with z | z
    · exact hx z
    · exact absurd (Nat.lt_of_lt_of_le (Heap.lt_size e) z) (Nat.lt_irrefl _)
  have cellK : ∀ x c, X.env.cells.lookup x = some c → ∀ v, s.heap.IsCell c v → h'.IsCell c v := fun x c e v ⟨o, ho, hd⟩ => by
    have nch : c ∉ ch := fun z => (hch c z).2.2.1 x c e rfl
    by_cases hc : c ∈ X.fs
    · obtain ⟨sl, q⟩ := slot c o (I.cne x c e) hc nch ho (I.freeC x c e)
      exact ⟨_, q, hd⟩
    · exact ⟨o, keep c o (I.cne x c e) hc nch ho (I.freeC x c e), hd⟩
  refine ⟨I.ok, I.os, hg, ⟨fun b o e n hb hx => ?_, fun b o e n hb hx => ?_, fun b o e n hx => ?_, fun b o e hx => ?_, fun b xs e => tups b xs (I.base.tups b xs e), fun b o xs e => frzs b o xs (I.base.frzs b o xs e), fun b ps e => ?_⟩, ?_, fun x c e => ?_, ?_, fun x c e => ?_, fun p hp => ?_, hok, I.len⟩
  · exact keep b o (neL b o e) hb (neC b o e hx) (I.base.keep b o e n hb hx) (I.base.free b o e n hx)
  · obtain ⟨sl, e1⟩ := I.base.slot b o e n hb hx
    obtain ⟨sl', e2⟩ := slot b _ (neL b o e) hb (neC b o e hx) e1 (I.base.free b o e n hx)
    exact ⟨sl', e2⟩
  · obtain ⟨o', e1⟩ := I.base.there b o e hx
    exact free b o' (neC b o e hx) e1 (I.base.free b o e n hx)
  · obtain ⟨o', e1⟩ := I.base.there b o e hx
    exact there b o' (neC b o e hx) e1
  · obtain ⟨m1, e1⟩ := I.base.tbls b ps e
    obtain ⟨m2, e2⟩ := tbls b _ e1
    exact ⟨m1 ++ m2, by rw [e2, Array.append_assoc]⟩
  · obtain ⟨m, hn, hl⟩ := I.loc
    refine ⟨m, ns m hn, fun i x v e1 e2 e3 => ?_⟩
    obtain ⟨u, r, l⟩ := hl i x v e1 e2 e3
    refine ⟨u, r, ?_⟩
    rcases l with l | ⟨k, c, e, z⟩
    · exact .inl l
    · exact .inr ⟨k, c, e, cellK x c e _ z⟩
  · obtain ⟨v, z⟩ := I.cell x c e
    exact ⟨v, cellK x c e v z⟩
  · obtain ⟨m, ⟨o, _, _, ho, _⟩, _⟩ := I.loc
    exact free _ o (fun z => (hch _ z).2.1 rfl) ho I.free
  · obtain ⟨v, o, ho, hd⟩ := I.cell x c e
    exact free c o (fun z => (hch c z).2.2.1 x c e rfl) ho (I.freeC x c e)
  · obtain ⟨e, n, ne, nf, d⟩ := I.pin p hp
    have nch : p.1 ∉ ch := fun z => (hch p.1 z).2.2.2 p hp rfl
    exact ⟨keep p.1 p.2 ne nf nch e n, free p.1 p.2 nch e n, ne, nf, d⟩
theorem Inv.un {t' : Nat} (I : Inv X pins σ H s) (u : Un X.fs [] H H' s.heap h') (hok : HOk X.prog X.w H' h') : Inv X pins σ H' { s with heap := h', toks := t' } := by
  obtain ⟨m, ⟨o, es, ep, ho, r⟩, _⟩ := id I.loc
  obtain ⟨sl, hL⟩ := u.any ho I.free (by simp)
  exact I.step (g' := s.gens) (d' := s.drawn) (ch := []) (fun _ z => nomatch z) (fun b o _ hb _ e n => u.keep b o e n hb (by simp)) (fun b o _ hb _ e n => u.slot b o e n hb (by simp)) (fun b o _ e n => u.free b o e n (by simp)) (fun b o _ e => u.there b o e (by simp)) u.tups u.frzs u.tbls (fun m' hm => by
    obtain ⟨o', es', ep', ho', r'⟩ := hm
    rw [ho] at ho'; cases ho'
    exact ⟨_, es', ep', hL, r'⟩) hok I.bare
theorem Inv.call {g' : Array GenState} {t' : Nat} {d' : Drawn} {ch : List Addr} (I : Inv X pins σ H s) (u : Un (frs X.stack) ch H H' s.heap h') (hok : HOk X.prog X.w H' h') (hg : AllBare g')
    (hch : ∀ b ∈ ch, (b ∈ X.ex ∨ X.s₀.heap.objs.size ≤ b) ∧ b ≠ X.env.locals ∧ (∀ x c, X.env.cells.lookup x = some c → c ≠ b) ∧ ∀ p ∈ X.pn ++ pins, p.1 ≠ b) :
    Inv X pins σ H' { s with heap := h', gens := g', drawn := d', toks := t' } := by
  obtain ⟨m, ⟨o, es, ep, ho, r⟩, _⟩ := id I.loc
  obtain ⟨sl, hL⟩ := u.any ho I.free fun z => (hch _ z).2.1 rfl
  exact I.step (ch := ch) hch (fun b o hL hb hc e n => u.keep b o e n (fun z => (List.mem_cons.mp (I.stkSub b z)).elim hL hb) hc) (fun b o _ _ hc e n => u.any e n hc) (fun b o hc e n => u.free b o e n hc) (fun b o hc e => u.there b o e hc) u.tups u.frzs u.tbls (fun m' hm => by
    obtain ⟨o', es', ep', ho', r'⟩ := hm
    rw [ho] at ho'; cases ho'
    exact ⟨_, es', ep', hL, r'⟩) hok hg
theorem Inv.turned {t' : Nat} {it : Addr} (I : Inv X pins σ H s) (k : ∀ b o, b ≠ it → s.heap.get? b = some o → h'.get? b = some o) (hn : H it = none) (hL : it ≠ X.env.locals)
    (h1 : it ∈ X.ex ∨ X.s₀.heap.objs.size ≤ it) (h2 : ∀ x c, X.env.cells.lookup x = some c → c ≠ it) (h3 : ∀ p ∈ X.pn ++ pins, p.1 ≠ it) : Inv X pins σ H { s with heap := h', toks := t' } := by
  have nit : ∀ b u, H b = some u → b ≠ it := fun b u e z => by rw [z, hn] at e; cases e
  refine I.step (g' := s.gens) (d' := s.drawn) (ch := [it]) (fun b hb => ?_) (fun b o _ _ hc e _ => k b o (fun z => hc (by simp [z])) e) (fun b o _ _ hc e _ => ⟨o.slots, k b o (fun z => hc (by simp [z])) e⟩) (fun _ _ _ _ n => n)
    (fun b o hc e => ⟨o, k b o (fun z => hc (by simp [z])) e⟩) (fun _ _ e => e) (fun _ _ _ e => e) (fun b ps e => ⟨#[], by rw [e]; simp⟩) (fun m hm => ?_) (fun b u e => ?_) I.bare
  · have e : b = it := by simpa using hb
    subst e
    exact ⟨h1, hL, h2, h3⟩
  · obtain ⟨o, es, ep, ho, r⟩ := hm
    exact ⟨o, es, ep, k _ o (Ne.symm hL) ho, r⟩
  · refine (I.hok b u e).stay (fun c v hc q => k c v ?_ q) (fun _ q => q) fun _ _ q => q
    rcases hc with z | z
    · rw [z]; exact nit b u e
    · exact nit c _ z
theorem Inv.tok (I : Inv X pins σ H s) (t : Nat) : Inv X pins σ H { s with toks := t } := I.un (h' := s.heap) (t' := t) Un.refl I.hok
theorem Inv.kept {t' : Nat} (I : Inv X pins σ H s) (k : ∀ b u, s.heap.get? b = some u → h'.get? b = some u) : Inv X pins σ H { s with heap := h', toks := t' } := I.un (Un.kept k) (I.hok.kept k)
theorem Inv.laid {a : Addr} {o : HO} {t' : Nat} (I : Inv X pins σ H s) (k : ∀ b u, s.heap.get? b = some u → h'.get? b = some u) (hp : s.heap.objs.size ≤ a) (new : ObjOk X.prog X.w (upd H a o) h' a o) :
    Inv X pins σ (upd H a o) { s with heap := h', toks := t' } := I.un (Un.laid k hp (I.hok.fresh hp)) (I.hok.laid k hp new)
theorem Inv.write {x e : Addr} {o : HO} {t' : Nat} (I : Inv X pins σ H s) (mu : Mut (H x)) (he : e = x ∨ H e = some (.own x)) (k : ∀ b u, b ≠ e → s.heap.get? b = some u → h'.get? b = some u) (heo : ∃ u, h'.get? e = some u)
    (new : ObjOk X.prog X.w (upd H x o) h' x o) : Inv X pins σ (upd H x o) { s with heap := h', toks := t' } := I.un (Un.write mu he k heo) (I.hok.write mu he k heo new)
theorem Inv.weak {σ' : List (Option V)} (I : Inv X pins σ H s) (hl : σ'.length = σ.length) (w : ∀ (i : Nat) v, σ'[i]? = some (some v) → σ[i]? = some (some v)) : Inv X pins σ' H s :=
  ⟨I.ok, I.os, I.bare, I.base, let ⟨m, hn, hl'⟩ := I.loc; ⟨m, hn, fun i x v e1 e2 e3 => hl' i x v e1 (w i v e2) e3⟩, I.cell, I.free, I.freeC, I.pin, I.hok, hl.trans I.len⟩
theorem Inv.pins_of {pins' : List (Addr × Obj)} (I : Inv X pins σ H s) (h : ∀ p ∈ pins', s.heap.get? p.1 = some p.2 ∧ H p.1 = none ∧ p.1 ≠ X.env.locals ∧ p.1 ∉ X.fs ∧ ∀ v, p.2.data ≠ .cell v) : Inv X pins' σ H s :=
  ⟨I.ok, I.os, I.bare, I.base, I.loc, I.cell, I.free, I.freeC, fun p hp => (List.mem_append.mp hp).elim (fun z => I.pin p (List.mem_append_left _ z)) (h p), I.hok, I.len⟩
theorem nodup_ix {N : List Str} (hN : N.Nodup) {i j : Nat} {x : Str} (a : N[i]? = some x) (b : N[j]? = some x) : i = j := by
  obtain ⟨h1, e1⟩ := List.getElem?_eq_some_iff.mp a
  obtain ⟨h2, e2⟩ := List.getElem?_eq_some_iff.mp b
  exact (List.getElem_inj hN).mp (e1.trans e2.symm)
theorem store_ok2 {M : Model} {A : Around} {E : Value → Shared → Prop} {i : Nat} {x : Str} {v : V} {u : Value} {Q : Unit → Shared → Prop} (I : Inv X pins σ H s) (hN : X.N.Nodup) (hi : X.N[i]? = some x) (hx : Loc X.env.scope x) (r : RelV v u)
    (h : ∀ s', Inv X pins (σ.set i (some v)) H s' → (∃ a, Heap.SameBut a s.heap s'.heap ∧ (a = X.env.locals ∨ X.env.cells.lookup x = some a)) → Q () s') (hf : X.fn x = true ∨ X.env.scope.names.lookup x = some .local := by first | exact .inl rfl | exact .inr rfl | assumption) : wpAny M A (storeName X.env x u) Q E s := by
  obtain ⟨m, hn, hl⟩ := id I.loc
  have hcls : (X.env.scope.kind == .class || (X.env.scope.kind == .module && X.env.locals != X.env.globals)) = false := by rw [I.ok.kind]; rfl
  have hiσ : i < σ.length := by rw [I.len]; exact (List.getElem?_eq_some_iff.mp hi).1
  have cne := I.cne
  have tracked : ∀ {a : Addr} {h' : Heap}, (∃ o, s.heap.get? a = some o ∧ H a = none) → Heap.SameBut a s.heap h' → HOk X.prog X.w H h' := fun {a h'} ha hs b ob e => by
    obtain ⟨_, _, hfree⟩ := ha
    refine (I.hok b ob e).stay (fun c w' hc q => (hs.2 c ?_).trans q) (fun _ q => q) fun _ _ q => q
    rintro rfl
    rcases hc with rfl | hc
    · rw [hfree] at e; cases e
    · rw [hfree] at hc; cases hc
  rcases hx with hk | hk
  · refine wpAny_storeName_local hk hn (fun h' hn' hs => ?_) hcls
    obtain ⟨oL, _, _, hoL, _⟩ := id hn
    refine h _ ⟨I.ok, I.os, I.bare, ⟨fun b o e n hb hx => ?_, fun b o e n hb hx => ?_, I.base.free, fun b o e hx => ?_, I.base.tups, I.base.frzs, I.base.tbls⟩, ⟨_, hn', fun j y v' e1 e2 e3 => ?_⟩, fun y c e => ?_, I.free, I.freeC, fun p hp => ?_, tracked ⟨oL, hoL, I.free⟩ hs, by simpa using I.len⟩ ⟨_, hs, .inl rfl⟩
    · exact (hs.2 b (Nat.ne_of_lt (Nat.lt_of_lt_of_le (Heap.lt_size e) I.ok.above))).trans (I.base.keep b o e n hb hx)
    · obtain ⟨sl, e1⟩ := I.base.slot b o e n hb hx
      exact ⟨sl, (hs.2 b (Nat.ne_of_lt (Nat.lt_of_lt_of_le (Heap.lt_size e) I.ok.above))).trans e1⟩
    · obtain ⟨o', e1⟩ := I.base.there b o e hx
      exact ⟨o', (hs.2 b (Nat.ne_of_lt (Nat.lt_of_lt_of_le (Heap.lt_size e) I.ok.above))).trans e1⟩
    · by_cases hj : j = i
      · subst hj
        rw [hi] at e1; cases e1
        rw [List.getElem?_set_self hiσ] at e2
        cases e2
        exact ⟨u, r, .inl ⟨hk, by simp⟩⟩
      · rw [List.getElem?_set_ne (Ne.symm hj)] at e2
        obtain ⟨u', r', q⟩ := hl j y v' e1 e2 e3
        refine ⟨u', r', ?_⟩
        rcases q with ⟨k, e⟩ | ⟨k, c, e, z⟩
        · refine .inl ⟨k, ?_⟩
          have : y ≠ x := fun e => hj (nodup_ix hN e1 (e ▸ hi))
          simp [this, e]
        · exact .inr ⟨k, c, e, z.sameBut hs (cne y c e)⟩
    · obtain ⟨w', z⟩ := I.cell y c e
      exact ⟨w', z.sameBut hs (cne y c e)⟩
    · obtain ⟨e, n, ne, nf, d⟩ := I.pin p hp
      exact ⟨(hs.2 p.1 ne).trans e, n, ne, nf, d⟩
  · have hfn : X.fn x = true := by
      rcases hf with z | z
      · exact z
      · rw [z] at hk; cases hk
    obtain ⟨c, hc⟩ := I.ok.has x (.inl hk)
    obtain ⟨w', z⟩ := I.cell x c hc
    refine wpAny_storeName_cell I.ok.kind hk hc z (fun h' hc' hs => ?_)
    obtain ⟨oc, hoc, hocd⟩ := id z
    refine h { s with heap := h' } ⟨I.ok, I.os, I.bare, ⟨fun b o e n hb hx => ?_, fun b o e n hb hx => ?_, I.base.free, fun b o e hx => ?_, I.base.tups, I.base.frzs, I.base.tbls⟩, ⟨m, hn.sameBut hs (Ne.symm (cne x c hc)), fun j y v' e1 e2 e3 => ?_⟩, fun y c' e => ?_, I.free, I.freeC, fun p hp => ?_, tracked ⟨oc, hoc, I.freeC x c hc⟩ hs, by simpa using I.len⟩ ⟨c, hs, .inr hc⟩
    · exact (hs.2 b (Nat.ne_of_lt (Nat.lt_of_lt_of_le (Heap.lt_size e) (I.ok.cab x c hfn hc)))).trans (I.base.keep b o e n hb hx)
    · obtain ⟨sl, e1⟩ := I.base.slot b o e n hb hx
      exact ⟨sl, (hs.2 b (Nat.ne_of_lt (Nat.lt_of_lt_of_le (Heap.lt_size e) (I.ok.cab x c hfn hc)))).trans e1⟩
    · obtain ⟨o', e1⟩ := I.base.there b o e hx
      exact ⟨o', (hs.2 b (Nat.ne_of_lt (Nat.lt_of_lt_of_le (Heap.lt_size e) (I.ok.cab x c hfn hc)))).trans e1⟩
    · by_cases hj : j = i
      · subst hj
        rw [hi] at e1; cases e1
        rw [List.getElem?_set_self hiσ] at e2
        cases e2
        exact ⟨u, r, .inr ⟨.inl hk, c, hc, hc'⟩⟩
      · rw [List.getElem?_set_ne (Ne.symm hj)] at e2
        obtain ⟨u', r', q⟩ := hl j y v' e1 e2 e3
        refine ⟨u', r', ?_⟩
        rcases q with q | ⟨k, c', e, z'⟩
        · exact .inl q
        · refine .inr ⟨k, c', e, z'.sameBut hs ?_⟩
          rintro rfl
          exact hj (nodup_ix hN e1 (I.ok.inj _ _ _ e hc ▸ hi))
    · by_cases hcc : c' = c
      · subst hcc; exact ⟨_, hc'⟩
      · obtain ⟨w2, z2⟩ := I.cell y c' e
        exact ⟨w2, z2.sameBut hs hcc⟩
    · obtain ⟨e, n, ne, nf, d⟩ := I.pin p hp
      refine ⟨(hs.2 p.1 ?_).trans e, n, ne, nf, d⟩
      intro q
      rw [q, hoc] at e
      have q' : oc = p.2 := Option.some.inj e
      exact d w' (by rw [← q']; exact hocd)
theorem store_ok {M : Model} {A : Around} {E : Value → Shared → Prop} {i : Nat} {x : Str} {v : V} {u : Value} {Q : Unit → Shared → Prop} (I : Inv X pins σ H s) (hN : X.N.Nodup) (hi : X.N[i]? = some x) (hx : Loc X.env.scope x) (r : RelV v u)
    (h : ∀ s', Inv X pins (σ.set i (some v)) H s' → Q () s') (hf : X.fn x = true ∨ X.env.scope.names.lookup x = some .local := by first | exact .inl rfl | exact .inr rfl | assumption) : wpAny M A (storeName X.env x u) Q E s :=
  store_ok2 I hN hi hx r (fun s' I' _ => h s' I') hf
theorem Inv.call' {s' : Shared} {ch : List Addr} (I : Inv X pins σ H s) (ho : s'.os = s.os) (u : Un (frs X.stack) ch H H' s.heap s'.heap) (hok : HOk X.prog X.w H' s'.heap) (hg : AllBare s'.gens)
    (hch : ∀ b ∈ ch, (b ∈ X.ex ∨ X.s₀.heap.objs.size ≤ b) ∧ b ≠ X.env.locals ∧ (∀ x c, X.env.cells.lookup x = some c → c ≠ b) ∧ ∀ p ∈ X.pn ++ pins, p.1 ≠ b) : Inv X pins σ H' s' := by
  obtain ⟨h', g', d', t', o'⟩ := s'
  have e : o' = s.os := ho
  subst e
  exact I.call (g' := g') (t' := t') (d' := d') u hok hg hch
end
noncomputable abbrev XK := Value → Option Addr → Hp → Prop
noncomputable abbrev St := List (Option V)
noncomputable abbrev VK := V → Hp → Prop
noncomputable abbrev TE := St → Hp → VK → Prop
noncomputable abbrev TT := St → Hp → (Bool → Hp → Prop) → Prop
noncomputable abbrev TA := St → Hp → (List V → Hp → Prop) → Prop
structure Ends where
  nx : St → Hp → Prop
  rt : VK
  bk : St → Hp → Prop := fun _ _ => False
  ct : St → Hp → Prop := fun _ _ => False
noncomputable abbrev TS := Ends → St → Hp → Prop
noncomputable def EP (X : Cx) (pins : List (Addr × Obj)) (σ : St) (Q : VK) (u : Value) (s' : Shared) : Prop := ∃ v H', Inv X pins σ H' s' ∧ RelV v u ∧ Q v H'
noncomputable def TP (X : Cx) (pins : List (Addr × Obj)) (σ : St) (Q : Bool → Hp → Prop) (b : Bool) (s' : Shared) : Prop := ∃ H', Inv X pins σ H' s' ∧ Q b H'
noncomputable def AP (X : Cx) (pins : List (Addr × Obj)) (σ : St) (Q : List V → Hp → Prop) (us : List Value) (s' : Shared) : Prop := ∃ vs H', Inv X pins σ H' s' ∧ Vals vs us ∧ Q vs H'
noncomputable def SP (X : Cx) (pins : List (Addr × Obj)) (D : Ends) (f : Flow) (s' : Shared) : Prop :=
  match f with
  | .next => ∃ σ' H', Inv X pins σ' H' s' ∧ D.nx σ' H'
  | .brk => ∃ σ' H', Inv X pins σ' H' s' ∧ D.bk σ' H'
  | .cont => ∃ σ' H', Inv X pins σ' H' s' ∧ D.ct σ' H'
  | .ret u => ∃ v σ' H', Inv X pins σ' H' s' ∧ RelV v u ∧ D.rt v H'
noncomputable def PE (X : Cx) (e : Expr) (t : TE) : Prop :=
  ∀ (pins : List (Addr × Obj)) (s : Shared) (σ : St) (H : Hp) (Q : VK), Inv X pins σ H s → t σ H Q → wpAny (model X.prog X.w) X.A (eval e X.env) (EP X pins σ Q) X.xe s
noncomputable def PT (X : Cx) (e : Expr) (t : TT) : Prop :=
  ∀ (pins : List (Addr × Obj)) (s : Shared) (σ : St) (H : Hp) (Q : Bool → Hp → Prop), Inv X pins σ H s → t σ H Q → wpAny (model X.prog X.w) X.A (isTrue e X.env (eval e X.env)) (TP X pins σ Q) X.xe s
noncomputable def PW (X : Cx) (e : Expr) (t : TT) : Prop :=
  ∀ (whole : Sem Value) (pins : List (Addr × Obj)) (s : Shared) (σ : St) (H : Hp) (Q : Bool → Hp → Prop), Inv X pins σ H s → t σ H Q → wpAny (model X.prog X.w) X.A (isTrue e X.env whole) (TP X pins σ Q) X.xe s
theorem PW.pt {X : Cx} {e : Expr} {t : TT} (h : PW X e t) : PT X e t := h _
noncomputable def PA (X : Cx) (es : List Expr) (t : TA) : Prop :=
  ∀ (pos : Pos) (pins : List (Addr × Obj)) (s : Shared) (σ : St) (H : Hp) (Q : List V → Hp → Prop), Inv X pins σ H s → t σ H Q → wpAny (model X.prog X.w) X.A (spliced (backTo pos (starEach es X.env))) (AP X pins σ Q) X.xe s
noncomputable def PS (X : Cx) (st : Stmt) (t : TS) : Prop :=
  ∀ (pins : List (Addr × Obj)) (s : Shared) (σ : St) (H : Hp) (D : Ends), Inv X pins σ H s → t D σ H → wpAny (model X.prog X.w) X.A (exec st X.env) (SP X pins D) X.xe s
noncomputable def PSs (X : Cx) (st : List Stmt) (t : TS) : Prop :=
  ∀ (pins : List (Addr × Obj)) (s : Shared) (σ : St) (H : Hp) (D : Ends), Inv X pins σ H s → t D σ H → wpAny (model X.prog X.w) X.A (execs st X.env) (SP X pins D) X.xe s
theorem thn {α : Type} {t : Sem α} {Q Q' : α → Shared → Prop} {M : Model} {A : Around} {E : Value → Shared → Prop} {s : Shared} (h : wpAny M A t Q E s) (hQ : ∀ a s, Q a s → Q' a s) : wpAny M A t Q' E s := wpAny_mono h hQ fun _ _ x => x
end L2
namespace L2
open PySem PySem.Spec PyProof.Rows
section
variable {X : Cx}
noncomputable def tVar (i : Nat) : TE := fun σ H Q => ∃ v, σ[i]? = some (some v) ∧ Q v H
noncomputable def tC (v : V) : TE := fun _ H Q => Q v H
theorem pe_var {i : Nat} {x : Str} {pos : Pos} (hN : X.N[i]? = some x) (hv : Vis X.env.scope x) (hd : (x == ("__debug__" : Str)) = false := by decide) (hcd : (x == ("__classdict__" : Str)) = false := by decide) : PE X (.Name x pos) (tVar i) := by
  intro pins s σ H Q I h
  obtain ⟨v, e, h⟩ := h
  obtain ⟨m, hn, hl⟩ := I.loc
  obtain ⟨u, r, l⟩ := hl i x v hN e hv
  have fin : EP X pins σ Q u s := ⟨v, H, I, r, h⟩
  rcases l with ⟨hk, hm⟩ | ⟨hk, c, hc, hcell⟩
  · exact wpAny_Name (wpAny_loadName_local I.ok.kind hk hn hm fin) hd
  · rcases hk with hk | hk
    · exact wpAny_Name (wpAny_loadName_cell I.ok.kind hk hc hcell fin) hd
    · exact wpAny_Name (wpAny_loadName_free I.ok.kind hk hc hcell fin hcd) hd
theorem pe_int {i j pos} : PE X (.Constant (.int i) j pos) (tC (.int i)) := fun _ _ _ H _ I h => wpAny_Constant_int ⟨.int i, H, I.tok _, ⟨_, rfl⟩, h⟩
theorem pe_bl {b j pos} : PE X (.Constant (.bool b) j pos) (tC (.bl b)) := fun _ _ _ H _ I h => Constant_bool ⟨.bl b, H, I, rfl, h⟩
theorem pe_non {j pos} : PE X (.Constant .none j pos) (tC .non) := fun _ _ _ H _ I h => Constant_none ⟨.non, H, I, rfl, h⟩
theorem pe_str {x j pos} : PE X (.Constant (.str x) j pos) (tC (.str x)) := fun _ _ _ H _ I h => Calls.Constant_str ⟨.str x, H, I.tok _, ⟨_, rfl⟩, h⟩
noncomputable def Gl (X : Cx) (x : Str) : Prop := X.env.kindOf x = some .globalImplicit
theorem ld_glob {E : Value → Shared → Prop} {pins : List (Addr × Obj)} {s : Shared} {σ : St} {H : Hp} {x : Str} {u : Value} {pos : Pos} {Q : Value → Shared → Prop} (I : Inv X pins σ H s) (hg : Gl X x) (hm : X.mg x = some u) (h : Q u s)
    (hd : (x == ("__debug__" : Str)) = false := by decide) : wpAny (model X.prog X.w) X.A (eval (.Name x pos) X.env) Q E s :=
  Calls.Name_function_global I.ok.kind hg (Calls.loadGlobal_global (by rw [I.ok.glob]; exact I.mod.glob.keeps I.bk) hm h) hd
theorem ld_blt {E : Value → Shared → Prop} {pins : List (Addr × Obj)} {s : Shared} {σ : St} {H : Hp} {x : Str} {u : Value} {pos : Pos} {Q : Value → Shared → Prop} (I : Inv X pins σ H s) (hg : Gl X x) (hm : X.mg x = none) (hv : bootBuiltins x = some u) (h : Q u s)
    (hn : x ≠ "__name__" := by decide) (hd : (x == ("__debug__" : Str)) = false := by decide) : wpAny (model X.prog X.w) X.A (eval (.Name x pos) X.env) Q E s := by
  obtain ⟨mb, h1, h2⟩ := I.mod.blt
  exact Calls.Name_function_global I.ok.kind hg (Calls.loadGlobal_builtin (by rw [I.ok.glob]; exact I.mod.glob.keeps I.bk) hm (by rw [I.ok.blt]; exact h1.keeps I.bk) ((h2 x hn).trans hv) h) hd
theorem pe_glob {x : Str} {v : V} {u : Value} {pos : Pos} (hg : Gl X x) (hm : X.mg x = some u) (r : RelV v u) (hd : (x == ("__debug__" : Str)) = false := by decide) : PE X (.Name x pos) (tC v) :=
  fun _ _ _ H _ I h => ld_glob I hg hm ⟨v, H, I, r, h⟩ hd
noncomputable def t2I (ta tb : TE) (k : Int → Int → Hp → Prop) : St → Hp → Prop := fun σ H => ta σ H fun x H1 => tb σ H1 fun y H2 => ∃ i j, x = .int i ∧ y = .int j ∧ k i j H2
noncomputable def tAdd (ta tb : TE) : TE := fun σ H Q => t2I ta tb (fun i j H2 => Q (.int (i + j)) H2) σ H
noncomputable def tSub (ta tb : TE) : TE := fun σ H Q => t2I ta tb (fun i j H2 => Q (.int (i - j)) H2) σ H
noncomputable def tMul (ta tb : TE) : TE := fun σ H Q => t2I ta tb (fun i j H2 => (-(2 ^ 64) < i ∧ i < 2 ^ 64) ∧ Q (.int (i * j)) H2) σ H
variable {a b : Expr} {ta tb : TE} {pos : Pos}
noncomputable def PC (X : Cx) (op : CmpOp) (a b : Expr) (t : TE) : Prop :=
  ∀ (pins : List (Addr × Obj)) (s : Shared) (σ : St) (H : Hp) (Q : VK), Inv X pins σ H s → t σ H Q →
    wpAny (model X.prog X.w) X.A (eval a X.env) (fun v s₁ => wpAny (model X.prog X.w) X.A (eval b X.env) (fun u s₂ => wpAny (model X.prog X.w) X.A (compareOp op v u) (EP X pins σ Q) X.xe s₂) X.xe s₁) X.xe s
noncomputable def tCmp (p : Int → Int → Bool) (ta tb : TE) : TE := fun σ H Q => t2I ta tb (fun i j H2 => Q (.bl (p i j)) H2) σ H
noncomputable abbrev tLt : TE → TE → TE := tCmp fun i j => decide (i < j)
noncomputable abbrev tLe : TE → TE → TE := tCmp fun i j => decide (i ≤ j)
noncomputable abbrev tGt : TE → TE → TE := tCmp fun i j => decide (j < i)
noncomputable abbrev tGe : TE → TE → TE := tCmp fun i j => decide (j ≤ i)
noncomputable abbrev tEqI : TE → TE → TE := tCmp fun i j => decide (i = j)
noncomputable abbrev tNeI : TE → TE → TE := tCmp fun i j => !decide (i = j)
noncomputable def tIsN (ta : TE) : TE := fun σ H Q => ta σ H fun x H1 => Q (.bl (decide (x = .non))) H1
noncomputable def tNotN (ta : TE) : TE := fun σ H Q => ta σ H fun x H1 => Q (.bl (!decide (x = .non))) H1
noncomputable def tB (t : TE) : TT := fun σ H Q => t σ H fun x H1 => ∃ c, x = .bl c ∧ Q c H1
theorem pt_val {e : Expr} {t : TE} (h : PE X e t) (he : ∀ whole, isTrue e X.env whole = (do let v ← whole; standAt e.pos; holding [v] (truthy v)) := by intro _; rfl) : PT X e (tB t) := by
  intro pins s σ H Q I hw
  refine isTrue_plain (thn (h pins s σ H _ I hw) fun v s1 ⟨x, H1, I1, r1, q1⟩ => ?_) (he _)
  obtain ⟨d, rfl, q⟩ := q1
  cases r1
  exact wpAny_truthy_bool ⟨H1, I1, q⟩
variable {tA tB' : TT} {rest : List Expr}
noncomputable def tAnd (t u : TT) : TT := fun σ H Q => t σ H fun c H1 => if c = true then u σ H1 Q else Q false H1
noncomputable def tOr (t u : TT) : TT := fun σ H Q => t σ H fun c H1 => if c = true then Q true H1 else u σ H1 Q
noncomputable def tNot (t : TT) : TT := fun σ H Q => t σ H fun c H1 => Q (!c) H1
theorem pw_and1 (ha : PT X a tA) : PW X (.BoolOp .And [a] pos) tA := by
  intro wh pins s σ H Q I h
  refine isTrue_and (thn (ha pins s σ H Q I h) fun c s1 e => ?_)
  cases c with
  | true => exact isTrue_and_nil e
  | false => exact e
theorem pw_or1 (ha : PT X a tA) : PW X (.BoolOp .Or [a] pos) tA := by
  intro wh pins s σ H Q I h
  refine isTrue_or (thn (ha pins s σ H Q I h) fun c s1 e => ?_)
  cases c with
  | false => exact isTrue_or_nil e
  | true => exact e
theorem pw_and (ha : PT X a tA) (hb : PW X (.BoolOp .And (b :: rest) pos) tB') : PW X (.BoolOp .And (a :: b :: rest) pos) (tAnd tA tB') := by
  intro wh pins s σ H Q I h
  refine isTrue_and (thn (ha pins s σ H _ I h) fun c s1 ⟨H1, I1, q1⟩ => ?_)
  cases c with
  | true => exact hb wh pins s1 σ H1 Q I1 q1
  | false => exact ⟨H1, I1, q1⟩
theorem pw_or (ha : PT X a tA) (hb : PW X (.BoolOp .Or (b :: rest) pos) tB') : PW X (.BoolOp .Or (a :: b :: rest) pos) (tOr tA tB') := by
  intro wh pins s σ H Q I h
  refine isTrue_or (thn (ha pins s σ H _ I h) fun c s1 ⟨H1, I1, q1⟩ => ?_)
  cases c with
  | true => exact ⟨H1, I1, q1⟩
  | false => exact hb wh pins s1 σ H1 Q I1 q1
theorem pt_not (ha : PT X a tA) : PT X (.UnaryOp .Not a pos) (tNot tA) := by
  intro pins s σ H Q I h
  exact isTrue_not (ha pins s σ H (fun c H1 => Q (!c) H1) I h)
noncomputable def tAndV (ta tb : TE) : TE := fun σ H Q => ta σ H fun x H1 => ∃ c, x = .bl c ∧ if c = true then tb σ H1 Q else Q (.bl false) H1
noncomputable def tOrV (ta tb : TE) : TE := fun σ H Q => ta σ H fun x H1 => ∃ c, x = .bl c ∧ if c = true then Q (.bl true) H1 else tb σ H1 Q
noncomputable def tNotV (ta : TE) : TE := fun σ H Q => ta σ H fun x H1 => ∃ c, x = .bl c ∧ Q (.bl (!c)) H1
theorem pe_one {op} {t : TE} (h : PE X a t) : PE X (.BoolOp op [a] pos) t := fun pins s σ H Q I hw => BoolOp_one (h pins s σ H Q I hw)
theorem pe_and (ha : PE X a ta) (hb : PE X (.BoolOp .And (b :: rest) pos) tb) : PE X (.BoolOp .And (a :: b :: rest) pos) (tAndV ta tb) := by
  intro pins s σ H Q I h
  refine BoolOp_and (thn (ha pins s σ H _ I h) fun v s1 ⟨x, H1, I1, r1, q1⟩ => ?_)
  obtain ⟨c, rfl, q1⟩ := q1
  cases r1
  refine wpAny_truthy_bool ?_
  cases c with
  | true => exact hb pins s1 σ H1 Q I1 q1
  | false => exact ⟨.bl false, H1, I1, rfl, q1⟩
noncomputable def tIf (t : TT) (ta tb : TE) : TE := fun σ H Q => t σ H fun c H1 => if c = true then ta σ H1 Q else tb σ H1 Q
theorem pe_ifExp {c : Expr} (hc : PT X c tA) (ha : PE X a ta) (hb : PE X b tb) : PE X (.IfExp c a b pos) (tIf tA ta tb) := by
  intro pins s σ H Q I h
  refine wpAny_IfExp (thn (hc pins s σ H _ I h) fun d s1 ⟨H1, I1, q1⟩ => ?_)
  cases d with
  | true => exact ha pins s1 σ H1 Q I1 q1
  | false => exact hb pins s1 σ H1 Q I1 q1
end
end L2
namespace L2
open PySem PySem.Spec PyProof.Rows
noncomputable def SqL (K : PySem.W.Frag) (H : Hp) (a : Addr) (xs : List V) : Prop :=
  Rd H a (.lst xs) ∨
    ∃ (o : Obj) (its : Array Value) (n : Nat), K.lookup a = some o ∧ o.cls = .type "list" ∧ o.dict = none ∧ o.data = .seq its n ∧ its.size ≤ sizeLine ∧ Vals xs its.toList
noncomputable def SqT (K : PySem.W.Frag) (H : Hp) (a : Addr) (xs : List V) : Prop :=
  Rd H a (.tup xs) ∨
    ∃ (o : Obj) (its : Array Value) (n : Nat), K.lookup a = some o ∧ o.cls = .type "tuple" ∧ o.data = .seq its n ∧ its.size ≤ sizeLine ∧ Vals xs its.toList
noncomputable def absV : Value → Option V
  | .none => some .non
  | .bool b => some (.bl b)
  | .int i _ => some (.int i)
  | .str x _ => some (.str x)
  | .bytes b _ => some (.byt b)
  | .float b _ => some (.flt b)
  | .ref a => some (.ref a)
  | .type n => some (.ty n)
  | _ => none
theorem RelV.abs {x : V} {u : Value} (r : RelV x u) : absV u = some x := by
  cases x with
  | non => cases r; rfl
  | bl _ => cases r; rfl
  | int _ => obtain ⟨t, rfl⟩ := r; rfl
  | str _ => obtain ⟨t, rfl⟩ := r; rfl
  | byt _ => obtain ⟨t, rfl⟩ := r; rfl
  | flt _ => obtain ⟨t, rfl⟩ := r; rfl
  | ref _ => cases r; rfl
  | ty _ => cases r; rfl
theorem RelV.inj {x y : V} {u : Value} (r : RelV x u) (q : RelV y u) : x = y := Option.some.inj (r.abs.symm.trans q.abs)
theorem Vals.inj : ∀ {xs ys : List V} {us : List Value}, Vals xs us → Vals ys us → xs = ys
  | _, _, _, .nil, .nil => rfl
  | _, _, _, .cons r t, .cons r' t' => by rw [r.inj r', Vals.inj t t']
section
variable {X : Cx} {pins : List (Addr × Obj)} {σ : St} {H : Hp} {s : Shared} {a : Addr} {xs ys : List V}
theorem SqL.of {K : PySem.W.Frag} (h : H a = some (.lst xs)) : SqL K H a xs := .inl (.inl h)
theorem SqT.of {K : PySem.W.Frag} (h : H a = some (.tup xs)) : SqT K H a xs := .inl (.inl h)
theorem Inv.list (I : Inv X pins σ H s) (h : SqL X.K H a xs) : ∃ its : List Value, Vals xs its ∧ PlainL s.heap a its.toArray ∧ xs.length ≤ sizeLine := by
  rcases h with h | ⟨o, its, n, hk, hc, hd, hs, hz, r⟩
  · obtain ⟨z, its, n, r, e⟩ := h.ok I.hok
    exact ⟨its, r, ⟨_, n, e, rfl, rfl, rfl⟩, z⟩
  · refine ⟨its.toList, r, ⟨o, n, I.kIn a o hk, hc, hd, by simpa using hs⟩, ?_⟩
    have e := r.length
    simp only [Array.length_toList] at e
    omega
theorem Inv.tuple (I : Inv X pins σ H s) (h : SqT X.K H a xs) : ∃ its : List Value, Vals xs its ∧ IsTup s.heap a its.toArray ∧ xs.length ≤ sizeLine := by
  rcases h with h | ⟨o, its, n, hk, hc, hs, hz, r⟩
  · obtain ⟨z, its, r, p⟩ := h.ok I.hok
    exact ⟨its, r, p, z⟩
  · refine ⟨its.toList, r, ⟨o, I.kIn a o hk, hc, n, by simpa using hs⟩, ?_⟩
    have e := r.length
    simp only [Array.length_toList] at e
    omega
theorem Inv.list_inj (I : Inv X pins σ H s) (h : SqL X.K H a xs) (h' : SqL X.K H a ys) : xs = ys := by
  obtain ⟨its, r, ⟨o, n, e, _, _, d⟩, _⟩ := I.list h
  obtain ⟨its', r', ⟨o', n', e', _, _, d'⟩, _⟩ := I.list h'
  rw [e] at e'; cases e'
  rw [d] at d'
  injection d' with d1 _
  have : its = its' := by simpa using congrArg Array.toList d1
  subst this
  exact r.inj r'
theorem Inv.tuple_inj (I : Inv X pins σ H s) (h : SqT X.K H a xs) (h' : SqT X.K H a ys) : xs = ys := by
  obtain ⟨its, r, ⟨o, e, _, n, d⟩, _⟩ := I.tuple h
  obtain ⟨its', r', ⟨o', e', _, n', d'⟩, _⟩ := I.tuple h'
  rw [e] at e'; cases e'
  rw [d] at d'
  injection d' with d1 _
  have : its = its' := by simpa using congrArg Array.toList d1
  subst this
  exact r.inj r'
end
noncomputable abbrev Cx.wish (X : Cx) (E : Value → Shared → Prop) : Cx := { X with xe := E }
noncomputable abbrev Cx.nox (X : Cx) : Cx := X.wish fun _ _ => False
theorem Cx.Ok.wish {X : Cx} (ok : X.Ok) (E : Value → Shared → Prop) : (X.wish E).Ok :=
  ⟨ok.mod, ok.kind, ok.glob, ok.blt, ok.above, ok.inj, ok.has, ok.cab, ok.hd, ok.frames, ok.stk, ok.exf, ok.bs, ok.bsz, ok.noex, ok.exfs, ok.funs, ok.frf⟩
theorem Cx.Ok.unwish {X : Cx} {E : Value → Shared → Prop} (ok : (X.wish E).Ok) : X.Ok :=
  ⟨ok.mod, ok.kind, ok.glob, ok.blt, ok.above, ok.inj, ok.has, ok.cab, ok.hd, ok.frames, ok.stk, ok.exf, ok.bs, ok.bsz, ok.noex, ok.exfs, ok.funs, ok.frf⟩
section
variable {X : Cx} {pins : List (Addr × Obj)} {σ : St} {H : Hp} {s : Shared} {E : Value → Shared → Prop}
theorem Inv.wish (I : Inv X pins σ H s) (E : Value → Shared → Prop) : Inv (X.wish E) pins σ H s := ⟨I.ok.wish E, I.os, I.bare, I.base, I.loc, I.cell, I.free, I.freeC, I.pin, I.hok, I.len⟩
theorem Inv.unwish (I : Inv (X.wish E) pins σ H s) : Inv X pins σ H s := ⟨I.ok.unwish, I.os, I.bare, I.base, I.loc, I.cell, I.free, I.freeC, I.pin, I.hok, I.len⟩
theorem SP.unwish {D : Ends} {f : Flow} {s' : Shared} (h : SP (X.wish E) pins D f s') : SP X pins D f s' := by
  cases f with
  | next => obtain ⟨σ', H', I, q⟩ := h; exact ⟨σ', H', I.unwish, q⟩
  | brk => obtain ⟨σ', H', I, q⟩ := h; exact ⟨σ', H', I.unwish, q⟩
  | cont => obtain ⟨σ', H', I, q⟩ := h; exact ⟨σ', H', I.unwish, q⟩
  | ret u => obtain ⟨v, σ', H', I, r, q⟩ := h; exact ⟨v, σ', H', I.unwish, r, q⟩
theorem PSs.nox {st : List Stmt} {t : TS} (h : PSs X.nox st t) : PSs X st t := fun pins s σ H D I hw =>
  wpAny_mono (h pins s σ H D (I.wish _) hw) (fun _ _ q => q.unwish) fun _ _ z => False.elim z
end
section
variable {X : Cx} {st : Stmt} {rest : List Stmt} {t u : TS} {e : Expr} {te : TE} {pos : Pos}
noncomputable def tNext : TS := fun D σ H => D.nx σ H
noncomputable def tSeq (t u : TS) : TS := fun D σ H => t { D with nx := u D } σ H
theorem pss_nil : PSs X [] tNext := fun _ _ σ H _ I h => wpAny_execs_nil ⟨σ, H, I, h⟩
theorem pss_cons (h1 : PS X st t) (h2 : PSs X rest u) : PSs X (st :: rest) (tSeq t u) := by
  intro pins s σ H D I h
  refine wpAny_execs_cons (thn (h1 pins s σ H { D with nx := u D } I h) fun f s1 q => ?_)
  cases f with
  | next =>
    obtain ⟨σ', H', I', q⟩ := q
    exact h2 pins s1 σ' H' D I' q
  | ret v => exact q
  | brk => exact q
  | cont => exact q
theorem pss_one (h1 : PS X st t) : PSs X [st] t := by
  intro pins s σ H D I h
  refine wpAny_execs_cons (thn (h1 pins s σ H D I h) fun f s1 q => ?_)
  cases f with
  | next => exact wpAny_execs_nil q
  | ret v => exact q
  | brk => exact q
  | cont => exact q
noncomputable def tBreak : TS := fun D σ H => D.bk σ H
noncomputable def tCont : TS := fun D σ H => D.ct σ H
theorem Inv.quiet {pins : List (Addr × Obj)} {σ : St} {H : Hp} {s : Shared} (I : Inv X pins σ H s) : interactive X.env = false := by simp [interactive, I.ok.kind]
noncomputable def tDrop (te : TE) : TS := fun D σ H => te σ H fun _ H1 => D.nx σ H1
theorem ps_expr (he : PE X e te) (hs : swapsWith e none pos.line X.env = pure false := by rfl) : PS X (.Expr e pos) (tDrop te) := by
  intro pins s σ H D I h
  exact wpAny_Expr_any (thn (he pins s σ H _ I h) fun v s1 ⟨x, H1, I1, r1, q1⟩ => ⟨σ, H1, I1, q1⟩) I.quiet hs
noncomputable def tRet (te : TE) : TS := fun D σ H => te σ H D.rt
theorem ps_ret (he : PE X e te) : PS X (.Return (some e) pos) (tRet te) := by
  intro pins s σ H D I h
  exact wpAny_Return_some (thn (he pins s σ H _ I h) fun v s1 ⟨x, H1, I1, r1, q1⟩ => ⟨x, σ, H1, I1, r1, q1⟩)
noncomputable def tRetN : TS := fun D _ H => D.rt .non H
noncomputable def tIfS (c : TT) (t u : TS) : TS := fun D σ H => c σ H fun b H1 => if b = true then t D σ H1 else u D σ H1
theorem ps_if {c : Expr} {a b : List Stmt} {tc : TT} (hc : PT X c tc) (ha : PSs X a t) (hb : PSs X b u) : PS X (.If c a b pos) (tIfS tc t u) := by
  intro pins s σ H D I h
  refine wpAny_If (thn (hc pins s σ H _ I h) fun d s1 ⟨H1, I1, q1⟩ => ?_)
  cases d with
  | true => exact ha pins s1 σ H1 D I1 q1
  | false => exact hb pins s1 σ H1 D I1 q1
noncomputable def tNever : TS := fun _ _ _ => False
theorem ps_never : PS X st tNever := fun _ _ _ _ _ _ h => h.elim
end
noncomputable abbrev TG := V → St → Hp → (St → Hp → Prop) → Prop
noncomputable abbrev TGs := List V → St → Hp → (St → Hp → Prop) → Prop
noncomputable def PG (X : Cx) (target : Expr) (t : TG) : Prop :=
  ∀ (pins : List (Addr × Obj)) (s : Shared) (σ : St) (H : Hp) (v : V) (u : Value) (Q : St → Hp → Prop), Inv X pins σ H s → RelV v u → t v σ H Q →
    wpAny (model X.prog X.w) X.A (assign target X.env u) (fun _ s' => ∃ σ' H', Inv X pins σ' H' s' ∧ Q σ' H') X.xe s
noncomputable def PGs (X : Cx) (ts : List Expr) (t : TGs) : Prop :=
  ∀ (pins : List (Addr × Obj)) (s : Shared) (σ : St) (H : Hp) (vs : List V) (us : List Value) (Q : St → Hp → Prop), Inv X pins σ H s → Vals vs us → t vs σ H Q →
    wpAny (model X.prog X.w) X.A (assignInOrder ((assignEach ts X.env).map (·.2)) us) (fun _ s' => ∃ σ' H', Inv X pins σ' H' s' ∧ Q σ' H') X.xe s
noncomputable abbrev TSet := V → V → V → Hp → (Hp → Prop) → Prop
noncomputable def PSet (X : Cx) (t : TSet) : Prop :=
  ∀ (pins : List (Addr × Obj)) (s : Shared) (σ : St) (H : Hp) (o i v : V) (ov iv u : Value) (Q : Hp → Prop), Inv X pins σ H s → RelV o ov → RelV i iv → RelV v u → t o i v H Q →
    wpAny (model X.prog X.w) X.A (setItem ov iv u) (fun _ s' => ∃ H', Inv X pins σ H' s' ∧ Q H') X.xe s
noncomputable abbrev TIp := V → V → Hp → VK → Prop
noncomputable def PIp (X : Cx) (op : Operator) (t : TIp) : Prop :=
  ∀ (pins : List (Addr × Obj)) (s : Shared) (σ : St) (H : Hp) (x y : V) (v u : Value) (Q : VK), Inv X pins σ H s → RelV x v → RelV y u → t x y H Q →
    wpAny (model X.prog X.w) X.A (inplaceOp op v u) (EP X pins σ Q) X.xe s
section
variable {X : Cx} {pos : Pos}
noncomputable def gName (i : Nat) : TG := fun v σ H Q => Q (σ.set i (some v)) H
theorem pg_name {i : Nat} {x : Str} (hN : X.N.Nodup) (hi : X.N[i]? = some x) (hx : Loc X.env.scope x) (hf : X.fn x = true ∨ X.env.scope.names.lookup x = some .local := by first | exact .inl rfl | exact .inr rfl | assumption) : PG X (.Name x pos) (gName i) := by
  intro pins s σ H v u Q I r h
  exact wpAny_assign_Name (store_ok I hN hi hx r (fun s' I' => ⟨_, H, I', h⟩) hf)
noncomputable def gNil : TGs := fun vs σ H Q => vs = [] ∧ Q σ H
noncomputable def gCons (t : TG) (u : TGs) : TGs := fun vs σ H Q => ∃ v r, vs = v :: r ∧ t v σ H fun σ' H' => u r σ' H' Q
theorem pgs_nil : PGs X [] gNil := by
  intro pins s σ H vs us Q I r h
  obtain ⟨e, h⟩ := h
  subst e
  cases r
  exact assignInOrder_nil ⟨σ, H, I, h⟩
theorem pgs_cons {e : Expr} {es : List Expr} {t : TG} {u : TGs} (h1 : PG X e t) (h2 : PGs X es u)
    (hs : (assignEach (e :: es) X.env).map (·.2) = assign e X.env :: (assignEach es X.env).map (·.2) := by rfl) : PGs X (e :: es) (gCons t u) := by
  intro pins s σ H vs us Q I r h
  obtain ⟨v, vr, e1, h⟩ := h
  subst e1
  cases r with
  | cons r rr =>
    rw [hs]
    refine assignInOrder_cons (thn (h1 pins s σ H _ _ _ I r h) fun _ s1 ⟨σ1, H1, I1, q1⟩ => ?_)
    exact h2 pins s1 σ1 H1 _ _ Q I1 rr q1
noncomputable def gTup (K : PySem.W.Frag) (n : Nat) (t : TGs) : TG := fun v σ H Q => ∃ a xs, v = .ref a ∧ SqT K H a xs ∧ xs.length = n ∧ t xs σ H Q
theorem pg_tup {es : List Expr} {k : Nat} {t : TGs} {n : Nat} (hc : X.calm = true) (h : PGs X es t)
    (hn : (assignEach es X.env).length = n := by rfl) (hst : (assignEach es X.env).findIdx? (·.1) = none := by rfl) : PG X (.Tuple es k pos) (gTup X.K n t) := by
  intro pins s σ H v u Q I r hw
  obtain ⟨a, xs, e1, hq, hl, hw⟩ := hw
  subst e1
  cases r
  obtain ⟨its, rv, ht, hz⟩ := I.tuple hq
  refine assign_Tuple_tuple (I.ok.hd hc) ht (by simp [hn, ← hl, rv.length]) hst fun h' hx => ?_
  have I1 : Inv X pins σ H { s with heap := h' } := I.kept (t' := s.toks) fun b o e => hx b o (Nat.ne_of_lt (Heap.lt_size e)) e
  exact h pins _ σ H xs _ Q I1 (by simpa using rv) hw
noncomputable def gSub (to ti : TE) (t : TSet) : TG := fun v σ H Q => to σ H fun o H1 => ti σ H1 fun i H2 => t o i v H2 fun H3 => Q σ H3
noncomputable def tAsg (te : TE) (g : TG) : TS := fun D σ H => te σ H fun x H1 => g x σ H1 D.nx
theorem ps_set {i : Nat} {x : Str} {e : Expr} {te : TE} {pos' : Pos} (hN : X.N.Nodup) (hi : X.N[i]? = some x) (hx : Loc X.env.scope x) (he : PE X e te) (hs : swapsWith e (some (.Name x pos')) pos.line X.env = pure false := by rfl) (hf : X.fn x = true ∨ X.env.scope.names.lookup x = some .local := by first | exact .inl rfl | exact .inr rfl | assumption) :
    PS X (.Assign [.Name x pos'] e pos) (tAsg te (gName i)) := by
  intro pins s σ H D I h
  refine wpAny_Assign_Name (thn (he pins s σ H _ I h) fun v s1 ⟨y, H1, I1, r1, q1⟩ => ?_) hs
  exact store_ok I1 hN hi hx r1 (fun s2 I2 => ⟨_, H1, I2, q1⟩) hf
noncomputable def tPar (i j : Nat) (ta : TA) : TS := fun D σ H => ta σ H fun vs H1 => ∃ v w, vs = [v, w] ∧ D.nx ((σ.set i (some v)).set j (some w)) H1
noncomputable def tAug (i : Nat) (te : TE) (ti : TIp) : TS := fun D σ H => ∃ x, σ[i]? = some (some x) ∧ te σ H fun y H1 => ti x y H1 fun z H2 => D.nx (σ.set i (some z)) H2
noncomputable def tAugS (to ti te : TE) (tget : V → V → Hp → VK → Prop) (tip : TIp) (tset : TSet) : TS := fun D σ H => to σ H fun o H1 => ti σ H1 fun i H2 => tget o i H2 fun x H3 => te σ H3 fun y H4 => tip x y H4 fun z H5 => tset o i z H5 fun H6 => D.nx σ H6
noncomputable def PGet (X : Cx) (t : V → V → Hp → VK → Prop) : Prop :=
  ∀ (pins : List (Addr × Obj)) (s : Shared) (σ : St) (H : Hp) (o i : V) (ov iv : Value) (Q : VK), Inv X pins σ H s → RelV o ov → RelV i iv → t o i H Q →
    wpAny (model X.prog X.w) X.A (getItem ov iv) (EP X pins σ Q) X.xe s
noncomputable def ipI (f : Int → Int → Int) : TIp := fun x y H Q => ∃ i j, x = .int i ∧ y = .int j ∧ Q (.int (f i j)) H
end
section
variable {X : Cx} {pos : Pos}
noncomputable def tWhile (c : TT) (tb : TS) : TS := fun D σ H => ∃ W : Nat → St → Hp → Prop, (∃ m, W m σ H) ∧ ∀ m σ H, W m σ H →
  c σ H fun b H1 => if b = true then ∃ N : St → Hp → Prop, (∀ σ' H', N σ' H' → ∃ m', m' < m ∧ W m' σ' H') ∧ tb { D with nx := N, ct := N, bk := D.nx } σ H1 else D.nx σ H1
end
structure It where
  go : Nat → Hp → Prop
  yld : Nat → Hp → V → Hp → Prop
  stop : Nat → Hp → Prop
noncomputable def FpOk (X : Cx) (pins : List (Addr × Obj)) (H : Hp) (b : Addr) : Prop :=
  H b = none ∧ b ≠ X.env.locals ∧ b ∉ X.fs ∧ (b ∈ X.ex ∨ X.s₀.heap.objs.size ≤ b) ∧ (∀ x c, X.env.cells.lookup x = some c → c ≠ b) ∧ ∀ p ∈ X.pn ++ pins, p.1 ≠ b
theorem Inv.fpOk {X : Cx} {pins : List (Addr × Obj)} {σ : St} {H H' : Hp} {s : Shared} {b : Addr} (I : Inv X pins σ H s) (hb : s.heap.objs.size ≤ b) (hn : H' b = none) : FpOk X pins H' b := by
  refine ⟨hn, Nat.ne_of_gt (Nat.lt_of_lt_of_le I.lt hb), I.nofs hb, .inr (Nat.le_trans I.sz hb), fun x c e z => ?_, fun p hp z => ?_⟩
  · obtain ⟨v, q⟩ := I.cell x c e
    exact absurd (Nat.lt_of_lt_of_le q.lt (by rw [z]; exact hb)) (Nat.lt_irrefl _)
  · exact absurd (Nat.lt_of_lt_of_le (Heap.lt_size (I.pin p hp).1) (by rw [z]; exact hb)) (Nat.lt_irrefl _)
structure Turn (P : Program) (w : World) (K : PySem.W.Frag) (tg : Expr) (J : It) (fp : List Addr) (it : Addr) (tn : Nat → Heap → Prop) : Prop where
  mem : it ∈ fp
  obj : ∀ i h, tn i h → ∀ b ∈ fp, ∃ o, h.get? b = some o ∧ ∀ v, o.data ≠ .cell v
  keep : ∀ i h h', tn i h → (∀ b ∈ fp, ∀ o, h.get? b = some o → h'.get? b = some o) → tn i h'
  item : ∀ (X : Cx), X.prog = P → X.w = w → X.K = K → X.calm = true → ∀ (i : Nat) (pins : List (Addr × Obj)) (s : Shared) (σ : St) (H : Hp) (E : Value → Shared → Prop), Inv X pins σ H s → (∀ b ∈ fp, FpOk X pins H b) → tn i s.heap → J.go i H →
    wpAny (model P w) X.A (pyNext (.ref it)) (fun r s1 => ∃ u, r = some u ∧
      wpAny (model P w) X.A (letOwnedTupleGo tg (.ref it) u) (fun _ s2 => ∃ x H', Inv X pins σ H' s2 ∧ RelV x u ∧ J.yld i H x H' ∧ tn (i + 1) s2.heap ∧ ∀ b ∈ fp, H' b = none) E s1) E s
  done : ∀ (X : Cx), X.prog = P → X.w = w → X.K = K → X.calm = true → ∀ (i : Nat) (pins : List (Addr × Obj)) (s : Shared) (σ : St) (H : Hp) (E : Value → Shared → Prop), Inv X pins σ H s → (∀ b ∈ fp, FpOk X pins H b) → tn i s.heap → J.stop i H →
    wpAny (model P w) X.A (pyNext (.ref it)) (fun r s1 => r = none ∧ Inv X pins σ H s1) E s
  self : ∀ (A : Around) (i : Nat) (s : Shared) (Q : Value → Shared → Prop) (E : Value → Shared → Prop), tn i s.heap → Q (.ref it) s → wpAny (model P w) A (pyIter (.ref it)) Q E s
noncomputable abbrev TI := St → Hp → (It → Hp → Prop) → Prop
noncomputable def PIE (X : Cx) (pins : List (Addr × Obj)) (σ : St) (tg : Expr) (R : It → Hp → Prop) (itv : Value) (s2 : Shared) : Prop :=
  ∃ (it : Addr) (fp : List Addr) (tn : Nat → Heap → Prop) (J : It) (H' : Hp), itv = .ref it ∧ Inv X pins σ H' s2 ∧ Turn X.prog X.w X.K tg J fp it tn ∧ tn 0 s2.heap ∧ (∀ b ∈ fp, FpOk X pins H' b) ∧ R J H'
noncomputable def PI (X : Cx) (tg iter : Expr) (wi : TI) : Prop :=
  ∀ (pins : List (Addr × Obj)) (s : Shared) (σ : St) (H : Hp) (R : It → Hp → Prop), Inv X pins σ H s → wi σ H R →
    wpAny (model X.prog X.w) X.A (eval iter X.env) (fun v s1 => wpAny (model X.prog X.w) X.A (pyIter v) (PIE X pins σ tg R) X.xe s1) X.xe s
theorem go_of {M : Model} {A : Around} {E : Value → Shared → Prop} {s : Shared} {tg : Expr} {it : Addr} {u : Value} {o : Obj} {n : String} {vs : Array Value} {Q : Unit → Shared → Prop} (ho : s.heap.get? it = some o) (hc : o.cls = .type n) (hd : o.data = .fields vs)
    (hn : ["enumerate", "zip", "dict_itemiterator", "dict_reverseitemiterator", "odict_iterator", "itertools.zip_longest", "itertools.pairwise"].contains n = false) (hQ : Q () s) : wpAny M A (letOwnedTupleGo tg (.ref it) u) Q E s := by
  unfold letOwnedTupleGo
  cases tg <;> first
    | exact wpAny_pure hQ
    | (cases u <;> first
        | exact wpAny_pure hQ
        | (refine wpAny_bind (wpAny_load ho ?_)
           rw [hc, hd]
           show wpAny M A (if (["enumerate", "zip", "dict_itemiterator", "dict_reverseitemiterator", "odict_iterator", "itertools.zip_longest", "itertools.pairwise"].contains n && vs[0]? == some (rawInt _)) = true then _ else _) Q E s
           rw [if_neg (by intro h; rw [hn, Bool.false_and] at h; cases h)]
           exact wpAny_pure hQ))
noncomputable def Itl (K : PySem.W.Frag) (a : Addr) : It :=
  ⟨fun i H => ∃ xs x, SqL K H a xs ∧ xs[i]? = some x, fun i H x H' => H' = H ∧ ∀ xs, SqL K H a xs → xs[i]? = some x, fun i H => ∃ xs, SqL K H a xs ∧ xs.length ≤ i⟩
noncomputable def Itt (K : PySem.W.Frag) (a : Addr) : It :=
  ⟨fun i H => ∃ xs x, SqT K H a xs ∧ xs[i]? = some x, fun i H x H' => H' = H ∧ ∀ xs, SqT K H a xs → xs[i]? = some x, fun i H => ∃ xs, SqT K H a xs ∧ xs.length ≤ i⟩
noncomputable def Itr (lo : Int) (n : Nat) : It := ⟨fun i _ => i < n, fun i H x H' => H' = H ∧ x = .int (lo + i), fun i _ => n ≤ i⟩
theorem turn_list {P : Program} {w : World} {K : PySem.W.Frag} {tg : Expr} (a it : Addr) : Turn P w K tg (Itl K a) [it] it (fun i h => h.IsListIter it a i) where
  mem := by simp
  obj := fun i h st b hb => by
    have e : b = it := by simpa using hb
    subst e
    obtain ⟨o, e, c, d⟩ := st
    exact ⟨o, e, fun v z => by rw [d] at z; cases z⟩
  keep := fun i h h' st k => st.at fun o e => k it (by simp) o e
  item := by
    intro X hP hw hK hc i pins s σ H E I hf st hg
    subst hP hw hK
    obtain ⟨xs, x, hq, hx⟩ := hg
    obtain ⟨its, rv, p, hz⟩ := I.list hq
    obtain ⟨u, hu, ru⟩ := rv.get hx
    obtain ⟨f0, f1, f2, f3, f4, f5⟩ := hf it (by simp)
    refine wpAny_pyNext_list_item st p.isList (x := u) (by simpa using hu) fun h' st' sb => ?_
    have I1 : Inv X pins σ H { s with heap := h' } := I.turned (t' := s.toks) (fun b o hb e => (sb.2 b hb).trans e) f0 f1 f3 f4 f5
    obtain ⟨o, e, c, d⟩ := id st'
    exact ⟨u, rfl, go_of (s := { s with heap := h' }) e c d (by decide) ⟨x, H, I1, ru, ⟨rfl, fun ys hy => by rw [I.list_inj hy hq]; exact hx⟩, st', fun b hb => (hf b hb).1⟩⟩
  done := by
    intro X hP hw hK hc i pins s σ H E I hf st hg
    subst hP hw hK
    obtain ⟨xs, hq, hx⟩ := hg
    obtain ⟨its, rv, p, hz⟩ := I.list hq
    obtain ⟨f0, f1, f2, f3, f4, f5⟩ := hf it (by simp)
    have hl := rv.length
    exact wpAny_pyNext_list_end (I.ok.hd hc) st p.isList (by simp; omega) fun h' eb => ⟨rfl, I.turned (t' := s.toks) (fun b o hb e => eb b o hb e) f0 f1 f3 f4 f5⟩
  self := fun _ _ _ _ _ st h => wpAny_pyIter_listiter st h
theorem turn_tuple {P : Program} {w : World} {K : PySem.W.Frag} {tg : Expr} (a it : Addr) : Turn P w K tg (Itt K a) [it] it (fun i h => h.IsTupleIter it a i) where
  mem := by simp
  obj := fun i h st b hb => by
    have e : b = it := by simpa using hb
    subst e
    obtain ⟨o, e, c, d⟩ := st
    exact ⟨o, e, fun v z => by rw [d] at z; cases z⟩
  keep := fun i h h' st k => st.at fun o e => k it (by simp) o e
  item := by
    intro X hP hw hK hc i pins s σ H E I hf st hg
    subst hP hw hK
    obtain ⟨xs, x, hq, hx⟩ := hg
    obtain ⟨its, rv, p, hz⟩ := I.tuple hq
    obtain ⟨u, hu, ru⟩ := rv.get hx
    obtain ⟨f0, f1, f2, f3, f4, f5⟩ := hf it (by simp)
    refine wpAny_pyNext_tuple_item st (show s.heap.IsTuple a its.toArray from p) (x := u) (by simpa using hu) fun h' st' sb => ?_
    have I1 : Inv X pins σ H { s with heap := h' } := I.turned (t' := s.toks) (fun b o hb e => (sb.2 b hb).trans e) f0 f1 f3 f4 f5
    obtain ⟨o, e, c, d⟩ := id st'
    exact ⟨u, rfl, go_of (s := { s with heap := h' }) e c d (by decide) ⟨x, H, I1, ru, ⟨rfl, fun ys hy => by rw [I.tuple_inj hy hq]; exact hx⟩, st', fun b hb => (hf b hb).1⟩⟩
  done := by
    intro X hP hw hK hc i pins s σ H E I hf st hg
    subst hP hw hK
    obtain ⟨xs, hq, hx⟩ := hg
    obtain ⟨its, rv, p, hz⟩ := I.tuple hq
    obtain ⟨f0, f1, f2, f3, f4, f5⟩ := hf it (by simp)
    have hl := rv.length
    exact wpAny_pyNext_tuple_end (I.ok.hd hc) st (show s.heap.IsTuple a its.toArray from p) (by simp; omega) fun h' eb => ⟨rfl, I.turned (t' := s.toks) (fun b o hb e => eb b o hb e) f0 f1 f3 f4 f5⟩
  self := fun _ _ _ _ _ st h => wpAny_pyIter_tupleiter st h
theorem turn_range {P : Program} {w : World} {K : PySem.W.Frag} {tg : Expr} (it : Addr) (lo : Int) (n : Nat) : Turn P w K tg (Itr lo n) [it] it (fun i h => IsRangeIter h it (lo + (i : Nat) * 1) ((n : Int) - (i : Nat)) 1) where
  mem := by simp
  obj := fun i h st b hb => by
    have e : b = it := by simpa using hb
    subst e
    exact ⟨_, st, fun v z => by
      have z' : Data.fields _ = Data.cell v := z
      cases z'⟩
  keep := fun i h h' st k => k it (by simp) _ st
  item := by
    intro X hP hw hK hc i pins s σ H E I hf st hg
    subst hP hw hK
    obtain ⟨f0, f1, f2, f3, f4, f5⟩ := hf it (by simp)
    have W := Walks.range (prog := X.prog) (w := X.w) (I.ok.hd hc) it lo 1 n
    refine W.item i s _ _ hg st fun v h' tk hv st' kk => ?_
    obtain ⟨t, rfl⟩ := hv
    have I1 : Inv X pins σ H { s with heap := h', toks := tk } := I.turned (fun b o hb e => kk b o (by simpa using hb) e) f0 f1 f3 f4 f5
    refine ⟨_, rfl, go_of (s := { s with heap := h', toks := tk }) (n := "range_iterator") st' rfl rfl (by decide) ⟨.int (lo + i), H, I1, ⟨t, ?_⟩, ⟨rfl, rfl⟩, st', fun b hb => (hf b hb).1⟩⟩
    rw [Int.mul_one]
  done := by
    intro X hP hw hK hc i pins s σ H E I hf st hg
    subst hP hw hK
    obtain ⟨f0, f1, f2, f3, f4, f5⟩ := hf it (by simp)
    exact wpAny_pyNext_range_end (I.ok.hd hc) st (by have : n ≤ i := hg; omega) fun h' eb => ⟨rfl, I.turned (t' := s.toks) (fun b o hb e => eb b o hb e) f0 f1 f3 f4 f5⟩
  self := fun _ _ _ _ _ st h => wpAny_pyIter_rangeiter st h
end L2
namespace L2
open PySem PySem.Spec PyProof.Rows
section
variable {X : Cx} {tg : Expr}
noncomputable def iList (K : PySem.W.Frag) (tl : TE) : TI := fun σ H R => tl σ H fun x H1 => ∃ a, x = .ref a ∧ (∃ xs, SqL K H1 a xs) ∧ R (Itl K a) H1
noncomputable def iTup (K : PySem.W.Frag) (tl : TE) : TI := fun σ H R => tl σ H fun x H1 => ∃ a, x = .ref a ∧ (∃ xs, SqT K H1 a xs) ∧ R (Itt K a) H1
theorem pi_list {l : Expr} {tl : TE} (hl : PE X l tl) : PI X tg l (iList X.K tl) := by
  intro pins s σ H R I h
  refine thn (hl pins s σ H _ I h) fun v s1 ⟨x, H1, I1, r1, q1⟩ => ?_
  obtain ⟨a, e, ⟨xs, hq⟩, q⟩ := q1
  subst e
  cases r1
  obtain ⟨its, rv, p, hz⟩ := I1.list hq
  refine wpAny_pyIter_list p.isList ?_
  refine ⟨s1.heap.objs.size, [s1.heap.objs.size], _, _, H1, rfl, I1.kept (t' := s1.toks) fun b o e => Heap.get?_push_of_some _ e, turn_list a _, ⟨_, Heap.get?_push_size _ rfl, rfl, rfl⟩, fun b hb => ?_, q⟩
  have e : b = s1.heap.objs.size := by simpa using hb
  subst e
  exact I1.fpOk (Nat.le_refl _) (I1.hok.fresh (Nat.le_refl _))
theorem pi_tup {l : Expr} {tl : TE} (hl : PE X l tl) : PI X tg l (iTup X.K tl) := by
  intro pins s σ H R I h
  refine thn (hl pins s σ H _ I h) fun v s1 ⟨x, H1, I1, r1, q1⟩ => ?_
  obtain ⟨a, e, ⟨xs, hq⟩, q⟩ := q1
  subst e
  cases r1
  obtain ⟨its, rv, p, hz⟩ := I1.tuple hq
  refine wpAny_pyIter_tuple (show s1.heap.IsTuple a its.toArray from p) ?_
  refine ⟨s1.heap.objs.size, [s1.heap.objs.size], _, _, H1, rfl, I1.kept (t' := s1.toks) fun b o e => Heap.get?_push_of_some _ e, turn_tuple a _, ⟨_, Heap.get?_push_size _ rfl, rfl, rfl⟩, fun b hb => ?_, q⟩
  have e : b = s1.heap.objs.size := by simpa using hb
  subst e
  exact I1.fpOk (Nat.le_refl _) (I1.hok.fresh (Nat.le_refl _))
theorem range_it {pins : List (Addr × Obj)} {σ : St} {H : Hp} {s : Shared} {R : It → Hp → Prop} {E : Value → Shared → Prop} {lo hi : Int} {t u v : Tok} {tk : Nat} (I : Inv X pins σ H s) (h1 : -(2 ^ 62) ≤ lo) (h2 : lo < 2 ^ 62) (h3 : -(2 ^ 62) ≤ hi) (h4 : hi < 2 ^ 62)
    (q : R (Itr lo (hi - lo).toNat) H) : wpAny (model X.prog X.w) X.A (pyIter (.ref s.heap.objs.size)) (PIE X pins σ tg R) E { s with heap := s.heap.push { cls := .type "range", data := .fields #[.int lo t, .int hi u, .int 1 v] }, toks := tk } := by
  refine wpAny_pyIter_range (IsRange.new ..) (small_one h1 h2 h3 h4) ?_
  have I1 : Inv X pins σ H { s with heap := s.heap.push { cls := .type "range", data := .fields #[.int lo t, .int hi u, .int 1 v] }, toks := tk } := I.kept fun b o e => Heap.get?_push_of_some _ e
  refine ⟨(s.heap.push { cls := .type "range", data := .fields #[.int lo t, .int hi u, .int 1 v] }).objs.size, [(s.heap.push { cls := .type "range", data := .fields #[.int lo t, .int hi u, .int 1 v] }).objs.size], _, _, H, rfl,
    I1.kept (t' := tk) fun b o e => Heap.get?_push_of_some _ e, turn_range _ lo (hi - lo).toNat, ?_, fun b hb => ?_, q⟩
  · have e1 : lo + ((0 : Nat) : Int) * 1 = lo := by simp
    have e2 : (((hi - lo).toNat : Nat) : Int) - ((0 : Nat) : Int) = Builtin.Range.rangeSize lo hi 1 := by rw [rangeSize_one]; split <;> omega
    show IsRangeIter _ _ (lo + ((0 : Nat) : Int) * 1) ((((hi - lo).toNat : Nat) : Int) - ((0 : Nat) : Int)) 1
    rw [e1, e2]
    exact Heap.get?_push_size _ rfl
  · have e : b = (s.heap.push { cls := .type "range", data := .fields #[.int lo t, .int hi u, .int 1 v] }).objs.size := by simpa using hb
    subst e
    exact I1.fpOk (Nat.le_refl _) (I1.hok.fresh (Nat.le_refl _))
noncomputable def iRng1 (ta : TA) : TI := fun σ H R => ta σ H fun vs H1 => ∃ j : Int, vs = [.int j] ∧ -(2 ^ 62) ≤ j ∧ j < 2 ^ 62 ∧ R (Itr 0 j.toNat) H1
noncomputable def iRng2 (ta : TA) : TI := fun σ H R => ta σ H fun vs H1 => ∃ i j : Int, vs = [.int i, .int j] ∧ (-(2 ^ 62) ≤ i ∧ i < 2 ^ 62 ∧ -(2 ^ 62) ≤ j ∧ j < 2 ^ 62) ∧ R (Itr i (j - i).toNat) H1
theorem pi_range1 {a : Expr} {ta : TA} {p pos : Pos} (hg : Gl X "range") (hm : X.mg "range" = none) (ha : PA X [a] ta) (hs : starEach [a] X.env = [(false, eval a X.env)] := by rfl) : PI X tg (.Call (.Name "range" p) [a] [] pos) (iRng1 ta) := by
  intro pins s σ H R I h
  refine Call_ (ld_blt I hg hm boot_range (PyProof.Rows.callWith_type1 (thn (ha pos pins s σ H _ I h) fun us s1 ⟨vs, H1, I1, r1, q1⟩ => ?_) hs rfl))
  obtain ⟨j, e, q1, q2, q⟩ := q1
  subst e
  cases r1 with
  | cons r rr =>
    cases rr
    obtain ⟨t, rfl⟩ := r
    exact call_range_1 (range_it I1 (by omega) (by omega) q1 q2 (by simpa using q))
theorem pi_range2 {a b : Expr} {ta : TA} {p pos : Pos} (hg : Gl X "range") (hm : X.mg "range" = none) (ha : PA X [a, b] ta) (hs : starEach [a, b] X.env = [(false, eval a X.env), (false, eval b X.env)] := by rfl) (hs2 : starEach [b] X.env = [(false, eval b X.env)] := by rfl) :
    PI X tg (.Call (.Name "range" p) [a, b] [] pos) (iRng2 ta) := by
  intro pins s σ H R I h
  refine Call_ (ld_blt I hg hm boot_range (PyProof.Rows.callWith_type1 (thn (ha pos pins s σ H _ I h) fun us s1 ⟨vs, H1, I1, r1, q1⟩ => ?_) (by rw [hs, hs2]) (by rw [hs2]; rfl)))
  obtain ⟨i, j, e, ⟨q1, q2, q3, q4⟩, q⟩ := q1
  subst e
  cases r1 with
  | cons r rr =>
    cases rr with
    | cons r' rr =>
      cases rr
      obtain ⟨t, rfl⟩ := r
      obtain ⟨t', rfl⟩ := r'
      exact call_range_2 (range_it I1 q1 q2 q3 q4 q)
noncomputable def tFor (wi : TI) (g : TG) (tb : TS) : TS := fun D σ H => wi σ H fun J H1 => ∃ W : Nat → Nat → St → Hp → Prop, (∃ m, W 0 m σ H1) ∧ ∀ i m σ H, W i m σ H →
  (J.stop i H ∧ D.nx σ H) ∨ (J.go i H ∧ ∃ N : St → Hp → Prop, (∀ σ' H', N σ' H' → ∃ m', m' < m ∧ W (i + 1) m' σ' H') ∧ ∀ x H', J.yld i H x H' → g x σ H' fun σ2 H2 => tb { D with nx := N, ct := N, bk := D.nx } σ2 H2)
noncomputable def pinsAt (fp : List Addr) (h : Heap) : List (Addr × Obj) := fp.filterMap fun b => (h.get? b).map fun o => (b, o)
theorem mem_pinsAt {fp : List Addr} {h : Heap} {b : Addr} {o : Obj} (hb : b ∈ fp) (e : h.get? b = some o) : (b, o) ∈ pinsAt fp h := List.mem_filterMap.mpr ⟨b, hb, by rw [e]; rfl⟩
theorem of_pinsAt {fp : List Addr} {h : Heap} {p : Addr × Obj} (hp : p ∈ pinsAt fp h) : p.1 ∈ fp ∧ h.get? p.1 = some p.2 := by
  obtain ⟨b, hb, e⟩ := List.mem_filterMap.mp hp
  cases q : h.get? b with
  | none => rw [q] at e; cases e
  | some o =>
    rw [q] at e
    have e' : (b, o) = p := Option.some.inj e
    subst e'
    exact ⟨hb, q⟩
theorem Inv.pinned {pins : List (Addr × Obj)} {σ : St} {H : Hp} {s : Shared} {fp : List Addr} (I : Inv X pins σ H s) (hf : ∀ b ∈ fp, FpOk X pins H b) (ho : ∀ b ∈ fp, ∃ o, s.heap.get? b = some o ∧ ∀ v, o.data ≠ .cell v) : Inv X (pins ++ pinsAt fp s.heap) σ H s :=
  I.pins_of fun p hp => (List.mem_append.mp hp).elim (fun z => I.pin p (List.mem_append_right _ z)) fun z => by
    obtain ⟨hb, e⟩ := of_pinsAt z
    obtain ⟨f0, f1, f2, _⟩ := hf p.1 hb
    obtain ⟨o, e', d⟩ := ho p.1 hb
    rw [e] at e'; cases e'
    exact ⟨e, f0, f1, f2, d⟩
theorem Inv.unpinned {pins pl : List (Addr × Obj)} {σ : St} {H : Hp} {s : Shared} (I : Inv X (pins ++ pl) σ H s) : Inv X pins σ H s := I.pins_of fun p hp => I.pin p (List.mem_append_right _ (List.mem_append_left _ hp))
theorem ps_for {iter : Expr} {body : List Stmt} {wi : TI} {g : TG} {tb : TS} {pos : Pos} (hp : PassesOwn (model X.prog X.w) X.A X.env X.xe) (hc : X.calm = true) (hi : PI X tg iter wi) (hg : PG X tg g) (hb : PSs X body tb)
    (hs : ∀ x, foldedSetIterable iter X.env x = pure x := by intro _; rfl) : PS X (.For tg iter body [] pos) (tFor wi g tb) := by
  intro pins s σ H D I h
  refine wpAny_For (thn (hi pins s σ H _ I h) fun v s1 h1 => thn h1 fun itv s2 h2 => ?_) hs
  obtain ⟨it, fp, tn, J, H2, e, I2, T, st2, f2, W, ⟨m0, w0⟩, turn⟩ := h2
  subst e
  have stat : ∀ {H' : Hp}, (∀ b ∈ fp, H' b = none) → ∀ b ∈ fp, FpOk X pins H' b := fun hn b hb => ⟨hn b hb, (f2 b hb).2⟩
  refine codeAny_forLoop_any (fun n s' => ∃ i σ' H', Inv X pins σ' H' s' ∧ tn i s'.heap ∧ (∀ b ∈ fp, H' b = none) ∧ W i n σ' H') ?_ m0 ⟨0, σ, H2, I2, st2, fun b hb => (f2 b hb).1, w0⟩
  rintro n s3 ⟨i, σ3, H3, I3, st3, fr3, w3⟩
  rcases turn i n σ3 H3 w3 with ⟨stop, qn⟩ | ⟨go, N, hN, step⟩
  · refine wpAny_passesOwn hp (thn (T.done X rfl rfl rfl hc i pins s3 σ3 H3 X.xe I3 (stat fr3) st3 stop) fun r s4 ⟨hr, I4⟩ => ?_)
    subst hr
    exact wpAny_execs_nil ⟨σ3, H3, I4, qn⟩
  · refine wpAny_passesOwn hp (thn (T.item X rfl rfl rfl hc i pins s3 σ3 H3 X.xe I3 (stat fr3) st3 go) fun r s4 ⟨u, hr, h4⟩ => ?_)
    subst hr
    refine wpAny_passesOwn hp (thn h4 fun _ s5 ⟨x, H5, I5, r5, y5, st5, fr5⟩ => ?_)
    have I5' := I5.pinned (stat fr5) (T.obj _ _ st5)
    refine wpAny_passesOwn hp (thn (hg _ s5 σ3 H5 x u _ I5' r5 (step x H5 y5)) fun _ s6 ⟨σ6, H6, I6, q6⟩ => ?_)
    refine wpAny_passesOwn hp (thn (hb _ s6 σ6 H6 _ I6 q6) fun f s7 q7 => ?_)
    have again : ∀ {σ7 : St} {H7 : Hp}, Inv X (pins ++ pinsAt fp s5.heap) σ7 H7 s7 → N σ7 H7 → ∃ m, m < n ∧ ∃ i σ' H', Inv X pins σ' H' s7 ∧ tn i s7.heap ∧ (∀ b ∈ fp, H' b = none) ∧ W i m σ' H' := fun {σ7 H7} I7 n7 => by
      obtain ⟨m', hm, w7⟩ := hN σ7 H7 n7
      refine ⟨m', hm, i + 1, σ7, H7, I7.unpinned, T.keep _ _ _ st5 fun b hb o e => (I7.pin (b, o) (List.mem_append_right _ (List.mem_append_right _ (mem_pinsAt hb e)))).1, fun b hb => ?_, w7⟩
      obtain ⟨o, e, d⟩ := T.obj _ _ st5 b hb
      exact (I7.pin (b, o) (List.mem_append_right _ (List.mem_append_right _ (mem_pinsAt hb e)))).2.1
    cases f with
    | next => obtain ⟨σ7, H7, I7, n7⟩ := q7; exact again I7 n7
    | cont => obtain ⟨σ7, H7, I7, n7⟩ := q7; exact again I7 n7
    | brk => obtain ⟨σ7, H7, I7, q7⟩ := q7; exact ⟨σ7, H7, I7.unpinned, q7⟩
    | ret v => obtain ⟨x7, σ7, H7, I7, r7, q7⟩ := q7; exact ⟨x7, σ7, H7, I7.unpinned, r7, q7⟩
end
end L2
namespace L2
open PySem PySem.Spec PyProof.Rows
noncomputable abbrev R2 := V → V → Hp → VK → Prop
noncomputable def OpR (X : Cx) (f : Value → Value → Sem Value) (r : R2) : Prop :=
  ∀ (pins : List (Addr × Obj)) (s : Shared) (σ : St) (H : Hp) (x y : V) (v u : Value) (Q : VK), Inv X pins σ H s → RelV x v → RelV y u → r x y H Q →
    wpAny (model X.prog X.w) X.A (f v u) (EP X pins σ Q) X.xe s
noncomputable def UnR (X : Cx) (f : Value → Sem Value) (r : V → Hp → VK → Prop) : Prop :=
  ∀ (pins : List (Addr × Obj)) (s : Shared) (σ : St) (H : Hp) (x : V) (v : Value) (Q : VK), Inv X pins σ H s → RelV x v → r x H Q →
    wpAny (model X.prog X.w) X.A (f v) (EP X pins σ Q) X.xe s
noncomputable def CallR (X : Cx) (f : Value) (r : List V → Hp → VK → Prop) : Prop :=
  ∀ (pins : List (Addr × Obj)) (s : Shared) (σ : St) (H : Hp) (xs : List V) (us : List Value) (Q : VK), Inv X pins σ H s → Vals xs us → r xs H Q →
    wpAny (model X.prog X.w) X.A (call f us) (EP X pins σ Q) X.xe s
noncomputable def TruR (X : Cx) (r : V → Hp → (Bool → Hp → Prop) → Prop) : Prop :=
  ∀ (pins : List (Addr × Obj)) (s : Shared) (σ : St) (H : Hp) (x : V) (v : Value) (Q : Bool → Hp → Prop), Inv X pins σ H s → RelV x v → r x H Q →
    wpAny (model X.prog X.w) X.A (truthy v) (TP X pins σ Q) X.xe s
noncomputable def tOp (r : R2) (ta tb : TE) : TE := fun σ H Q => ta σ H fun x H1 => tb σ H1 fun y H2 => r x y H2 Q
noncomputable def tUn (r : V → Hp → VK → Prop) (ta : TE) : TE := fun σ H Q => ta σ H fun x H1 => r x H1 Q
noncomputable def rI (C : Int → Int → Prop) (g : Int → Int → V) : R2 := fun x y H Q => ∃ i j, x = .int i ∧ y = .int j ∧ C i j ∧ Q (g i j) H
noncomputable def rI0 (g : Int → Int → V) : R2 := fun x y H Q => ∃ i j, x = .int i ∧ y = .int j ∧ Q (g i j) H
noncomputable def rU (g : Int → V) : V → Hp → VK → Prop := fun x H Q => ∃ i, x = .int i ∧ Q (g i) H
section
variable {X : Cx} {a b c : Expr} {ta tb tc : TE} {pos : Pos}
theorem binT (ha : PE X a ta) (hb : PE X b tb) {pins : List (Addr × Obj)} {s : Shared} {σ : St} {H : Hp} {R : V → V → Hp → Prop} (I : Inv X pins σ H s)
    (h : ta σ H fun x H1 => tb σ H1 fun y H2 => R x y H2) {Q : Value → Shared → Prop} {f : Value → Value → Sem Value}
    (hf : ∀ v u s2 x y H2, Inv X pins σ H2 s2 → RelV x v → RelV y u → R x y H2 → wpAny (model X.prog X.w) X.A (f v u) Q X.xe s2) :
    wpAny (model X.prog X.w) X.A (eval a X.env) (fun v s₁ => wpAny (model X.prog X.w) X.A (eval b X.env) (fun u s₂ => wpAny (model X.prog X.w) X.A (f v u) Q X.xe s₂) X.xe s₁) X.xe s := by
  refine thn (ha pins s σ H _ I h) fun v s1 ⟨x, H1, I1, r1, q1⟩ => ?_
  refine thn (hb pins s1 σ H1 _ I1 q1) fun u s2 ⟨y, H2, I2, r2, q2⟩ => ?_
  exact hf v u s2 x y H2 I2 r1 r2 q2
theorem pe_op {op : Operator} {r : R2} (ho : OpR X (binaryOp op) r) (ha : PE X a ta) (hb : PE X b tb) : PE X (.BinOp a op b pos) (tOp r ta tb) := by
  intro pins s σ H Q I h
  exact wpAny_BinOp (binT ha hb I h fun v u s2 x y H2 I2 rx ry q => ho pins s2 σ H2 x y v u Q I2 rx ry q)
theorem pe_un {op : UnaryOp} {r : V → Hp → VK → Prop} (ho : UnR X (unaryOp op) r) (ha : PE X a ta) : PE X (.UnaryOp op a pos) (tUn r ta) := by
  intro pins s σ H Q I h
  exact UnaryOp_ (thn (ha pins s σ H _ I h) fun v s1 ⟨x, H1, I1, r1, q1⟩ => ho pins s1 σ H1 x v Q I1 r1 q1)
theorem opI {f : Value → Value → Sem Value} {C : Int → Int → Prop} {g : Int → Int → Int}
    (rule : ∀ (i j : Int) (t u : Tok) (s : Shared) (Q : Value → Shared → Prop) (E : Value → Shared → Prop), C i j → Q (.int (g i j) s.toks) { s with toks := s.toks + 1 } → wpAny (model X.prog X.w) X.A (f (.int i t) (.int j u)) Q E s) :
    OpR X f (rI C fun i j => .int (g i j)) := by
  intro pins s σ H x y v u Q I rx ry h
  obtain ⟨i, j, rfl, rfl, hc, q⟩ := h
  obtain ⟨t, rfl⟩ := rx
  obtain ⟨t', rfl⟩ := ry
  exact rule i j t t' s _ _ hc ⟨.int (g i j), H, I.tok _, ⟨_, rfl⟩, q⟩
theorem opI0 {f : Value → Value → Sem Value} {g : Int → Int → Int}
    (rule : ∀ (i j : Int) (t u : Tok) (s : Shared) (Q : Value → Shared → Prop) (E : Value → Shared → Prop), Q (.int (g i j) s.toks) { s with toks := s.toks + 1 } → wpAny (model X.prog X.w) X.A (f (.int i t) (.int j u)) Q E s) :
    OpR X f (rI0 fun i j => .int (g i j)) := by
  intro pins s σ H x y v u Q I rx ry h
  obtain ⟨i, j, rfl, rfl, q⟩ := h
  obtain ⟨t, rfl⟩ := rx
  obtain ⟨t', rfl⟩ := ry
  exact rule i j t t' s _ _ ⟨.int (g i j), H, I.tok _, ⟨_, rfl⟩, q⟩
theorem opB0 {f : Value → Value → Sem Value} {g : Int → Int → Bool}
    (rule : ∀ (i j : Int) (t u : Tok) (s : Shared) (Q : Value → Shared → Prop) (E : Value → Shared → Prop), Q (.bool (g i j)) s → wpAny (model X.prog X.w) X.A (f (.int i t) (.int j u)) Q E s) :
    OpR X f (rI0 fun i j => .bl (g i j)) := by
  intro pins s σ H x y v u Q I rx ry h
  obtain ⟨i, j, rfl, rfl, q⟩ := h
  obtain ⟨t, rfl⟩ := rx
  obtain ⟨t', rfl⟩ := ry
  exact rule i j t t' s _ _ ⟨.bl (g i j), H, I, rfl, q⟩
noncomputable def CDiv (i j : Int) : Prop := 0 < j ∧ j < 1073741824
noncomputable def CDivN (i j : Int) : Prop := j ≠ 0 ∧ j.natAbs < 1073741824
noncomputable def CPow (i j : Int) : Prop := 0 ≤ j ∧ j ≤ 1000000 ∧ i.natAbs < 2 ^ 64
noncomputable def CMul (i j : Int) : Prop := (-(2 ^ 64) < i ∧ i < 2 ^ 64) ∨ (-(2 ^ 64) < j ∧ j < 2 ^ 64)
theorem CMul.ok {i j : Int} (h : CMul i j) : IntMulOk i j := by
  rcases h with ⟨h1, h2⟩ | ⟨h1, h2⟩
  · exact .of_left (intBits_le_64 h1 h2)
  · exact .of_right (intBits_le_64 h1 h2)
theorem op_add : OpR X (binaryOp .Add) (rI0 fun i j => .int (i + j)) := opI0 fun _ _ _ _ _ _ _ q => add_int q
theorem op_sub : OpR X (binaryOp .Sub) (rI0 fun i j => .int (i - j)) := opI0 fun _ _ _ _ _ _ _ q => sub_int q
theorem op_mul : OpR X (binaryOp .Mult) (rI CMul fun i j => .int (i * j)) := opI fun _ _ _ _ _ _ _ hc q => mul_int q hc.ok
theorem op_fdiv : OpR X (binaryOp .FloorDiv) (rI CDiv fun i j => .int (i / j)) := opI fun i j _ _ _ _ _ hc q => by
  have h1 : (0 : Int) < j := hc.1
  have h2 : j < 1073741824 := hc.2
  exact floordiv_int (by omega) (by rw [Int.fdiv_eq_ediv_of_nonneg i (by omega)]; exact q) (.inl (PyProof.noPylong_small (by omega)))
theorem op_mod : OpR X (binaryOp .Mod) (rI (fun _ j => 0 < j) fun i j => .int (i % j)) := opI fun i j _ _ _ _ _ hc q => by
  have h1 : (0 : Int) < j := hc
  exact mod_int' (by omega) (by rw [Int.fmod_eq_emod_of_nonneg i (by omega)]; exact q)
theorem unI {f : Value → Sem Value} {g : Int → Int}
    (rule : ∀ (i : Int) (t : Tok) (s : Shared) (Q : Value → Shared → Prop) (E : Value → Shared → Prop), Q (.int (g i) s.toks) { s with toks := s.toks + 1 } → wpAny (model X.prog X.w) X.A (f (.int i t)) Q E s) :
    UnR X f (rU fun i => .int (g i)) := by
  intro pins s σ H x v Q I rx h
  obtain ⟨i, rfl, q⟩ := h
  obtain ⟨t, rfl⟩ := rx
  exact rule i t s _ _ ⟨.int (g i), H, I.tok _, ⟨_, rfl⟩, q⟩
theorem un_neg : UnR X (unaryOp .USub) (rU fun i => .int (-i)) := unI fun _ _ _ _ _ q => neg_int q
end
noncomputable def scal : V → V → Bool
  | .non, .non => true | .non, .int _ => true | .int _, .non => true | .non, .bl _ => true | .bl _, .non => true | .non, .str _ => true | .str _, .non => true
  | .int _, .int _ => true | .bl _, .bl _ => true | .str _, .str _ => true | .byt _, .byt _ => true
  | .int _, .str _ => true | .str _, .int _ => true | .bl _, .str _ => true | .str _, .bl _ => true
  | _, _ => false
noncomputable def rEq : R2 := fun x y H Q => scal x y = true ∧ Q (.bl (decide (x = y))) H
noncomputable def rNe : R2 := fun x y H Q => scal x y = true ∧ Q (.bl (!decide (x = y))) H
section
variable {X : Cx} {a b c : Expr} {ta tb tc : TE} {pos : Pos}
theorem fin_bl {pins : List (Addr × Obj)} {σ : St} {H : Hp} {s : Shared} {Q : VK} {k k' : Bool} (I : Inv X pins σ H s) (q : Q (.bl k) H) (e : k = k') : EP X pins σ Q (.bool k') s := by
  subst e
  exact ⟨.bl k, H, I, rfl, q⟩
theorem op_lt : OpR X (compareOp .Lt) (rI0 fun i j => .bl (decide (i < j))) := opB0 fun _ _ _ _ _ _ _ q => lt_int q
theorem op_ge : OpR X (compareOp .GtE) (rI0 fun i j => .bl (decide (j ≤ i))) := opB0 fun _ _ _ _ _ _ _ q => ge_int q
theorem op_in_str : OpR X (compareOp .In) (fun x y H Q => ∃ i j, x = .str i ∧ y = .str j ∧ Q (.bl (!(Builtin.Str.occurrences j i 0 j.length 1).isEmpty)) H) := by
  intro pins s σ H x y v u Q I rx ry h
  obtain ⟨i, j, rfl, rfl, q⟩ := h
  obtain ⟨t, rfl⟩ := rx
  obtain ⟨t', rfl⟩ := ry
  exact in_str (fin_bl I q rfl)
noncomputable def isObj : HO → Bool
  | .lst _ => true
  | .ins _ _ _ => true
  | _ => false
theorem OpR.or {f : Value → Value → Sem Value} {r r' : R2} (h : OpR X f r) (h' : OpR X f r') : OpR X f (fun x y H Q => r x y H Q ∨ r' x y H Q) := by
  intro pins s σ H x y v u Q I rx ry q
  rcases q with q | q
  · exact h pins s σ H x y v u Q I rx ry q
  · exact h' pins s σ H x y v u Q I rx ry q
theorem nomark (b : Expr) {op : CmpOp} (h : op ≠ .In := by decide) (h2 : op ≠ .NotIn := by decide) : behindInMarks op b = false := by
  have e1 : (op == CmpOp.In) = false := by cases op <;> first | rfl | exact absurd rfl h
  have e2 : (op == CmpOp.NotIn) = false := by cases op <;> first | rfl | exact absurd rfl h2
  cases b <;> simp [behindInMarks, e1, e2]
theorem pe_cmpR {op : CmpOp} {r : R2} (ho : OpR X (compareOp op) r) (ha : PE X a ta) (hb : PE X b tb) (hm : behindInMarks op b = false) : PE X (.Compare a [op] [b] pos) (tOp r ta tb) := by
  intro pins s σ H Q I h
  exact wpAny_Compare1 (binT ha hb I h fun v u s2 x y H2 I2 rx ry q => ho pins s2 σ H2 x y v u Q I2 rx ry q) hm
noncomputable def tTest (t : TE) : TT := fun σ H Q => t σ H fun x H' => ∃ k, x = .bl k ∧ Q k H'
theorem pt_cmpR {op : CmpOp} {r : R2} (ho : OpR X (compareOp op) r) (ha : PE X a ta) (hb : PE X b tb) (hm : behindInMarks op b = false) : PT X (.Compare a [op] [b] pos) (tTest (tOp r ta tb)) := by
  intro pins s σ H Q I h
  refine wpAny_isTrue_Compare1 (thn (ha pins s σ H _ I h) fun v s1 ⟨x, H1, I1, r1, q1⟩ => thn (hb pins s1 σ H1 _ I1 q1) fun u s2 ⟨y, H2, I2, r2, q2⟩ =>
    thn (ho pins s2 σ H2 x y v u _ I2 r1 r2 q2) fun c s3 ⟨z, H3, I3, r3, k, e, q3⟩ => ?_) hm
  subst e
  cases r3
  exact wpAny_truthy_bool ⟨H3, I3, q3⟩
noncomputable def tChain (r r' : R2) (ta tb tc : TE) : TE := fun σ H Q => ta σ H fun x H1 => tb σ H1 fun y H2 => r x y H2 fun z H3 => ∃ k, z = .bl k ∧
  (if k = true then tc σ H3 fun w' H4 => r' y w' H4 Q else Q (.bl false) H3)
noncomputable def TruV (K : PySem.W.Frag) (x : V) (H : Hp) (k : Bool) : Prop :=
  match x with
  | .non => k = false
  | .bl b => k = b
  | .int i => k = (i != 0)
  | .str y => y.length ≤ sizeLine ∧ k = ((y.length : Int) != 0)
  | .byt y => y.size ≤ sizeLine ∧ k = ((y.size : Int) != 0)
  | .ref p => (∃ xs, SqL K H p xs ∧ k = !xs.isEmpty) ∨ (∃ xs, SqT K H p xs ∧ k = !xs.isEmpty) ∨ ∃ kvs, H p = some (.dK kvs) ∧ k = !kvs.isEmpty
  | _ => False
theorem isEmpty_kv {κ : Type} {kvs : List (κ × V)} {vs : List (κ × Value)} (r : KV kvs vs) : (!vs.isEmpty) = !kvs.isEmpty := by
  cases r <;> rfl
theorem isEmpty_of {xs : List V} {its : List Value} (r : Vals xs its) : (!its.toArray.isEmpty) = !xs.isEmpty := by
  cases r <;> simp
theorem line63 : (sizeLine : Nat) < 2 ^ 63 := by rw [sizeLine_eq]; decide
theorem tru_ok : TruR X (fun x H Q => ∃ k, TruV X.K x H k ∧ Q k H) := by
  intro pins s σ H x v Q I rx h
  obtain ⟨k, e, q⟩ := h
  have hl := line63
  have hs : sizeLine = 16777216 := sizeLine_eq
  cases x with
  | non =>
    cases rx
    have e' : k = false := e
    subst e'
    exact truthy_none ⟨H, I, q⟩
  | bl b =>
    cases rx
    have e' : k = b := e
    subst e'
    exact wpAny_truthy_bool ⟨H, I, q⟩
  | int i =>
    obtain ⟨t, rfl⟩ := rx
    have e' : k = (i != 0) := e
    subst e'
    exact PySem.P.truthy_int ⟨H, I, q⟩
  | str y =>
    obtain ⟨t, rfl⟩ := rx
    obtain ⟨hy, e'⟩ : y.length ≤ sizeLine ∧ k = ((y.length : Int) != 0) := e
    subst e'
    exact PySem.P.truthy_str (by omega) ⟨H, I.tok _, q⟩
  | byt y =>
    obtain ⟨t, rfl⟩ := rx
    obtain ⟨hy, e'⟩ : y.size ≤ sizeLine ∧ k = ((y.size : Int) != 0) := e
    subst e'
    exact PySem.W.truthy_bytes (by omega) ⟨H, I.tok _, q⟩
  | ref p =>
    cases rx
    have e' : (∃ xs, SqL X.K H p xs ∧ k = !xs.isEmpty) ∨ (∃ xs, SqT X.K H p xs ∧ k = !xs.isEmpty) ∨ ∃ kvs, H p = some (.dK kvs) ∧ k = !kvs.isEmpty := e
    rcases e' with ⟨xs, hx, e'⟩ | ⟨xs, hx, e'⟩ | ⟨kvs, hx, e'⟩
    · subst e'
      obtain ⟨its, r, pl, hz⟩ := I.list hx
      have hlen := r.length
      exact wpAny_truthy_list pl.isList (by simp only [List.size_toArray]; omega) ⟨H, I.tok _, by rw [isEmpty_of r]; exact q⟩
    · subst e'
      obtain ⟨its, r, pl, hz⟩ := I.tuple hx
      have hlen := r.length
      exact truthy_tuple pl (by simp only [List.size_toArray]; omega) ⟨H, I.tok _, by rw [isEmpty_of r]; exact q⟩
    · subst e'
      obtain ⟨hz, hS, vs, r, m⟩ : kvs.length ≤ sizeLine ∧ (p == sysModules) = false ∧ ∃ vs, KV kvs vs ∧ s.heap.DictOf (mixKind X.prog X.w) p vs := I.hok p _ hx
      have hlen : kvs.length = vs.length := Paired.length r
      exact wpAny_truthy_dict hS m (by omega) ⟨H, I.tok _, by rw [isEmpty_kv r]; exact q⟩
  | _ => exact (show False from e).elim
theorem pt_truth (ha : PE X a ta) (he : ∀ whole, isTrue a X.env whole = (do let v ← whole; standAt a.pos; holding [v] (truthy v))) :
    PT X a (fun σ H Q => ta σ H fun x H' => ∃ k, TruV X.K x H' k ∧ Q k H') := by
  intro pins s σ H Q I h
  exact isTrue_plain (thn (ha pins s σ H _ I h) fun v s1 ⟨x, H1, I1, r1, q1⟩ => tru_ok pins s1 σ H1 x v Q I1 r1 q1) (he _)
theorem op_add_str : OpR X (binaryOp .Add) (fun x y H Q => ∃ i j, x = .str i ∧ y = .str j ∧ i.length + j.length ≤ sizeLine ∧ Q (.str (i ++ j)) H) := by
  intro pins s σ H x y v u Q I rx ry h
  obtain ⟨i, j, rfl, rfl, hz, q⟩ := h
  obtain ⟨t, rfl⟩ := rx
  obtain ⟨t', rfl⟩ := ry
  exact add_str (fun t' tk => ⟨.str (i ++ j), H, I.tok _, ⟨_, rfl⟩, q⟩) hz
noncomputable def PlainIxT (b : Expr) : Prop := ∀ o i, subscripted b false o i = operate [o, i] (getItem o i)
theorem vals1 {x : V} {us : List Value} (r : Vals [x] us) : ∃ u, us = [u] ∧ RelV x u := by
  cases r with
  | cons r1 r2 => cases r2; exact ⟨_, rfl, r1⟩
noncomputable def LenV (K : PySem.W.Frag) (x : V) (H : Hp) (n : Nat) : Prop :=
  match x with
  | .str y => y.length ≤ sizeLine ∧ n = y.length
  | .byt y => y.size ≤ sizeLine ∧ n = y.size
  | .ref p => (∃ xs, SqL K H p xs ∧ n = xs.length) ∨ ∃ xs, SqT K H p xs ∧ n = xs.length
  | _ => False
end
end L2
namespace L2
open PySem PySem.Spec PyProof.Rows
structure ObjM (h : Heap) (x dx C : Addr) (mA : Str → Option Value) : Prop where
  obj : h.get? x = some (PySem.W.instObj C dx)
  ns : h.Ns1 dx mA
  ne : dx ≠ x
theorem lookIn_ns {h : Heap} {dx : Addr} {mA : Str → Option Value} (n : h.Ns1 dx mA) : ∃ od, h.get? dx = some od ∧ ∀ name, PySem.W.lookIn name od = some (mA name) := by
  obtain ⟨o, es, ep, ho, hd, hk, _, hm⟩ := n
  refine ⟨o, ho, fun name => ?_⟩
  have e := hm name
  unfold nsFind findBy at e
  rw [← Array.find?_toList] at e
  unfold PySem.W.lookIn
  rw [hd]
  dsimp only
  split
  · rename_i y q
    rw [q] at e
    exact congrArg some e
  · rename_i q
    rw [q] at e
    have a : es.toList.any (·.refKey) = false := by
      rw [List.any_eq_false]
      intro y hy
      obtain ⟨z, t, hkey⟩ := hk y (Array.mem_toList_iff.mp hy)
      simp [DictEntry.refKey, hkey]
    have a' : ¬ es.toList.any (·.refKey) = true := by rw [a]; exact Bool.false_ne_true
    rw [if_neg a']
    exact congrArg some e
theorem ObjM.look {h : Heap} {x dx C : Addr} {mA : Str → Option Value} (I : ObjM h x dx C mA) : ∃ od, PySem.W.InstAt h x (PySem.W.instObj C dx) C (some od) ∧ ∀ name, PySem.W.lookIn name od = some (mA name) :=
  let ⟨od, ho, hl⟩ := lookIn_ns I.ns
  ⟨od, ⟨I.obj, rfl, rfl, ho⟩, hl⟩
section
variable {prog : Program} {w : World} {A : Around} {E : Value → Shared → Prop} {s : Shared} {K : PySem.W.Frag} {x dx C f : Addr} {mA : Str → Option Value} {name : Str} {v : Value}
theorem get_map {expr : Bool} {Q : Value → Shared → Prop} (X : K.In s.heap) (I : ObjM s.heap x dx C mA) (hg : PySem.W.plainGet K C name = true) (hh : PySem.W.hasDictIn K C = true)
    (ha : PySem.W.findIn K (.ref C) name = some none) (hv : mA name = some v) (hv' : PySem.W.handedIn v = true) (h : Q v { s with toks := s.toks + 1 }) :
    wpAny (model prog w) A (getAttr (.ref x) name expr) Q E s := by
  obtain ⟨od, J, hl⟩ := I.look
  exact PySem.W.get_value X J (PySem.W.plainGet_of hg).1 (PySem.W.findObj_own hh ha rfl (by rw [hl, hv])) hv' h
theorem get_meth {pl : Sem Bool} {Q : Value × List Value → Shared → Prop} (X : K.In s.heap) (I : ObjM s.heap x dx C mA) (hg : PySem.W.plainGet K C name = true)
    (hf : PySem.W.findIn K (.ref C) name = some (some (.ref f))) (ht : PySem.W.isFn K (.ref f) = true) (hv : mA name = none) (h : Q (.ref f, [.ref x]) s) :
    wpAny (model prog w) A (getMethod (.ref x) name pl) Q E s := by
  obtain ⟨od, J, hl⟩ := I.look
  exact PySem.W.method_fn X J (PySem.W.plainGet_of hg).1 (PySem.W.plainGet_of hg).2 hf (beq_iff_eq.mp ht) (by show (PySem.W.lookIn name od).map (·.isSome) = some false; rw [hl, hv]; rfl) h
theorem set_map {ns : List Str} {Q : Unit → Shared → Prop} (X : K.In s.heap) (I : ObjM s.heap x dx C mA)
    (hs : PySem.W.findIn K (.ref C) "__setattr__" = some (some (.builtin "object.__setattr__"))) (hp : PySem.W.plainOver K C = true) (ht : PySem.W.takerIn K C name = some none) (hh : PySem.W.hasDictIn K C = true)
    (hw : PySem.Within mA ns) (hsz : ns.length ≤ sizeLine)
    (h : ∀ h', ObjM h' x dx C (fun y => if y = name then some v else mA y) → Heap.SameBut dx s.heap h' → Q () { s with heap := h', toks := s.toks + 2 }) :
    wpAny (model prog w) A (setAttr (.ref x) name v) Q E s := by
  obtain ⟨od, J, hl⟩ := I.look
  refine PySem.W.set_plain X J hs (PySem.W.osa_open (s := { s with toks := s.toks + 1 }) (r := none) X J hp ht fun b => ?_)
  obtain ⟨cd, hc, hd'⟩ := PySem.W.any_some hh
  have hx : s.heap.get? x = some ⟨.ref C, some dx, .plain, #[]⟩ := I.obj
  refine wpAny_bind (wpAny_pure (wpAny_bind (wpAny_bind (wpAny_loadPart hx (wpAny_bind (PySem.W.Looks.here (s := { s with toks := s.toks + 1 }) (PySem.W.looks_clsIn X hc) ?_))))))
  rw [hd']
  refine wpAny_pure (a := some dx) (wpAny_bind (wpAny_pure (wpAny_bind ?_)))
  refine wpAny_nsSet1 (s := { s with toks := s.toks + 1 }) I.ns fun h' hn2 hs2 => ?_
  obtain ⟨oD, esD, epD, hoD, hdD, hcD⟩ := hn2.count (PySem.Within.cons name v hw)
  refine wpAny_bind (wpAny_lookBehind hoD (by rw [hdD]; exact pastItsLine_dict (Nat.le_trans hcD (by rw [List.length_cons]; omega))) ?_)
  exact wpAny_pure (h _ ⟨(hs2.2 _ (Ne.symm I.ne)).trans I.obj, hn2, I.ne⟩ hs2)
theorem make_map {R : Result → Shared → Prop} {vs : List Value} {kw : List (Str × Value)} (X : K.In s.heap) (hm : PySem.W.makesIn K C = true)
    (hi : PySem.W.findIn K (.ref C) "__init__" = some (some (.ref f))) (hf : PySem.W.typeIn K (.ref f) = some (.type "function"))
    (h : codeAny (model prog w) (A.under (.builtin "type.__call__" ⟨.ref C :: vs, kw⟩)) (.call (.ref f) ⟨.ref (s.heap.objs.size + 1) :: vs, kw⟩) (PySem.W.InitBack (s.heap.objs.size + 1) R)
      { s with heap := (s.heap.push PySem.W.emptyDict).push (PySem.W.instObj C s.heap.objs.size) }) :
    codeAny (model prog w) A (.call (.ref C) ⟨vs, kw⟩) R s := by
  obtain ⟨hh, g, d, t, os⟩ := s
  exact PySem.W.make_core (PySem.W.makes_of X hm) (PySem.W.looks_findIn X hi) (fun self => PySem.W.bind_fn X self hf) (.inl rfl) h
end
noncomputable def putF (f : Str) (v : V) : List (Str × V) → List (Str × V)
  | [] => [(f, v)]
  | (g, x) :: r => if g = f then (g, v) :: r else (g, x) :: putF f v r
theorem lookup_putF (f g : Str) (v : V) : ∀ fs : List (Str × V), (putF f v fs).lookup g = if g = f then some v else fs.lookup g
  | [] => by
    show List.lookup g [(f, v)] = _
    by_cases h : g = f
    · have hb : (g == f) = true := beq_iff_eq.mpr h
      simp only [List.lookup, hb, if_pos h]
    · have hb : (g == f) = false := beq_eq_false_iff_ne.mpr h
      simp only [List.lookup, hb, if_neg h]
  | (k, x) :: r => by
    have ih := lookup_putF f g v r
    rw [show putF f v ((k, x) :: r) = (if k = f then (k, v) :: r else (k, x) :: putF f v r) from rfl]
    by_cases hk : k = f
    · rw [if_pos hk]
      by_cases h : g = k
      · have hb : (g == k) = true := beq_iff_eq.mpr h
        simp only [List.lookup, hb, if_pos (h.trans hk)]
      · have hb : (g == k) = false := beq_eq_false_iff_ne.mpr h
        simp only [List.lookup, hb, if_neg (fun e : g = f => h (e.trans hk.symm))]
    · rw [if_neg hk]
      by_cases h : g = k
      · have hb : (g == k) = true := beq_iff_eq.mpr h
        simp only [List.lookup, hb, if_neg (fun e : g = f => hk (h.symm.trans e))]
      · have hb : (g == k) = false := beq_eq_false_iff_ne.mpr h
        simp only [List.lookup, hb]
        exact ih
theorem keys_putF (f : Str) (v : V) : ∀ fs : List (Str × V), f ∈ (putF f v fs).map (·.1) ∧ ∀ g, g ∈ fs.map (·.1) → g ∈ (putF f v fs).map (·.1)
  | [] => ⟨by simp [putF], fun g h => by simp at h⟩
  | (k, x) :: r => by
    obtain ⟨i1, i2⟩ := keys_putF f v r
    rw [show putF f v ((k, x) :: r) = (if k = f then (k, v) :: r else (k, x) :: putF f v r) from rfl]
    by_cases hk : k = f
    · rw [if_pos hk]
      subst hk
      exact ⟨by simp, fun g h => by simpa using h⟩
    · rw [if_neg hk]
      refine ⟨?_, fun g h => ?_⟩
      · rw [List.map_cons]
        exact List.mem_cons_of_mem _ i1
      · rw [List.map_cons] at h ⊢
        rcases List.mem_cons.mp h with e | e
        · exact List.mem_cons.mpr (.inl e)
        · exact List.mem_cons_of_mem _ (i2 g e)
theorem length_putF (f : Str) (v : V) : ∀ fs : List (Str × V), (putF f v fs).length ≤ fs.length + 1
  | [] => by simp [putF]
  | (k, x) :: r => by
    have ih := length_putF f v r
    rw [show putF f v ((k, x) :: r) = (if k = f then (k, v) :: r else (k, x) :: putF f v r) from rfl]
    by_cases hk : k = f
    · rw [if_pos hk, List.length_cons, List.length_cons]; omega
    · rw [if_neg hk, List.length_cons, List.length_cons]; omega
theorem RelO.some_of {v : V} {o : Option Value} (r : RelO (some v) o) : ∃ u, o = some u ∧ RelV v u := by
  cases o with
  | none => exact (show False from r).elim
  | some u => exact ⟨u, rfl, r⟩
theorem RelO.none_of {o : Option Value} (r : RelO none o) : o = none := by
  cases o with
  | none => rfl
  | some u => exact (show False from r).elim
theorem handed_of {v : V} {u : Value} (r : RelV v u) : PySem.W.handedIn u = true := by
  cases v with
  | non => cases (show u = Value.none from r); rfl
  | bl b => cases (show u = Value.bool b from r); rfl
  | int i => obtain ⟨t, e⟩ := (show ∃ t, u = Value.int i t from r); cases e; rfl
  | str x => obtain ⟨t, e⟩ := (show ∃ t, u = Value.str x t from r); cases e; rfl
  | byt b => obtain ⟨t, e⟩ := (show ∃ t, u = Value.bytes b t from r); cases e; rfl
  | flt b => obtain ⟨t, e⟩ := (show ∃ t, u = Value.float b t from r); cases e; rfl
  | ref a => cases (show u = Value.ref a from r); rfl
  | ty n => cases (show u = Value.type n from r); rfl
section
variable {P : Program} {w : World} {H H' : Hp} {h h' : Heap} {a C dx : Addr} {fs fs' : List (Str × V)}
theorem ins_get (hok : HOk P w H h) (e : H a = some (.ins C dx fs)) : ∃ mA, ObjM h a dx C mA ∧ (∀ f, RelO (fs.lookup f) (mA f)) ∧ PySem.Within mA (fs.map (·.1)) ∧ fs.length ≤ 1000 ∧ H dx = some (.own a) := by
  obtain ⟨d, z, ne, ob, mA, n, r, q⟩ := (show ObjOk P w H h a (.ins C dx fs) from hok a _ e)
  exact ⟨mA, ⟨ob, n, ne⟩, r, q, z, d⟩
end
structure Cls (K : PySem.W.Frag) (C : Addr) : Prop where
  pg : PySem.W.plainGet K C Str.empty = true
  hd : PySem.W.hasDictIn K C = true
  po : PySem.W.plainOver K C = true
  sa : PySem.W.findIn K (.ref C) "__setattr__" = some (some (.builtin "object.__setattr__"))
theorem Cls.get {K : PySem.W.Frag} {C : Addr} (c : Cls K C) (f : Str) : PySem.W.plainGet K C f = true := c.pg
noncomputable def NoAttr (K : PySem.W.Frag) (C : Addr) (f : Str) : Prop := PySem.W.findIn K (.ref C) f = some none
theorem NoAttr.taker {K : PySem.W.Frag} {C : Addr} {f : Str} (n : NoAttr K C f) : PySem.W.takerIn K C f = some none := by
  unfold PySem.W.takerIn
  rw [show PySem.W.findIn K (.ref C) f = some none from n]
  rfl
structure Con (K : PySem.W.Frag) (C : Addr) (f : Str) (v : V) (u : Value) : Prop where
  at_ : PySem.W.findIn K (.ref C) f = some (some u)
  rel : RelV v u
  get : PySem.W.specialIn K u "__get__" = some none
  cp : PySem.W.copiedNames.contains f = false
structure Meth (K : PySem.W.Frag) (C : Addr) (m : Str) (f : Addr) : Prop where
  at_ : PySem.W.findIn K (.ref C) m = some (some (.ref f))
  fn : PySem.W.isFn K (.ref f) = true
  kp : PySem.W.keepIn K (.ref f) = true
section
variable {X : Cx} {pins : List (Addr × Obj)} {σ : St} {H : Hp} {s : Shared} {a C dx : Addr} {fs : List (Str × V)} {f : Str} {v : V} {A : Around} {E : Value → Shared → Prop}
theorem getattr_ok {b : Bool} {Q : Value → Shared → Prop} (I : Inv X pins σ H s) (e : H a = some (.ins C dx fs)) (c : Cls X.K C) (n : NoAttr X.K C f) (l : fs.lookup f = some v)
    (h : ∀ u s', Inv X pins σ H s' → RelV v u → Q u s') : wpAny (model X.prog X.w) A (getAttr (.ref a) f b) Q E s := by
  obtain ⟨mA, O, r, _, _, _⟩ := ins_get I.hok e
  obtain ⟨u, hu, ru⟩ := RelO.some_of (v := v) (o := mA f) (by rw [← l]; exact r f)
  exact get_map I.kIn O (c.get f) c.hd n hu (handed_of ru) (h u _ (I.tok _) ru)
theorem getmeth_ok {m : Str} {g : Addr} {pl : Sem Bool} {Q : Value × List Value → Shared → Prop} (I : Inv X pins σ H s) (e : H a = some (.ins C dx fs)) (c : Cls X.K C) (k : Meth X.K C m g) (l : fs.lookup m = none)
    (h : Q (.ref g, [.ref a]) s) : wpAny (model X.prog X.w) A (getMethod (.ref a) m pl) Q E s := by
  obtain ⟨mA, O, r, _, _, _⟩ := ins_get I.hok e
  have hn : mA m = none := RelO.none_of (by rw [← l]; exact r m)
  exact get_meth I.kIn O (c.get m) k.at_ k.fn hn h
theorem setattr_ok {y : V} {u : Value} {Q : Unit → Shared → Prop} (I : Inv X pins σ H s) (e : H a = some (.ins C dx fs)) (c : Cls X.K C) (n : NoAttr X.K C f) (hl : fs.length < 1000) (ry : RelV y u)
    (h : ∀ s', Inv X pins σ (upd H a (.ins C dx (putF f y fs))) s' → Q () s') : wpAny (model X.prog X.w) A (setAttr (.ref a) f u) Q E s := by
  obtain ⟨mA, O, r, wi, _, ho⟩ := ins_get I.hok e
  have hz : (fs.map (·.1)).length ≤ sizeLine := by rw [List.length_map, sizeLine_eq]; omega
  refine set_map I.kIn O c.sa c.po n.taker c.hd wi hz fun h' O' sb => h _ ?_
  have hd : ∃ o, h'.get? dx = some o := let ⟨o, _, _, e', _⟩ := O'.ns; ⟨o, e'⟩
  refine I.write (x := a) (e := dx) (by rw [e]; exact True.intro) (.inr ho) (fun b q hb z => (sb.2 b hb).trans z) hd ?_
  refine ⟨by rw [upd_ne O.ne]; exact ho, ?_, O.ne, O'.obj, _, O'.ns, fun g => ?_, fun g hg => ?_⟩
  · have := length_putF f y fs; omega
  · show RelO ((putF f y fs).lookup g) (if g = f then some u else mA g)
    rw [lookup_putF]
    by_cases q : g = f
    · rw [if_pos q, if_pos q]; exact ry
    · rw [if_neg q, if_neg q]; exact r g
  · by_cases q : g = f
    · rw [q]; exact (keys_putF f y fs).1
    · refine (keys_putF f y fs).2 g (wi g fun z => hg ?_)
      show (if g = f then some u else mA g) = none
      rw [if_neg q]; exact z
theorem Inv.made (I : Inv X pins σ H s) : Inv X pins σ (upd (upd H s.heap.objs.size (.own (s.heap.objs.size + 1))) (s.heap.objs.size + 1) (.ins C s.heap.objs.size []))
    { s with heap := (s.heap.push PySem.W.emptyDict).push (PySem.W.instObj C s.heap.objs.size) } := by
  have e1 : (s.heap.push PySem.W.emptyDict).get? s.heap.objs.size = some PySem.W.emptyDict := Heap.get?_push_size s.heap rfl
  have e2 : ((s.heap.push PySem.W.emptyDict).push (PySem.W.instObj C s.heap.objs.size)).get? (s.heap.objs.size + 1) = some (PySem.W.instObj C s.heap.objs.size) := by
    have := Heap.get?_push_size (s.heap.push PySem.W.emptyDict) (o := PySem.W.instObj C s.heap.objs.size) rfl
    rwa [Heap.size_push] at this
  have e3 : (s.heap.push PySem.W.emptyDict).Ns s.heap.objs.size (fun _ => none) := ⟨PySem.W.emptyDict, #[], _, e1, rfl, (fun e he => absurd he (by simp)), fun _ => rfl⟩
  have I1 := I.laid (a := s.heap.objs.size) (o := .own (s.heap.objs.size + 1)) (h' := s.heap.push PySem.W.emptyDict) (t' := s.toks) (fun b u q => Heap.get?_push_of_some _ q) (Nat.le_refl _) ⟨_, e1⟩
  refine I1.laid (a := s.heap.objs.size + 1) (o := .ins C s.heap.objs.size []) (t' := s.toks) (fun b u q => Heap.get?_push_of_some _ q) (Nat.le_of_eq (Heap.size_push _ _)) ?_
  have ne : s.heap.objs.size ≠ s.heap.objs.size + 1 := Nat.ne_of_lt (Nat.lt_succ_self _)
  refine ⟨by rw [upd_ne ne, upd_same], Nat.zero_le _, ne, e2, fun _ => none, (Heap.Ns1.of_empty e3).at fun o q => Heap.get?_push_of_some _ q, fun _ => True.intro, fun y hy => absurd rfl hy⟩
theorem attr_of {prog : Program} {w : World} {env : Env} {e : Expr} {f : Str} {pos : Pos} {s : Shared} {Q : Value → Shared → Prop} (hb : attributeBase e f env (eval e env) = eval e env)
    (h : wpAny (model prog w) A (eval e env) (fun o s₁ => wpAny (model prog w) A (getAttr o f true) Q E s₁) E s) : wpAny (model prog w) A (eval (.Attribute e f pos) env) Q E s :=
  Attribute_any_ h (by rw [arm_eval_Attribute, hb])
end
noncomputable def tFld (K : PySem.W.Frag) (ta : TE) (f : Str) : TE := fun σ H Q => ta σ H fun x H1 => ∃ a C dx fs v, x = .ref a ∧ H1 a = some (.ins C dx fs) ∧ Cls K C ∧ NoAttr K C f ∧ fs.lookup f = some v ∧ Q v H1
noncomputable def tCon (K : PySem.W.Frag) (ta : TE) (f : Str) : TE := fun σ H Q => ta σ H fun x H1 => ∃ a C dx fs v u, x = .ref a ∧ H1 a = some (.ins C dx fs) ∧ Cls K C ∧ Con K C f v u ∧ fs.lookup f = none ∧ Q v H1
noncomputable def sFld (K : PySem.W.Frag) (ta tv : TE) (f : Str) : TS := fun D σ H => tv σ H fun y H1 => ta σ H1 fun x H2 => ∃ a C dx fs, x = .ref a ∧ H2 a = some (.ins C dx fs) ∧ Cls K C ∧ NoAttr K C f ∧ fs.length < 1000 ∧
  D.nx σ (upd H2 a (.ins C dx (putF f y fs)))
noncomputable def InOp (X : Cx) (op : Operator) (rd : V → V → Hp → VK → Prop) : Prop :=
  ∀ (pins : List (Addr × Obj)) (s : Shared) (σ : St) (H : Hp) (x y : V) (u v : Value) (Q : VK), Inv X pins σ H s → RelV x u → RelV y v → rd x y H Q → wpAny (model X.prog X.w) X.A (inplaceOp op u v) (EP X pins σ Q) X.xe s
noncomputable def sFldAug (K : PySem.W.Frag) (ta tv : TE) (rd : V → V → Hp → VK → Prop) (f : Str) : TS := fun D σ H => ta σ H fun x H1 => ∃ a C dx fs v, x = .ref a ∧ H1 a = some (.ins C dx fs) ∧ Cls K C ∧ NoAttr K C f ∧ fs.lookup f = some v ∧
  tv σ H1 fun y H2 => rd v y H2 fun z H3 => ∃ dx' fs', H3 a = some (.ins C dx' fs') ∧ fs'.length < 1000 ∧ D.nx σ (upd H3 a (.ins C dx' (putF f z fs')))
section
variable {X : Cx} {o e value : Expr} {f : Str} {pos pos' tpos : Pos} {ta tv : TE}
theorem pe_fld (he : PE X e ta) (hb : attributeBase e f X.env (eval e X.env) = eval e X.env) : PE X (.Attribute e f pos) (tFld X.K ta f) := by
  intro pins s σ H Q I h
  refine attr_of hb (thn (he pins s σ H _ I h) fun u s1 ⟨x, H1, I1, rx, a, C, dx, fs, v, ex, ea, c, n, l, q⟩ => ?_)
  subst ex
  obtain rfl : u = Value.ref a := rx
  exact getattr_ok I1 ea c n l fun u' s2 I2 ru => ⟨v, H1, I2, ru, q⟩
theorem ps_fld (ha : PE X o ta) (hv : PE X value tv) (hs : swapsWith value (some (.Attribute o f pos')) pos.line X.env = pure false) : PS X (.Assign [.Attribute o f pos'] value pos) (sFld X.K ta tv f) := by
  intro pins s σ H D I h
  refine plainObj_wpAny_Assign_Attribute (thn (hv pins s σ H _ I h) fun u s1 ⟨y, H1, I1, ry, q⟩ => thn (ha pins s1 σ H1 _ I1 q) fun ov s2 ⟨x, H2, I2, rx, a, C, dx, fs, ex, ea, c, n, l, q2⟩ => ?_) hs
  subst ex
  obtain rfl : ov = Value.ref a := rx
  exact setattr_ok I2 ea c n l ry fun s3 I3 => ⟨σ, _, I3, q2⟩
noncomputable def rAdd : V → V → Hp → VK → Prop := fun x y H Q => ∃ i j, x = .int i ∧ y = .int j ∧ Q (.int (i + j)) H
noncomputable def rSub : V → V → Hp → VK → Prop := fun x y H Q => ∃ i j, x = .int i ∧ y = .int j ∧ Q (.int (i - j)) H
end
section
variable {X : Cx} {pins : List (Addr × Obj)} {σ : St} {H : Hp} {s : Shared} {A : Around} {E : Value → Shared → Prop} {Q : Value → Shared → Prop} {c : Value} {b : Bool}
inductive TyOf (K : PySem.W.Frag) (H : Hp) : V → Value → Prop where
  | non : TyOf K H .non (.type "NoneType")
  | bl (x : Bool) : TyOf K H (.bl x) (.type "bool")
  | int (i : Int) : TyOf K H (.int i) (.type "int")
  | str (x : Str) : TyOf K H (.str x) (.type "str")
  | flt (x : UInt64) : TyOf K H (.flt x) (.type "float")
  | lst {a : Addr} {xs : List V} (e : H a = some (.lst xs)) : TyOf K H (.ref a) (.type "list")
  | frz {a : Addr} {o : Obj} {xs : List V} (e : H a = some (.frz o (.lst xs))) : TyOf K H (.ref a) (.type "list")
  | tup {a : Addr} {xs : List V} (e : H a = some (.tup xs)) : TyOf K H (.ref a) (.type "tuple")
  | dK {a : Addr} {kvs : List (Key × V)} (e : H a = some (.dK kvs)) : TyOf K H (.ref a) (.type "dict")
  | dT {a : Addr} {kvs : List (List Key × V)} (e : H a = some (.dT kvs)) : TyOf K H (.ref a) (.type "dict")
  | ins {a C dx : Addr} {fs : List (Str × V)} (e : H a = some (.ins C dx fs)) (cl : Cls K C) (ha : PySem.W.findIn K (.ref C) "__class__" = some (some (.builtin "object.__class__")))
      (hn : PySem.W.specialIn K (.builtin "object.__class__") "__get__" = some (some (.builtin "getset_descriptor.__get__"))) (htk : PySem.W.takesIn K (.builtin "object.__class__") = some true)
      (hm : PySem.W.mroIn K C (.type "object") = some true) : TyOf K H (.ref a) (.ref C)
end
end L2
namespace L2
open PySem PySem.Spec PyProof.Rows
structure Room (k : Nat) (A : Around) : Prop where
  hd : A.handled = none
  dp : A.depth + 3 * k + 5 < recursionLimit
  un : A.units + 16 * k + 200 < cLine
theorem Room.mono {j k : Nat} {A : Around} (r : Room k A) (h : j ≤ k) : Room j A := ⟨r.hd, by have := r.dp; omega, by have := r.un; omega⟩
theorem Room.deeper {k : Nat} {A : Around} (r : Room (k + 1) A) (env : Env) : Room k (A.deeper env) :=
  ⟨r.hd, by have := r.dp; show A.depth + 1 + 3 * k + 5 < _; omega, by have := r.un; show A.units + 3 + 16 * k + 200 < _; omega⟩
theorem make_depth {A : Around} {C : Addr} {us : List Value} {kw : List (Str × Value)} : (A.under (.builtin "type.__call__" ⟨.ref C :: us, kw⟩)).depth = A.depth + 1 := by
  first | rfl | simp [Around.under, Code.weight, Code.isCreation, Code.isGuard, Code.isCaller, Code.frames, Code.isFrame, guardIds]
theorem make_units {A : Around} {C : Addr} {us : List Value} {kw : List (Str × Value)} : (A.under (.builtin "type.__call__" ⟨.ref C :: us, kw⟩)).units = A.units + 1 := by
  first | rfl | simp [Around.under, Code.cUnits, Code.frames, Code.isFrame]
theorem Room.make {k : Nat} {A : Around} (r : Room (k + 1) A) (C : Addr) (us : List Value) (kw : List (Str × Value)) : Room k (A.under (.builtin "type.__call__" ⟨.ref C :: us, kw⟩)) :=
  ⟨r.hd, by have := r.dp; rw [make_depth]; omega, by have := r.un; rw [make_units]; omega⟩
theorem Room.depth {k : Nat} {A : Around} (r : Room k A) : A.depth < recursionLimit := by have := r.dp; omega
theorem Room.units {k : Nat} {A : Around} (r : Room k A) : A.units + 64 < cLine := by have := r.un; omega
noncomputable def tNil : TA := fun _ H Q => Q [] H
noncomputable def tCons (ta : TE) (tr : TA) : TA := fun σ H Q => ta σ H fun x H1 => tr σ H1 fun xs H2 => Q (x :: xs) H2
section
variable {X : Cx} {e : Expr} {es : List Expr} {te : TE} {t : TA} {pos : Pos}
theorem pa_nil : PA X [] tNil := fun _ _ _ _ H Q I h => Calls.spliced_nil ⟨[], H, I, .nil, h⟩
theorem pa_cons (ha : PE X e te) (hr : PA X es t) (hs : starEach (e :: es) X.env = (false, eval e X.env) :: starEach es X.env := by rfl) : PA X (e :: es) (tCons te t) := by
  intro pos pins s σ H Q I h
  rw [hs]
  show wpAny _ _ (spliced ((false, eval e X.env) :: backTo pos (starEach es X.env))) _ _ s
  refine Calls.spliced_cons (thn (ha pins s σ H _ I h) fun u s1 ⟨x, H1, I1, r1, q1⟩ => ?_)
  exact thn (hr pos pins s1 σ H1 _ I1 q1) fun us s2 ⟨xs, H2, I2, r2, q2⟩ => ⟨x :: xs, H2, I2, .cons r1 r2, q2⟩
noncomputable def tTup (t : TA) : TE := fun σ H Q => t σ H fun xs H1 => xs.length ≤ sizeLine ∧ ∀ p, H1 p = none → Q (.ref p) (upd H1 p (.tup xs))
noncomputable def tLst (t : TA) : TE := fun σ H Q => t σ H fun xs H1 => xs.length ≤ sizeLine ∧ ∀ p, H1 p = none → Q (.ref p) (upd H1 p (.lst xs))
theorem pe_tup {x1} (h : PA X es t) : PE X (.Tuple es x1 pos) (tTup t) := by
  intro pins s σ H Q I hq
  refine wpAny_Tuple_spliced (thn (h pos pins s σ H _ I hq) fun us s1 ⟨xs, H1, I1, r, z, q⟩ => ⟨by rw [← r.length]; exact z, ?_⟩)
  have hf : H1 s1.heap.objs.size = none := I1.hok.fresh (Nat.le_refl _)
  refine ⟨.ref s1.heap.objs.size, upd H1 s1.heap.objs.size (.tup xs), I1.laid (t' := s1.toks) (fun b u e => Heap.get?_push_of_some _ e) (Nat.le_refl _) ?_, rfl, q _ hf⟩
  exact ⟨z, us, r, ⟨_, Heap.get?_push_size _ rfl, rfl, _, rfl⟩⟩
theorem pe_lst (h : PA X es t) : PE X (.List es pos) (tLst t) := by
  intro pins s σ H Q I hq
  refine wpAny_List_spliced (thn (h pos pins s σ H _ I hq) fun us s1 ⟨xs, H1, I1, r, z, q⟩ => ⟨by rw [← r.length]; exact z, ?_⟩)
  have hf : H1 s1.heap.objs.size = none := I1.hok.fresh (Nat.le_refl _)
  refine ⟨.ref s1.heap.objs.size, upd H1 s1.heap.objs.size (.lst xs), I1.laid (t' := s1.toks) (fun b u e => Heap.get?_push_of_some _ e) (Nat.le_refl _) ?_, rfl, q _ hf⟩
  exact ⟨z, us, 0, r, Heap.get?_push_size _ rfl⟩
end
noncomputable abbrev Sp := List V → Hp → VK → XK → Prop
noncomputable abbrev CXT := List Env → Hp → Shared → XK → Value → Shared → Prop
structure Env0 (P : Program) (w : World) (K : PySem.W.Frag) (mg : Str → Option Value) (base : Heap) (A : Around) (outer : List Env) (s : Shared) (H : Hp) : Prop where
  frames : A.frames = some outer
  mod : Mod K mg base
  bs : ∀ b o, base.get? b = some o → s.heap.get? b = some o ∧ H b = none
  bsz : base.objs.size ≤ s.heap.objs.size
  funs : s.heap.FunFrames base outer
  frf : ∀ b ∈ frs outer, H b = none
  hok : HOk P w H s.heap
  bare : AllBare s.gens
noncomputable def CE (outer : List Env) (P : Program) (w : World) (H : Hp) (s : Shared) (Q : VK) (u : Value) (s' : Shared) : Prop :=
  ∃ v H', s'.os = s.os ∧ AllBare s'.gens ∧ Un (frs outer) [] H H' s.heap s'.heap ∧ HOk P w H' s'.heap ∧ RelV v u ∧ Q v H'
noncomputable def CR (CX : CXT) (outer : List Env) (P : Program) (w : World) (H : Hp) (s : Shared) (Q : VK) (E : XK) (r : Result) (s' : Shared) : Prop :=
  match r with
  | .ok (.ret u) => CE outer P w H s Q u s'
  | .ok _ => False
  | .error e => CX outer H s E e s'
structure FnOk (P : Program) (w : World) (K : PySem.W.Frag) (mg : Str → Option Value) (base : Heap) (CX : CXT) (k : Nat) (f : Addr) (fd : FuncData) (ps : List Str) (sp : Sp) : Prop where
  len : ∀ vs H Q E, sp vs H Q E → vs.length = ps.length
  run : ∀ (A : Around) (outer : List Env) (s : Shared) (H : Hp) (args : Args) (us : List Value) (vs : List V) (Q : VK) (E : XK), Room k A → Env0 P w K mg base A outer s H → BindsTo s fd args (ps.zip us) → Vals vs us → sp vs H Q E →
    codeAny (model P w) A (.call (.ref f) args) (CR CX outer P w H s Q E) s
theorem FnOk.mono {P : Program} {w : World} {K : PySem.W.Frag} {mg : Str → Option Value} {base : Heap} {CX : CXT} {j k : Nat} {f : Addr} {fd : FuncData} {ps : List Str} {sp : Sp} (F : FnOk P w K mg base CX j f fd ps sp) (h : j ≤ k) :
    FnOk P w K mg base CX k f fd ps sp := ⟨F.len, fun A outer s H args us vs Q E hr => F.run A outer s H args us vs Q E (hr.mono h)⟩
theorem FnOk.imp {P : Program} {w : World} {K : PySem.W.Frag} {mg : Str → Option Value} {base : Heap} {CX : CXT} {k : Nat} {f : Addr} {fd : FuncData} {ps : List Str} {sp sp' : Sp} (F : FnOk P w K mg base CX k f fd ps sp)
    (h : ∀ vs H Q E, sp' vs H Q E → sp vs H Q E) : FnOk P w K mg base CX k f fd ps sp' :=
  ⟨fun vs H Q E q => F.len vs H Q E (h _ _ _ _ q), fun A outer s H args us vs Q E hr he hb hv hs => F.run A outer s H args us vs Q E hr he hb hv (h _ _ _ _ hs)⟩
theorem Env0.make {P : Program} {w : World} {K : PySem.W.Frag} {mg : Str → Option Value} {base : Heap} {A : Around} {outer : List Env} {s : Shared} {H : Hp} (e : Env0 P w K mg base A outer s H) (C : Addr) (us : List Value) (kw : List (Str × Value)) :
    Env0 P w K mg base (A.under (.builtin "type.__call__" ⟨.ref C :: us, kw⟩)) outer s H := ⟨by first | exact e.frames | (simpa [Around.under, Code.envs, Code.isFrame, pushEnvs] using e.frames), e.mod, e.bs, e.bsz, e.funs, e.frf, e.hok, e.bare⟩
section
variable {X : Cx} {pins : List (Addr × Obj)} {σ : St} {H : Hp} {s s' : Shared}
theorem Inv.env0 (I : Inv X pins σ H s) : Env0 X.prog X.w X.K X.mg X.base X.A X.stack s H :=
  ⟨I.ok.frames, I.ok.mod, I.bs, Nat.le_trans I.ok.bsz I.sz, I.stack, I.stkFree, I.hok, I.bare⟩
theorem Inv.after {Q : VK} {u : Value} (I : Inv X pins σ H s) (h : CE X.stack X.prog X.w H s Q u s') : EP X pins σ Q u s' := by
  obtain ⟨v, H', os, bare, un, hok, r, q⟩ := h
  obtain ⟨hh, g, d, t, os'⟩ := s'
  obtain rfl : os' = s.os := os
  exact ⟨v, H', I.call (h' := hh) (g' := g) (d' := d) (t' := t) (ch := []) un hok bare (fun b z => absurd z (by simp)), r, q⟩
end
noncomputable def tCall (sp : Sp) (dvs : List V) (E : XK) (t : TA) : TE := fun σ H Q => t σ H fun vs H1 => sp (vs ++ dvs) H1 Q E
noncomputable def tMeth (C : Addr) (m : Str) (sp : Sp) (dvs : List V) (E : XK) (ta : TE) (t : TA) : TE := fun σ H Q => ta σ H fun x H1 => ∃ a dx fs, x = .ref a ∧ H1 a = some (.ins C dx fs) ∧ fs.lookup m = none ∧
  t σ H1 fun vs H2 => sp (x :: (vs ++ dvs)) H2 Q E
noncomputable def tMake (C : Addr) (sp : Sp) (dvs : List V) (E : XK) (t : TA) : TE := fun σ H Q => t σ H fun vs H1 => ∀ x dx, H1 x = none → H1 dx = none → dx ≠ x →
  sp (.ref x :: (vs ++ dvs)) (upd (upd H1 dx (.own x)) x (.ins C dx [])) (fun v H2 => v = .non ∧ Q (.ref x) H2) E
noncomputable def Binds (K : PySem.W.Frag) (fd : FuncData) (ps : List Str) (ds : List Value) : Prop :=
  ∀ (s : Shared) (us : List Value), K.In s.heap → (us ++ ds).length = ps.length → BindsTo s fd ⟨us, []⟩ (ps.zip (us ++ ds))
theorem Binds.all {K : PySem.W.Frag} {fd : FuncData} {ps : List Str} (h : ∀ us : List Value, us.length = ps.length → bindArgs fd ⟨us, []⟩ = pure (ps.zip us)) : Binds K fd ps [] := fun s us _ hl => by
  rw [List.append_nil] at hl ⊢
  exact .of_eq (h us hl)
noncomputable def Passes (CX : CXT) (X : Cx) (E : XK) : Prop := ∀ (pins : List (Addr × Obj)) (σ : St) (H : Hp) (s : Shared) (e : Value) (s' : Shared), Inv X pins σ H s → CX X.stack H s E e s' → X.xe e s'
section
variable {X : Cx} {CX : CXT} {k : Nat} {f C : Addr} {fd : FuncData} {ps : List Str} {sp : Sp} {dvs : List V} {ds : List Value} {E : XK} {x m : Str} {p pos apos : Pos} {e o : Expr} {es : List Expr} {ta : TE} {t : TA}
theorem run_fn {pins : List (Addr × Obj)} {σ : St} {H : Hp} {s : Shared} {Q : VK} {us : List Value} {vs : List V} (F : FnOk X.prog X.w X.K X.mg X.base CX k f fd ps sp) (hr : Room k X.A) (hb : Binds X.K fd ps ds) (hd : Vals dvs ds) (hx : Passes CX X E)
    (I : Inv X pins σ H s) (r : Vals vs us) (h : sp (vs ++ dvs) H Q E) : wpAny (model X.prog X.w) X.A (call (.ref f) us) (EP X pins σ Q) X.xe s := by
  have r2 : Vals (vs ++ dvs) (us ++ ds) := r.append hd
  have hl : (us ++ ds).length = ps.length := by rw [← r2.length]; exact F.len _ _ _ _ h
  refine wpAny_call (codeAny_mono (F.run X.A X.stack s H ⟨us, []⟩ (us ++ ds) (vs ++ dvs) Q E hr I.env0 (hb s us I.kIn hl) r2 h) fun r s' hq => ?_)
  cases r with
  | error e => exact hx pins σ H s e s' I hq
  | ok fl =>
    cases fl with
    | ret u => exact I.after hq
    | next => exact False.elim hq
    | brk => exact False.elim hq
    | cont => exact False.elim hq
theorem pe_call (F : FnOk X.prog X.w X.K X.mg X.base CX k f fd ps sp) (hr : Room k X.A) (hg : Gl X x) (hm : X.mg x = some (.ref f)) (hk : PySem.W.keepIn X.K (.ref f) = true) (hb : Binds X.K fd ps ds) (hd : Vals dvs ds) (hx : Passes CX X E)
    (ha : PA X (e :: es) t) (hdb : (x == ("__debug__" : Str)) = false := by decide) (he : starEach (e :: es) X.env = (false, eval e X.env) :: starEach es X.env := by rfl) (hpl : (backTo pos (starEach es X.env)).any (·.1) = false := by rfl) :
    PE X (.Call (.Name x p) (e :: es) [] pos) (tCall sp dvs E t) := by
  intro pins s σ H Q I h
  refine wpAny_Call_Name_kw (ld_glob I hg hm ?_ hdb)
  refine PySem.W.callWith_K (h₀ := X.base) I.ok.mod.kin hk (thn (ha pos pins s σ H _ I h) fun us s1 ⟨vs, H1, I1, r, q⟩ => ⟨I1.kIn, ?_⟩) he hpl
  exact run_fn F hr hb hd hx I1 r q
theorem pe_meth {pl : Sem Bool} (he : PE X o ta) (c : Cls X.K C) (hm : Meth X.K C m f) (F : FnOk X.prog X.w X.K X.mg X.base CX k f fd ps sp) (hr : Room k X.A) (hb : Binds X.K fd ps ds) (hd : Vals dvs ds) (hx : Passes CX X E) (ha : PA X (e :: es) t)
    (hst : starEach (e :: es) X.env = (false, eval e X.env) :: starEach es X.env := by rfl) (hpl : (backTo pos (starEach es X.env)).any (·.1) = false := by rfl)
    (ht : eval (.Call (.Attribute o m apos) (e :: es) [] pos) X.env = (do
      let ov ← eval o X.env
      standAt apos.atName
      let (f, first) ← holding [ov] (getMethod ov m pl)
      callWith pos f first (backTo pos (starEach (e :: es) X.env)) (backToKw pos (keywordEach [] X.env))) := by rfl) :
    PE X (.Call (.Attribute o m apos) (e :: es) [] pos) (tMeth C m sp dvs E ta t) := by
  intro pins s σ H Q I h
  refine PySem.W.methodCall_KW (pl := pl) (thn (he pins s σ H _ I h) fun u s1 ⟨x, H1, I1, rx, a, dx, fs, ex, ea, l, q⟩ => ?_) ht
  subst ex
  obtain rfl : u = Value.ref a := rx
  refine getmeth_ok I1 ea c hm l ?_
  refine PySem.W.callWith_K (first := [.ref a]) (h₀ := X.base) I.ok.mod.kin hm.kp (thn (ha pos pins s1 σ H1 _ I1 q) fun us s2 ⟨vs, H2, I2, r, q2⟩ => ⟨I2.kIn, ?_⟩) hst hpl
  exact run_fn (us := .ref a :: us) (vs := .ref a :: vs) F hr hb hd hx I2 (.cons rfl r) q2
theorem pe_meth0 {pl : Sem Bool} (he : PE X o ta) (c : Cls X.K C) (hm : Meth X.K C m f) (F : FnOk X.prog X.w X.K X.mg X.base CX k f fd ps sp) (hr : Room k X.A) (hb : Binds X.K fd ps ds) (hd : Vals dvs ds) (hx : Passes CX X E)
    (ht : eval (.Call (.Attribute o m apos) [] [] pos) X.env = (do
      let ov ← eval o X.env
      standAt apos.atName
      let (f, first) ← holding [ov] (getMethod ov m pl)
      callWith pos f first (backTo pos (starEach [] X.env)) (backToKw pos (keywordEach [] X.env))) := by rfl) :
    PE X (.Call (.Attribute o m apos) [] [] pos) (tMeth C m sp dvs E ta tNil) := by
  intro pins s σ H Q I h
  refine PySem.W.methodCall_KW (pl := pl) (thn (he pins s σ H _ I h) fun u s1 ⟨x, H1, I1, rx, a, dx, fs, ex, ea, l, q⟩ => ?_) ht
  subst ex
  obtain rfl : u = Value.ref a := rx
  refine getmeth_ok I1 ea c hm l ?_
  exact PySem.W.callWith_K0 (first := [.ref a]) I1.kIn hm.kp (run_fn (us := [.ref a]) (vs := [.ref a]) F hr hb hd hx I1 (.cons rfl .nil) q)
structure Mk (K : PySem.W.Frag) (C f : Addr) : Prop where
  makes : PySem.W.makesIn K C = true
  init : PySem.W.findIn K (.ref C) "__init__" = some (some (.ref f))
  fn : PySem.W.isFn K (.ref f) = true
  kp : PySem.W.keepIn K (.ref C) = true
theorem run_make {pins : List (Addr × Obj)} {σ : St} {H : Hp} {s : Shared} {Q : VK} {us : List Value} {vs : List V} (M : Mk X.K C f) (F : FnOk X.prog X.w X.K X.mg X.base CX k f fd ps sp) (hr : Room (k + 1) X.A) (hb : Binds X.K fd ps ds) (hd : Vals dvs ds)
    (hx : Passes CX X E) (I : Inv X pins σ H s) (r : Vals vs us)
    (h : ∀ x dx, H x = none → H dx = none → dx ≠ x → sp (.ref x :: (vs ++ dvs)) (upd (upd H dx (.own x)) x (.ins C dx [])) (fun v H2 => v = .non ∧ Q (.ref x) H2) E) :
    wpAny (model X.prog X.w) X.A (call (.ref C) us) (EP X pins σ Q) X.xe s := by
  have hq := h (s.heap.objs.size + 1) s.heap.objs.size (I.hok.fresh (Nat.le_succ _)) (I.hok.fresh (Nat.le_refl _)) (Nat.ne_of_lt (Nat.lt_succ_self _))
  have I2 := Inv.made (C := C) I
  have r2 : Vals (V.ref (s.heap.objs.size + 1) :: (vs ++ dvs)) (Value.ref (s.heap.objs.size + 1) :: (us ++ ds)) := .cons rfl (r.append hd)
  have hl : (Value.ref (s.heap.objs.size + 1) :: us ++ ds).length = ps.length := by
    have e := r2.length
    rw [F.len _ _ _ _ hq] at e
    exact e.symm
  refine wpAny_call (make_map (f := f) I.kIn M.makes M.init (beq_iff_eq.mp M.fn) (codeAny_mono (F.run _ X.stack _ _ ⟨Value.ref (s.heap.objs.size + 1) :: us, []⟩ (Value.ref (s.heap.objs.size + 1) :: (us ++ ds)) _ _ E (hr.make C us [])
    (I2.env0.make C us []) (hb _ (Value.ref (s.heap.objs.size + 1) :: us) I2.kIn hl) r2 hq) fun r s' hq' => ?_))
  cases r with
  | error e => exact hx pins σ _ _ e s' I2 hq'
  | ok fl =>
    cases fl with
    | ret u =>
      obtain ⟨v, H', I3, rv, ev, q3⟩ := I2.after hq'
      subst ev
      exact ⟨rv, ⟨V.ref (s.heap.objs.size + 1), H', I3, rfl, q3⟩⟩
    | next => exact False.elim hq'
    | brk => exact False.elim hq'
    | cont => exact False.elim hq'
theorem pe_make (M : Mk X.K C f) (F : FnOk X.prog X.w X.K X.mg X.base CX k f fd ps sp) (hr : Room (k + 1) X.A) (hg : Gl X x) (hm : X.mg x = some (.ref C)) (hb : Binds X.K fd ps ds) (hd : Vals dvs ds) (hx : Passes CX X E)
    (ha : PA X (e :: es) t) (hdb : (x == ("__debug__" : Str)) = false := by decide) (he : starEach (e :: es) X.env = (false, eval e X.env) :: starEach es X.env := by rfl) (hpl : (backTo pos (starEach es X.env)).any (·.1) = false := by rfl) :
    PE X (.Call (.Name x p) (e :: es) [] pos) (tMake C sp dvs E t) := by
  intro pins s σ H Q I h
  refine wpAny_Call_Name_kw (ld_glob I hg hm ?_ hdb)
  refine PySem.W.callWith_K (h₀ := X.base) I.ok.mod.kin M.kp (thn (ha pos pins s σ H _ I h) fun us s1 ⟨vs, H1, I1, r, q⟩ => ⟨I1.kIn, ?_⟩) he hpl
  exact run_make M F hr hb hd hx I1 r q
end
noncomputable def PK (X : Cx) (kws : List Keyword) (t : TA) : Prop :=
  ∀ (pos : Pos) (pins : List (Addr × Obj)) (s : Shared) (σ : St) (H : Hp) (Q : List V → Hp → Prop), Inv X pins σ H s → t σ H Q → wpAny (model X.prog X.w) X.A (evalAll ((backToKw pos (keywordEach kws X.env)).map (·.2))) (AP X pins σ Q) X.xe s
section
variable {X : Cx} {CX : CXT} {k : Nat} {f C : Addr} {fd : FuncData} {ps ks : List Str} {sp : Sp} {E : XK} {x m : Str} {p pos apos kpos : Pos} {e o : Expr} {es : List Expr} {kws : List Keyword} {te ta : TE} {t tk : TA} {nm : Option Str}
structure KBinds (K : PySem.W.Frag) (fd : FuncData) (ps ks : List Str) (g : List Value → List Value → List Value) (gV : List V → List V → List V) : Prop where
  to : ∀ (s : Shared) (us ws : List Value), K.In s.heap → (g us ws).length = ps.length → BindsTo s fd ⟨us, ks.zip ws⟩ (ps.zip (g us ws))
  rel : ∀ {vs : List V} {us : List Value} {zs : List V} {ws : List Value}, Vals vs us → Vals zs ws → Vals (gV vs zs) (g us ws)
noncomputable def tCallK (sp : Sp) (gV : List V → List V → List V) (E : XK) (t tk : TA) : TE := fun σ H Q => t σ H fun vs H1 => tk σ H1 fun zs H2 => sp (gV vs zs) H2 Q E
variable {g : List Value → List Value → List Value} {gV : List V → List V → List V}
end
structure FnScope (N P : List Str) (sc : Scope) : Prop where
  kind : sc.kind = .function
  co : sc.isCoroutine = false
  gen : sc.isGenerator = false
  nd : N.Nodup
  pre : N.take P.length = P
  par : ∀ x ∈ P, sc.names.lookup x = some .local ∨ sc.names.lookup x = some .cell
  nofree : ∀ y ∈ sc.names, y.2 ≠ .free
theorem bindL_out {kindOf : Str → Option NameKind} {x : Str} : ∀ {binds : List (Str × Value)} {m : Str → Option Value}, (∀ v, (x, v) ∉ binds) → bindL kindOf binds m x = m x
  | [], _, _ => rfl
  | (n, v) :: r, m, h => by
    unfold bindL
    rw [bindL_out fun w hw => h w (List.mem_cons_of_mem _ hw)]
    split
    · have : x ≠ n := by rintro rfl; exact h v List.mem_cons_self
      simp [this]
    · rfl
theorem bindC_out {kindOf : Str → Option NameKind} {x : Str} : ∀ {binds : List (Str × Value)} {m : Str → Option Value}, (∀ v, (x, v) ∉ binds) → bindC kindOf binds m x = m x
  | [], _, _ => rfl
  | (n, v) :: r, m, h => by
    unfold bindC
    rw [bindC_out fun w hw => h w (List.mem_cons_of_mem _ hw)]
    split
    · rfl
    · have : x ≠ n := by rintro rfl; exact h v List.mem_cons_self
      simp [this]
theorem bindL_get {kindOf : Str → Option NameKind} {x : Str} {v : Value} : ∀ {P : List Str} {vs : List Value} {i : Nat} {m : Str → Option Value}, P.Nodup → P[i]? = some x → vs[i]? = some v → kindOf x = some .local →
    bindL kindOf (P.zip vs) m x = some v
  | [], _, _, _, _, h, _, _ => by simp at h
  | _ :: _, [], _, _, _, _, h, _ => by simp at h
  | p :: P, w :: vs, 0, m, nd, h1, h2, hk => by
    simp at h1 h2; subst h1; subst h2
    show bindL kindOf ((p, w) :: P.zip vs) m p = _
    unfold bindL
    rw [bindL_out fun v hv => (List.nodup_cons.mp nd).1 (List.of_mem_zip hv).1, if_pos hk]
    simp
  | p :: P, w :: vs, i + 1, m, nd, h1, h2, hk => by
    show bindL kindOf ((p, w) :: P.zip vs) m x = _
    unfold bindL
    exact bindL_get (i := i) (List.nodup_cons.mp nd).2 (by simpa using h1) (by simpa using h2) hk
theorem bindC_get {kindOf : Str → Option NameKind} {x : Str} {v : Value} : ∀ {P : List Str} {vs : List Value} {i : Nat} {m : Str → Option Value}, P.Nodup → P[i]? = some x → vs[i]? = some v → kindOf x ≠ some .local →
    bindC kindOf (P.zip vs) m x = some v
  | [], _, _, _, _, h, _, _ => by simp at h
  | _ :: _, [], _, _, _, _, h, _ => by simp at h
  | p :: P, w :: vs, 0, m, nd, h1, h2, hk => by
    simp at h1 h2; subst h1; subst h2
    show bindC kindOf ((p, w) :: P.zip vs) m p = _
    unfold bindC
    rw [bindC_out fun v hv => (List.nodup_cons.mp nd).1 (List.of_mem_zip hv).1, if_neg hk]
    simp
  | p :: P, w :: vs, i + 1, m, nd, h1, h2, hk => by
    show bindC kindOf ((p, w) :: P.zip vs) m x = _
    unfold bindC
    exact bindC_get (i := i) (List.nodup_cons.mp nd).2 (by simpa using h1) (by simpa using h2) hk
noncomputable def start (N : List Str) (vs : List V) : St := vs.map some ++ List.replicate (N.length - vs.length) none
noncomputable def cxOf (CX : CXT) (P : Program) (w : World) (K : PySem.W.Frag) (mg : Str → Option Value) (base : Heap) (N : List Str) (qual : Str) (scope : Scope) (f : Addr) (cd : Value) (A : Around) (outer : List Env) (s : Shared) (H : Hp) (E : XK) : Cx where
  prog := P
  w := w
  K := K
  mg := mg
  base := base
  A := A.deeper (envOfC qual scope s.heap.objs.size f cd)
  N := N
  s₀ := s
  H₀ := H
  env := envOfC qual scope s.heap.objs.size f cd
  outer := outer
  stack := envOfC qual scope s.heap.objs.size f cd :: outer
  ex := []
  calm := true
  fn := fun _ => true
  pn := []
  xe := fun e s' => wpAny (model P w) (A.deeper (envOfC qual scope s.heap.objs.size f cd)) (leaving (envOfC qual scope s.heap.objs.size f cd) e) (fun _ s'' => CX outer H s E e s'') (fun e' s'' => CX outer H s E e' s'') s'
theorem cell_has {sc : Scope} {n : Nat} {x : Str} (h : sc.names.lookup x = some .cell) : ∃ c, (cellsFrom n sc.names []).lookup x = some c := by
  have q := PySem.W.cellsFrom_some sc.names n [] (.inl h)
  exact Option.isSome_iff_exists.mp q
theorem inv_start {CX : CXT} {P : Program} {w : World} {K : PySem.W.Frag} {mg : Str → Option Value} {base : Heap} {N ps : List Str} {qual : Str} {scope : Scope} {f : Addr} {cd : Value} {A : Around} {outer : List Env} {s s1 : Shared} {H : Hp} {E : XK} {us : List Value} {vs : List V}
    (S : FnScope N ps scope) (hd : A.handled = none) (e0 : Env0 P w K mg base A outer s H) (hl : vs.length = ps.length) (r : Vals vs us)
    (x : InCallC s s.heap.objs.size (bindL (envOfC qual scope s.heap.objs.size f cd).kindOf (ps.zip us) fun _ => none) (cellsFrom (s.heap.objs.size + 1) scope.names []) (bindC (envOfC qual scope s.heap.objs.size f cd).kindOf (ps.zip us) fun _ => none) s1) :
    Inv (cxOf CX P w K mg base N qual scope f cd A outer s H E) [] (start N vs) H s1 := by
  have hpl : ps.length ≤ N.length := by have := congrArg List.length S.pre; rw [List.length_take] at this; omega
  obtain ⟨h1, tk, rfl, hk⟩ := x.done
  have noA : ∀ b : Addr, b ∉ (cxOf CX P w K mg base N qual scope f cd A outer s H E).ex := fun b z => absurd (show b ∈ ([] : List Addr) from z) (by simp)
  refine ⟨⟨e0.mod, S.kind, rfl, rfl, Nat.le_refl _, fun y z c h1 h2 => ?_, fun y hy => ?_, fun y c _ h => ?_, fun _ => hd, Around.frames_deeper e0.frames, .inr ⟨rfl, rfl⟩, fun b z => absurd z (noA b), e0.bs, e0.bsz, fun b _ _ => noA b, fun b z => absurd z (noA b), e0.funs, e0.frf⟩,
    rfl, e0.bare, Un.kept hk, ⟨_, x.toInCall.ns, fun i y v h1 h2 h3 => ?_⟩, fun y c h => ⟨_, x.cell y c h⟩, e0.hok.fresh (Nat.le_refl _), fun y c h => ?_, fun p hp => absurd (show p ∈ ([] : List (Addr × Obj)) from hp) (by simp), e0.hok.kept hk, ?_⟩
  · exact name_of_addr x.apart (PySem.mem_of_lookup h1) (PySem.mem_of_lookup h2)
  · have hy : scope.names.lookup y = some .cell ∨ scope.names.lookup y = some .free := hy
    rcases hy with hy | hy
    · exact cell_has hy
    · exact absurd rfl (S.nofree _ (PySem.mem_of_lookup hy))
  · exact Nat.le_of_lt (x.above y c (PySem.mem_of_lookup h))
  · have hi : i < vs.length := by
      unfold start at h2
      by_cases hi : i < vs.length
      · exact hi
      · rw [List.getElem?_append_right (by simpa using hi)] at h2
        rw [List.getElem?_replicate] at h2
        split at h2 <;> cases h2
    have ha : vs[i]? = some v := by
      unfold start at h2
      rw [List.getElem?_append_left (by simpa using hi), List.getElem?_map] at h2
      cases e : vs[i]? with
      | none => rw [e] at h2; cases h2
      | some a => rw [e] at h2; cases h2; rfl
    obtain ⟨u, hu, rv⟩ := r.get ha
    have hp : ps[i]? = some y := by
      rw [← S.pre, List.getElem?_take_of_lt (by omega)]; exact h1
    have ndP : ps.Nodup := by rw [← S.pre]; exact S.nd.sublist (List.take_sublist _ _)
    refine ⟨u, rv, ?_⟩
    rcases S.par y (List.mem_of_getElem? hp) with k | k
    · exact .inl ⟨k, bindL_get ndP hp hu k⟩
    · obtain ⟨c, e⟩ := cell_has (n := s.heap.objs.size + 1) k
      refine .inr ⟨.inl k, c, e, ?_⟩
      have q := x.cell y c e
      rw [bindC_get ndP hp hu (by show scope.names.lookup y ≠ _; rw [k]; decide)] at q
      exact q
  · exact e0.hok.fresh (Nat.le_of_lt (x.above y c (PySem.mem_of_lookup h)))
  · unfold start
    show _ = N.length
    rw [List.length_append, List.length_map, List.length_replicate]
    omega
theorem fn_of {CX : CXT} {P : Program} {w : World} {K : PySem.W.Frag} {mg : Str → Option Value} {base : Heap} {k : Nat} {f : Addr} {name qual : Str} {params : Arguments} {body : List Stmt} {scope : Scope} {dV kV doc pm cdv ct oc : Value} {an od : Option Addr}
    {osl : Array (Option Value)} {N ps : List Str} {sp : Sp} (lk : K.lookup f = some ⟨oc, od, .func (PySem.W.fnOf name qual params body scope dV kV doc pm an cdv ct), osl⟩) (hcd : PySem.W.codeIn K cdv qual = true) (S : FnScope N ps scope)
    (len : ∀ vs H Q E, sp vs H Q E → vs.length = ps.length)
    (hbody : ∀ (A : Around) (outer : List Env) (s : Shared) (H : Hp) (vs : List V) (Q : VK) (E : XK), Room k (A.deeper (envOfC qual scope s.heap.objs.size f cdv)) → sp vs H Q E →
      ∃ t, PSs (cxOf CX P w K mg base N qual scope f cdv A outer s H E) body t ∧ t { nx := fun _ H' => Q .non H', rt := Q } (start N vs) H) :
    FnOk P w K mg base CX (k + 1) f (PySem.W.fnOf name qual params body scope dV kV doc pm an cdv ct) ps sp := by
  refine ⟨len, fun A outer s H args us vs Q E hr e0 hb r hsp => ?_⟩
  have hl := len _ _ _ _ hsp
  have KX : K.In s.heap := e0.mod.kin.keeps fun b o e => (e0.bs b o e).1
  have lim : s.heap.NoLimit := e0.mod.nolimit.keeps fun b o e => (e0.bs b o e).1
  have hkind : ∀ y ∈ ps.zip us, scope.names.lookup y.1 = some .local ∨ (scope.names.lookup y.1 = some .cell ∧ ((cellsFrom (s.heap.objs.size + 1) scope.names []).lookup y.1).isSome = true) := fun ⟨n, v⟩ hy => by
    rcases S.par n (List.of_mem_zip hy).1 with q | q
    · exact .inl q
    · exact .inr ⟨q, PySem.W.cellsFrom_some _ _ _ (.inl q)⟩
  refine codeAny_call_function hr.depth (KX _ _ lk) rfl S.co S.gen rfl (PySem.W.codeRec_of KX hcd) (hb _ _ _ _ ?_)
  refine wpAny_newFunctionEnv_cells S.kind hkind fun env he s1 x => ?_
  subst he
  refine ⟨lim.keeps x.toInCall.keep, codeAny_func ?_⟩
  obtain ⟨t, ht, hq⟩ := hbody A outer s H vs Q E (hr.deeper _) hsp
  have I : Inv (cxOf CX P w K mg base N qual scope f cdv A outer s H E) [] (start N vs) H s1 := inv_start S hr.hd e0 hl r x
  refine wpAny_mono (ht [] s1 (start N vs) H _ I hq) (fun fl s' hs => ?_) fun e s' hs => hs
  have fin : ∀ {σ' : St} {H' : Hp} {v : V} {u : Value}, Inv (cxOf CX P w K mg base N qual scope f cdv A outer s H E) [] σ' H' s' → RelV v u → Q v H' → CE outer P w H s Q u s' :=
    fun {σ' H' v u} J rv q => ⟨v, H', J.os, J.bare, J.base, J.hok, rv, q⟩
  cases fl with
  | ret u =>
    obtain ⟨v, σ', H', J, rv, q⟩ := hs
    exact fin J rv q
  | next =>
    obtain ⟨σ', H', J, q⟩ := hs
    exact fin (v := V.non) (u := Value.none) J rfl q
  | brk =>
    obtain ⟨_, _, _, q⟩ := hs
    exact False.elim q
  | cont =>
    obtain ⟨_, _, _, q⟩ := hs
    exact False.elim q
end L2
namespace L2
open PySem PySem.Spec PyProof.Rows
section
variable {X : Cx} {x : Str} {p pos : Pos} {e : Expr} {es : List Expr} {t : TA} {id T : String} {r : List V → Hp → VK → Prop}
noncomputable def tCB (r : List V → Hp → VK → Prop) (t : TA) : TE := fun σ H Q => t σ H fun vs H1 => r vs H1 Q
theorem pe_callB (hc : CallR X (.builtin id) r) (hg : Gl X x) (hm : X.mg x = none) (hv : bootBuiltins x = some (.builtin id)) (ha : PA X (e :: es) t) (hn : x ≠ "__name__" := by decide) (hdb : (x == ("__debug__" : Str)) = false := by decide)
    (he : starEach (e :: es) X.env = (false, eval e X.env) :: starEach es X.env := by rfl) (hpl : (backTo pos (starEach es X.env)).any (·.1) = false := by rfl) : PE X (.Call (.Name x p) (e :: es) [] pos) (tCB r t) := by
  intro pins s σ H Q I h
  refine wpAny_Call_Name_kw (ld_blt I hg hm hv ?_ hn hdb)
  exact PyProof.Rows.callWith_builtin1 (thn (ha pos pins s σ H _ I h) fun us s1 ⟨vs, H1, I1, r1, q1⟩ => hc pins s1 σ H1 vs us Q I1 r1 q1) he hpl
theorem pe_callTy (hc : CallR X (.type T) r) (hg : Gl X x) (hm : X.mg x = none) (hv : bootBuiltins x = some (.type T)) (ha : PA X (e :: es) t) (hn : x ≠ "__name__" := by decide) (hdb : (x == ("__debug__" : Str)) = false := by decide)
    (he : starEach (e :: es) X.env = (false, eval e X.env) :: starEach es X.env := by rfl) (hpl : (backTo pos (starEach es X.env)).any (·.1) = false := by rfl) : PE X (.Call (.Name x p) (e :: es) [] pos) (tCB r t) := by
  intro pins s σ H Q I h
  refine wpAny_Call_Name_kw (ld_blt I hg hm hv ?_ hn hdb)
  exact PyProof.Rows.callWith_type1 (thn (ha pos pins s σ H _ I h) fun us s1 ⟨vs, H1, I1, r1, q1⟩ => hc pins s1 σ H1 vs us Q I1 r1 q1) he hpl
end
end L2
namespace HT
open PySem PyProof.Rows
noncomputable def lexLt : List Int → List Int → Bool
  | [], [] => false
  | [], _ :: _ => true
  | _ :: _, [] => false
  | x :: xs, y :: ys => if x = y then lexLt xs ys else decide (x < y)
section
open PySem.SeqAt
open PySem.AutoSeq1 (wpAny_loadPart')
open PySem.MeetsSeq PySem.MeetsSeq2 PySem.MeetsSeq3
end
section
variable {prog : Program} {w : World} {A : Around} {E : Value → Shared → Prop} {s : Shared}
theorem cat_tup {t b : Addr} {vs ws : List Value} {Q : Value → Shared → Prop} (ht : IsTup s.heap t vs.toArray) (hb : IsTup s.heap b ws.toArray) (hv : vs ≠ [])
    (h1 : ws = [] → Q (.ref t) s) (h2 : ws ≠ [] → Q (.ref s.heap.objs.size) { s with heap := s.heap.push { cls := .type "tuple", data := .seq (vs ++ ws).toArray } })
    (hsz : vs.length + ws.length ≤ sizeLine) : wpAny (model prog w) A (binaryOp .Add (.ref t) (.ref b)) Q E s := by
  obtain ⟨⟨cls, dd, data, sl⟩, ho, hc, n, hd⟩ := id ht
  obtain ⟨⟨cls2, dd2, data2, sl2⟩, ho2, hc2, n2, hd2⟩ := id hb
  simp only at hc hd hc2 hd2
  subst hc hd hc2 hd2
  have e : vs.toArray ++ ws.toArray = (vs ++ ws).toArray := by simp
  by_cases hw : ws = []
  · exact concat_meets ⟨_, ho, rfl⟩ ⟨_, ho2, rfl⟩ noFill_tuple_add seq_tuple_add PySem.F.slot_tuple_add PySem.F.entry_tuple_add (PySem.F.args_tuple_add_2 _ _)
      (tuple_addW1 t b vs.toArray ws.toArray n n2 dd dd2 sl sl2 (by simpa using hv) (by simp [hw])) ⟨ho, ho2, h1 hw⟩
  · refine concat_meets ⟨_, ho, rfl⟩ ⟨_, ho2, rfl⟩ noFill_tuple_add seq_tuple_add PySem.F.slot_tuple_add PySem.F.entry_tuple_add (PySem.F.args_tuple_add_2 _ _)
      (tuple_addW2 t b vs.toArray ws.toArray n n2 dd dd2 sl sl2 (by simpa using hv) (by simpa using hw) (by rw [List.size_toArray, List.size_toArray]; exact hsz)) ⟨ho, ho2, ?_⟩
    rw [e]
    exact h2 hw
noncomputable def sIx (n d : Nat) : Option Int → Nat
  | none => d
  | some v => if v < 0 then (v + (n : Int)).toNat else min v.toNat n
theorem sIx_le (n d : Nat) (hd : d ≤ n) (o : Option Int) : sIx n d o ≤ n := by
  cases o with
  | none => exact hd
  | some v =>
    show (if v < 0 then (v + (n : Int)).toNat else min v.toNat n) ≤ n
    by_cases hv : v < 0
    · rw [if_pos hv]; omega
    · rw [if_neg hv]; exact Nat.min_le_right _ _
theorem clip_eq (v : Int) (n d : Nat) : (if v < 0 then max (v + (n : Int)) 0 else min v (n : Int)) = ((sIx n d (some v) : Nat) : Int) := by
  show (if v < 0 then max (v + (n : Int)) 0 else min v (n : Int)) = (((if v < 0 then (v + (n : Int)).toNat else min v.toNat n) : Nat) : Int)
  by_cases hv : v < 0
  · simp only [if_pos hv]; omega
  · simp only [if_neg hv]; omega
theorem adjust_gen (lo hi : Option Int) (n : Nat) : Builtin.Slice.sliceAdjust lo hi 1 (n : Int) = (((sIx n 0 lo : Nat) : Int), ((sIx n n hi : Nat) : Int)) := by
  have h1 : ¬ ((1 : Int) < 0) := by omega
  unfold Builtin.Slice.sliceAdjust
  simp only [h1, if_false]
  refine Prod.ext ?_ ?_
  · cases lo with
    | none => rfl
    | some v => exact clip_eq v n 0
  · cases hi with
    | none => rfl
    | some v => exact clip_eq v n n
theorem places_gen (i j : Nat) : Builtin.Slice.slicePlaces (i : Int) (j : Int) 1 = j - i := by
  unfold Builtin.Slice.slicePlaces
  have h1 : (1 : Int) > 0 := by omega
  simp only [h1, if_true, Int.ediv_one]
  split <;> omega
theorem slicePart_ {v : Value} {o : Option Int} {Q : Option Int → Shared → Prop} (p : IsPart v o) (h : Q o s) : wpAny (model prog w) A (Builtin.Slice.slicePartIndex v) Q E s := by
  cases p with
  | none => exact slicePart_none h
  | int i t => exact slicePart_int h
theorem sliceApplied_gen {sl : Addr} {vl vu : Value} {lo hi : Option Int} {n : Nat} {Q : Int × Int × Nat → Shared → Prop} (hs : s.heap.IsSliceOf sl vl vu .none) (pl : IsPart vl lo) (pu : IsPart vu hi)
    (h : Q (((sIx n 0 lo : Nat) : Int), 1, sIx n n hi - sIx n 0 lo) s) : wpAny (model prog w) A (Builtin.Slice.sliceApplied (.ref sl) (pure (n : Int))) Q E s := by
  obtain ⟨os, hos, hcs, hds⟩ := id hs
  unfold Builtin.Slice.sliceApplied Builtin.Slice.sliceFields
  refine wpAny_bind (wpAny_bind (wpAny_field hos hds (x := vl) rfl (wpAny_bind (wpAny_field hos hds (x := vu) rfl (wpAny_bind (wpAny_field hos hds (x := .none) rfl (wpAny_pure ?_)))))))
  refine wpAny_bind (slicePart_none ?_)
  show wpAny _ _ (if ((1 : Int) == 0) = true then _ else _) _ _ s
  rw [if_neg (by decide)]
  refine wpAny_bind (slicePart_ pl (wpAny_bind (slicePart_ pu (wpAny_bind (wpAny_pure ?_)))))
  show wpAny _ _ (match Builtin.Slice.sliceAdjust lo hi 1 (n : Int) with | (lo, hi) => pure (lo, (1 : Int), Builtin.Slice.slicePlaces lo hi 1)) _ _ s
  rw [adjust_gen lo hi n]
  show wpAny _ _ (pure (((sIx n 0 lo : Nat) : Int), (1 : Int), Builtin.Slice.slicePlaces ((sIx n 0 lo : Nat) : Int) ((sIx n n hi : Nat) : Int) 1)) _ _ s
  rw [places_gen]
  exact wpAny_pure h
theorem pick_gen (xs : Array Value) (i k : Nat) : ((List.range k).filterMap fun (m : Nat) => xs[((i : Int) + (m : Int) * 1).toNat]?).toArray = ((xs.toList.drop i).take k).toArray := by
  have e : (fun (m : Nat) => xs[((i : Int) + (m : Int) * 1).toNat]?) = fun m => xs[i + m]? := by
    funext m
    have : ((i : Int) + (m : Int) * 1).toNat = i + m := by omega
    rw [this]
  rw [e]
  have := pick_run xs i k
  rw [List.filterMap_map] at this
  have e2 : ((fun x => xs[x]?) ∘ fun x => i + x) = fun m => xs[i + m]? := rfl
  rw [e2] at this
  rw [this]
theorem getItem_tuple_cut {t sl : Addr} {items : Array Value} {vl vu : Value} {lo hi : Option Int} {Q : Value → Shared → Prop} (ht : IsTup s.heap t items) (hs : s.heap.IsSliceOf sl vl vu .none) (pl : IsPart vl lo) (pu : IsPart vu hi)
    (hw : ¬ (sIx items.size 0 lo = 0 ∧ sIx items.size items.size hi = items.size))
    (h : Q (.ref s.heap.objs.size) { s with heap := s.heap.push { cls := .type "tuple", data := .seq ((items.toList.drop (sIx items.size 0 lo)).take (sIx items.size items.size hi - sIx items.size 0 lo)).toArray } })
    (hsz : items.size ≤ sizeLine) : wpAny (model prog w) A (getItem (.ref t) (.ref sl)) Q E s := by
  have htake : sizeOk (.seq ((items.toList.drop (sIx items.size 0 lo)).take (sIx items.size items.size hi - sIx items.size 0 lo)).toArray) := by
    show ((items.toList.drop (sIx items.size 0 lo)).take (sIx items.size items.size hi - sIx items.size 0 lo)).toArray.size ≤ sizeLine
    rw [List.size_toArray, List.length_take, List.length_drop, Array.length_toList]
    omega
  have hj : sIx items.size items.size hi ≤ items.size := sIx_le _ _ (Nat.le_refl _) hi
  obtain ⟨os, hos, hcs, hds⟩ := id hs
  have hTs : s.TypeIs (.ref sl) "slice" := ⟨os, hos, hcs⟩
  unfold getItem
  try with_reducible refine wpAny_holding ?_
  first | refine wpAny_bind (wpAny_pure ?_) | skip
  refine wpAny_bind (wpAny_sequenceKey ht.typeIs (by decide) ?_)
  refine wpAny_bind (wpAny_callSpecial?_slot (name := Str.ofString "__getitem__") ht.typeIs PyProof.Rows.slot_tuple_getitem
    (wpAny_call_entry PyProof.Rows.slot_tuple_getitem ht.typeIs entry_tuple_getitem ?_ (args_tuple_getitem _ _)))
  show wpAny _ _ (Builtin.Tuple.tupleItemsOf (.ref t) >>= _) _ _ s
  refine wpAny_bind (tupleItemsOf_ ht ?_)
  refine wpAny_bind (wpAny_typeOf hTs ?_)
  rw [if_pos (by decide)]
  refine wpAny_bind (sliceApplied_gen hs pl pu ?_)
  have hno : ¬ ((((sIx items.size 0 lo : Nat) : Int) == 0 && (1 : Int) == 1 && (sIx items.size items.size hi - sIx items.size 0 lo) == items.size) = true) := by
    intro q
    rw [Bool.and_eq_true, Bool.and_eq_true] at q
    have q1 : ((sIx items.size 0 lo : Nat) : Int) = 0 := eq_of_beq q.1.1
    have q2 : sIx items.size items.size hi - sIx items.size 0 lo = items.size := eq_of_beq q.2
    exact hw ⟨by omega, by omega⟩
  show wpAny _ _ (if (((sIx items.size 0 lo : Nat) : Int) == 0 && (1 : Int) == 1 && (sIx items.size items.size hi - sIx items.size 0 lo) == items.size) = true then _ else _) _ _ s
  rw [if_neg hno, pick_gen]
  first
    | exact wpAny_bind (m := Builtin.Tuple.tupleExact _) (wpAny_newObj_type (wpAny_pure ⟨_, rfl, wpAny_pure h⟩) htake)
    | exact wpAny_bind (m := Builtin.Tuple.tupleExact _) (wpAny_newObj_type (wpAny_bind (wpAny_pure (wpAny_pure ⟨_, rfl, wpAny_pure h⟩))) htake)
    | exact wpAny_bind (wpAny_bind (m := Builtin.Tuple.tupleExact _) (wpAny_newObj_type (wpAny_pure (wpAny_pure ⟨_, rfl, wpAny_pure h⟩)) htake))
    | exact wpAny_bind (wpAny_bind (m := Builtin.Tuple.tupleExact _) (wpAny_newObj_type (wpAny_pure ⟨_, rfl, wpAny_pure h⟩) htake))
end
end HT
namespace L2
open PySem PySem.Spec PyProof.Rows
noncomputable abbrev TO := St → Hp → (Option Int → Hp → Prop) → Prop
noncomputable def PO (X : Cx) (e : Option Expr) (t : TO) : Prop :=
  ∀ (pins : List (Addr × Obj)) (s : Shared) (σ : St) (H : Hp) (Q : Option Int → Hp → Prop), Inv X pins σ H s → t σ H Q →
    wpAny (model X.prog X.w) X.A (evalPart e X.env) (fun u s' => ∃ o H', Inv X pins σ H' s' ∧ IsPart u o ∧ Q o H') X.xe s
noncomputable def tNoPart : TO := fun _ H Q => Q none H
noncomputable def tPart (t : TE) : TO := fun σ H Q => t σ H fun x H1 => ∃ i, x = .int i ∧ Q (some i) H1
section
variable {X : Cx} {e : Expr} {te : TE} {lo hi : Option Expr} {tl th : TO} {pos p2 : Pos}
theorem po_none : PO X none tNoPart := by
  intro pins s σ H Q I h
  rw [evalPart_none]
  exact wpAny_pure ⟨none, H, I, .none, h⟩
theorem po_some (h : PE X e te) : PO X (some e) (tPart te) := by
  intro pins s σ H Q I hw
  rw [evalPart_some]
  refine thn (h pins s σ H _ I hw) fun u s1 ⟨x, H1, I1, r1, q1⟩ => ?_
  obtain ⟨i, rfl, q⟩ := q1
  obtain ⟨t, rfl⟩ := r1
  exact ⟨some i, H1, I1, .int i t, q⟩
noncomputable def SlR (X : Cx) (r : V → Option Int → Option Int → Hp → VK → Prop) : Prop :=
  ∀ (pins : List (Addr × Obj)) (s : Shared) (σ : St) (H : Hp) (x : V) (v vl vu : Value) (lo hi : Option Int) (sl : Addr) (Q : VK), Inv X pins σ H s → RelV x v → s.heap.IsSliceOf sl vl vu .none → IsPart vl lo → IsPart vu hi → r x lo hi H Q →
    ∃ T id, typeLookup (.type T) "__getitem__" = pure (some (.builtin id)) ∧ s.TypeIs v T ∧ wpAny (model X.prog X.w) X.A (getItem v (.ref sl)) (EP X pins σ Q) X.xe s
theorem SlR.or {r r' : V → Option Int → Option Int → Hp → VK → Prop} (h : SlR X r) (h' : SlR X r') : SlR X (fun x lo hi H Q => r x lo hi H Q ∨ r' x lo hi H Q) := by
  intro pins s σ H x v vl vu lo hi sl Q I rx hs pl pu q
  rcases q with q | q
  · exact h pins s σ H x v vl vu lo hi sl Q I rx hs pl pu q
  · exact h' pins s σ H x v vl vu lo hi sl Q I rx hs pl pu q
noncomputable def tSl (r : V → Option Int → Option Int → Hp → VK → Prop) (te : TE) (tl th : TO) : TE := fun σ H Q => te σ H fun x H1 => tl σ H1 fun l H2 => th σ H2 fun u H3 => r x l u H3 Q
theorem pe_slice {r : V → Option Int → Option Int → Hp → VK → Prop} (hr : SlR X r) (he : PE X e te) (hl : PO X lo tl) (hu : PO X hi th) : PE X (.Subscript e (.Slice lo hi none p2) pos) (tSl r te tl th) := by
  intro pins s σ H Q I h
  refine Subscript_ (thn (he pins s σ H _ I h) fun v s1 ⟨x, H1, I1, r1, q1⟩ => ?_)
  refine wpAny_Slice (thn (hl pins s1 σ H1 _ I1 q1) fun vl s2 ⟨l, H2, I2, pl, q2⟩ => thn (hu pins s2 σ H2 _ I2 q2) fun vu s3 ⟨u, H3, I3, pu, q3⟩ => ?_)
  rw [evalPart_none]
  refine wpAny_pure ?_
  have I4 : Inv X pins σ H3 { s3 with heap := s3.heap.push { cls := .type "slice", data := .fields #[vl, vu, .none] } } := I3.kept (t' := s3.toks) fun b ob q => Heap.get?_push_of_some _ q
  obtain ⟨T, id, hT, ht, hg⟩ := hr pins { s3 with heap := s3.heap.push { cls := .type "slice", data := .fields #[vl, vu, .none] } } σ H3 x v vl vu l u s3.heap.objs.size Q I4 r1 (Heap.IsSliceOf.new ..) pl pu q3
  show wpAny (model X.prog X.w) X.A (subscriptTail e (.Slice lo hi none p2) v (.ref s3.heap.objs.size)) (EP X pins σ Q) X.xe { s3 with heap := s3.heap.push { cls := .type "slice", data := .fields #[vl, vu, .none] } }
  exact tail_any (ops := [.ref s3.heap.objs.size, v]) ht hT hg (by with_unfolding_all rfl)
noncomputable def cutV (xs : List V) (lo hi : Option Int) : List V := (xs.drop (HT.sIx xs.length 0 lo)).take (HT.sIx xs.length xs.length hi - HT.sIx xs.length 0 lo)
theorem cutV_length (xs : List V) (lo hi : Option Int) : (cutV xs lo hi).length ≤ xs.length := by
  unfold cutV
  rw [List.length_take, List.length_drop]
  omega
noncomputable def rSlT (K : PySem.W.Frag) : V → Option Int → Option Int → Hp → VK → Prop := fun x lo hi H Q => ∃ a xs, x = .ref a ∧ SqT K H a xs ∧
  ¬ (HT.sIx xs.length 0 lo = 0 ∧ HT.sIx xs.length xs.length hi = xs.length) ∧ ∀ p, H p = none → Q (.ref p) (upd H p (.tup (cutV xs lo hi)))
theorem sl_tup : SlR X (rSlT X.K) := by
  intro pins s σ H x v vl vu lo hi sl Q I rx hs pl pu h
  obtain ⟨a, xs, rfl, hx, hw, q⟩ := h
  cases rx
  obtain ⟨its, r, ht, hz⟩ := I.tuple hx
  have hlen : its.toArray.size = xs.length := by rw [List.size_toArray]; exact r.length.symm
  refine ⟨"tuple", _, PyProof.Rows.slot_tuple_getitem.lookup, ht.typeIs, ?_⟩
  refine HT.getItem_tuple_cut ht hs pl pu (by rw [hlen]; exact hw) ?_ (by rw [hlen]; exact hz)
  rw [hlen]
  refine ⟨.ref s.heap.objs.size, _, I.laid (t' := s.toks) (o := .tup (cutV xs lo hi)) (fun b ob q => Heap.get?_push_of_some _ q) (Nat.le_refl _) ?_, rfl, q _ (I.hok.fresh (Nat.le_refl _))⟩
  exact ⟨Nat.le_trans (cutV_length xs lo hi) hz, _, (r.drop (HT.sIx xs.length 0 lo)).take (HT.sIx xs.length xs.length hi - HT.sIx xs.length 0 lo), IsTup.new _ _⟩
noncomputable def rLtT (K : PySem.W.Frag) : R2 := fun x y H Q => ∃ a b ns ms, x = .ref a ∧ y = .ref b ∧ SqT K H a (ns.map V.int) ∧ SqT K H b (ms.map V.int) ∧ Q (.bl (HT.lexLt ns ms)) H
noncomputable def rCatT (K : PySem.W.Frag) : R2 := fun x y H Q => ∃ a b xs ys, x = .ref a ∧ y = .ref b ∧ SqT K H a xs ∧ SqT K H b ys ∧ xs ≠ [] ∧ xs.length + ys.length ≤ sizeLine ∧
  (ys = [] → Q (.ref a) H) ∧ (ys ≠ [] → ∀ p, H p = none → Q (.ref p) (upd H p (.tup (xs ++ ys))))
theorem Vals.nil_iff {xs : List V} {us : List Value} (r : Vals xs us) : us = [] ↔ xs = [] := by
  cases r with
  | nil => simp
  | cons _ _ => simp
end
end L2
namespace L2
open PySem PySem.Spec PyProof.Rows
noncomputable def ixN (n : Nat) (i : Int) : Option Nat := if 0 ≤ i then (if i < n then some i.toNat else none) else if -(n : Int) ≤ i then some (i + n).toNat else none
noncomputable def atI {α : Type} (xs : List α) (i : Int) : Option α := (ixN xs.length i).bind fun j => xs[j]?
theorem ixN_seq {n : Nat} {i : Int} {j : Nat} (h : ixN n i = some j) : seqIndex? i n = some j ∧ j < n ∧ -(n : Int) ≤ i ∧ i < n := by
  unfold ixN at h
  by_cases h0 : 0 ≤ i
  · rw [if_pos h0] at h
    by_cases h1 : i < n
    · rw [if_pos h1] at h
      have e : i.toNat = j := Option.some.inj h
      exact ⟨by rw [seqIndex_of h0 h1, e], by omega, by omega, h1⟩
    · rw [if_neg h1] at h; cases h
  · rw [if_neg h0] at h
    by_cases h1 : -(n : Int) ≤ i
    · rw [if_pos h1] at h
      have e : (i + n).toNat = j := Option.some.inj h
      exact ⟨by rw [seqIndex_neg (by omega) h1, e], by omega, h1, by omega⟩
    · rw [if_neg h1] at h; cases h
theorem atI_get {α : Type} {xs : List α} {i : Int} {v : α} (h : atI xs i = some v) : ∃ j, seqIndex? i xs.length = some j ∧ xs[j]? = some v ∧ j < xs.length ∧ -(xs.length : Int) ≤ i ∧ i < xs.length := by
  unfold atI at h
  cases e : ixN xs.length i with
  | none => rw [e] at h; cases h
  | some j =>
    rw [e] at h
    obtain ⟨h1, h2, h3, h4⟩ := ixN_seq e
    exact ⟨j, h1, h, h2, h3, h4⟩
theorem atI_nat {α : Type} {xs : List α} {j : Nat} {v : α} (h : xs[j]? = some v) : atI xs (j : Int) = some v := by
  have hj : j < xs.length := (List.getElem?_eq_some_iff.mp h).1
  have e : ixN xs.length (j : Int) = some j := by
    unfold ixN
    rw [if_pos (by omega), if_pos (by omega)]; simp
  unfold atI; rw [e]; exact h
noncomputable def PlainIx (b : Expr) : Prop := ∀ o i, subscripted b false o i = operate [o, i] (getItem o i)
noncomputable def IxR (X : Cx) (r : R2) : Prop :=
  ∀ (value slice : Expr) (pins : List (Addr × Obj)) (s : Shared) (σ : St) (H : Hp) (x y : V) (v u : Value) (Q : VK), Inv X pins σ H s → RelV x v → RelV y u → r x y H Q →
    subscripted slice false v u = operate [v, u] (getItem v u) → wpAny (model X.prog X.w) X.A (subscriptTail value slice v u) (EP X pins σ Q) X.xe s
noncomputable def MtR (X : Cx) (id : String) (r : V → List V → Hp → VK → Prop) : Prop :=
  ∀ (pins : List (Addr × Obj)) (s : Shared) (σ : St) (H : Hp) (x : V) (xs : List V) (v : Value) (us : List Value) (Q : VK), Inv X pins σ H s → RelV x v → Vals xs us → r x xs H Q →
    wpAny (model X.prog X.w) X.A (call (.builtin id) (v :: us)) (EP X pins σ Q) X.xe s
section
variable {X : Cx} {a b : Expr} {ta tb : TE} {pos : Pos}
theorem IxR.or {r r' : R2} (h : IxR X r) (h' : IxR X r') : IxR X (fun x y H Q => r x y H Q ∨ r' x y H Q) := by
  intro value slice pins s σ H x y v u Q I rx ry q hs
  rcases q with q | q
  · exact h value slice pins s σ H x y v u Q I rx ry q hs
  · exact h' value slice pins s σ H x y v u Q I rx ry q hs
theorem pe_ix {r : R2} (hr : IxR X r) (ha : PE X a ta) (hb : PE X b tb) (hs : PlainIx b) : PE X (.Subscript a b pos) (tOp r ta tb) := by
  intro pins s σ H Q I h
  exact Subscript_ (binT ha hb I h fun v u s2 x y H2 I2 rx ry q => hr a b pins s2 σ H2 x y v u Q I2 rx ry q (hs _ _))
noncomputable def rIxL (K : PySem.W.Frag) : R2 := fun x y H Q => ∃ p xs i v, x = .ref p ∧ y = .int i ∧ SqL K H p xs ∧ atI xs i = some v ∧ Q v H
noncomputable def rIxT (K : PySem.W.Frag) : R2 := fun x y H Q => ∃ p xs i v, x = .ref p ∧ y = .int i ∧ SqT K H p xs ∧ atI xs i = some v ∧ Q v H
noncomputable def rIxS : R2 := fun x y H Q => ∃ z i c, x = .str z ∧ y = .int i ∧ z.length ≤ sizeLine ∧ atI z.cps.toList i = some c ∧ Q (.str ⟨#[c]⟩) H
theorem ix_list : IxR X (rIxL X.K) := by
  intro value slice pins s σ H x y v u Q I rx ry h hs
  obtain ⟨p, xs, i, z, rfl, rfl, hq, he, q⟩ := h
  cases rx
  obtain ⟨t, rfl⟩ := ry
  obtain ⟨its, r, pl, hz⟩ := I.list hq
  obtain ⟨j, h1, h2, h3, h4, h5⟩ := atI_get he
  obtain ⟨w, ew, rw'⟩ := r.get h2
  have hl := r.length
  have hn := line63
  have fin : EP X pins σ Q w s := ⟨z, H, I, rw', q⟩
  by_cases h0 : 0 ≤ i
  · have hj : i.toNat = j := by
      rw [seqIndex_of h0 h5] at h1
      exact Option.some.inj h1
    exact item_listR pl.isList h0 (by omega) (by rw [hj]; simpa using ew) fin hs
  · have hj : (i + (its.toArray.size : Int)).toNat = j := by
      rw [seqIndex_neg (by omega) h4] at h1
      rw [List.size_toArray, ← hl]
      exact Option.some.inj h1
    exact subscriptTail_builtinR (x := w) pl.isList.typeIs slot_list_getitem.lookup
      (wpAny_getItem_list_neg (Q := fun r s' => r = w ∧ EP X pins σ Q r s') pl.isList (by omega) (by rw [List.size_toArray] <;> omega) (by omega) (by rw [hj]; simpa using ew) ⟨rfl, fin⟩) hs
theorem ix_tup : IxR X (rIxT X.K) := by
  intro value slice pins s σ H x y v u Q I rx ry h hs
  obtain ⟨p, xs, i, z, rfl, rfl, hq, he, q⟩ := h
  cases rx
  obtain ⟨t, rfl⟩ := ry
  obtain ⟨its, r, pl, hz⟩ := I.tuple hq
  obtain ⟨j, h1, h2, h3, h4, h5⟩ := atI_get he
  obtain ⟨w, ew, rw'⟩ := r.get h2
  have hl := r.length
  have hn := line63
  have fin : EP X pins σ Q w s := ⟨z, H, I, rw', q⟩
  exact subscriptTail_builtinR (x := w) pl.typeIs slot_tuple_getitem.lookup
    (getItem_tuple (j := j) (Q := fun r s' => r = w ∧ EP X pins σ Q r s') pl (by omega) (by omega) (by rw [List.size_toArray, ← hl]; exact h1) (by simpa using ew) ⟨rfl, fin⟩) hs
theorem ix_str : IxR X rIxS := by
  intro value slice pins s σ H x y v u Q I rx ry h hs
  obtain ⟨z, i, c, rfl, rfl, hz, he, q⟩ := h
  obtain ⟨t, rfl⟩ := rx
  obtain ⟨t', rfl⟩ := ry
  obtain ⟨j, h1, h2, h3, h4, h5⟩ := atI_get he
  have hl : z.cps.toList.length = z.length := by simp [Str.length]
  rw [hl] at h1 h4 h5
  have hn := line63
  exact tail_any (typeIs_str s z t) slot_str_getitem.lookup (getItem_str (c := c) (by
    have e1 : decide (i < -(2 ^ 63 : Int)) = false := decide_eq_false (by omega)
    have e2 : decide (i ≥ 2 ^ 63) = false := decide_eq_false (by omega)
    rw [e1, e2, Bool.or_false]) (by rw [h1]; simpa using h2) ⟨.str ⟨#[c]⟩, H, I.tok _, ⟨_, rfl⟩, q⟩) hs
noncomputable def rIx (K : PySem.W.Frag) : R2 := fun x y H Q => rIxL K x y H Q ∨ rIxT K x y H Q ∨ rIxS x y H Q
theorem ix_seq : IxR X (rIx X.K) := ix_list.or (ix_tup.or ix_str)
noncomputable def rSetL : V → V → V → Hp → (Hp → Prop) → Prop := fun o i v H Q => ∃ p xs k j, o = .ref p ∧ i = .int k ∧ H p = some (.lst xs) ∧ ixN xs.length k = some j ∧ Q (upd H p (.lst (xs.set j v)))
theorem slice_bounds (lo hi : Option Int) (n : Nat) : (sliceBounds lo hi none n).1 = ((HT.sIx n 0 lo : Nat) : Int) ∧ (sliceBounds lo hi none n).2.1 = ((HT.sIx n n hi : Nat) : Int) ∧ (sliceBounds lo hi none n).2.2 = 1 := by
  refine ⟨?_, ?_, rfl⟩
  · cases lo with
    | none => simp [sliceBounds, HT.sIx]
    | some i =>
      simp only [sliceBounds, HT.sIx, Option.getD_none, show (1 : Int) > 0 by decide, if_true]
      by_cases h : i < 0
      · simp only [h, if_true] <;> omega
      · simp only [h, if_false] <;> omega
  · cases hi with
    | none => simp [sliceBounds, HT.sIx]
    | some i =>
      simp only [sliceBounds, HT.sIx, Option.getD_none, show (1 : Int) > 0 by decide, if_true]
      by_cases h : i < 0
      · simp only [h, if_true] <;> omega
      · simp only [h, if_false] <;> omega
theorem slicePick_cut (its : List Value) (lo hi : Option Int) : slicePick its.toArray lo hi none = ((its.drop (HT.sIx its.length 0 lo)).take (HT.sIx its.length its.length hi - HT.sIx its.length 0 lo)).toArray := by
  obtain ⟨h1, h2, h3⟩ := slice_bounds lo hi its.toArray.size
  unfold slicePick
  rw [h1, h2, h3]
  simp only [sliceRange_one, pick_run, List.size_toArray] <;> rfl
noncomputable def rSlL (K : PySem.W.Frag) : V → Option Int → Option Int → Hp → VK → Prop := fun x lo hi H Q => ∃ a xs, x = .ref a ∧ SqL K H a xs ∧ ∀ p, H p = none → Q (.ref p) (upd H p (.lst (cutV xs lo hi)))
theorem sl_list : SlR X (rSlL X.K) := by
  intro pins s σ H x v vl vu lo hi sl Q I rx hs pl pu h
  obtain ⟨a, xs, rfl, hx, q⟩ := h
  cases rx
  obtain ⟨its, r, ht, hz⟩ := I.list hx
  have hlen := r.length
  refine ⟨"list", _, slot_list_getitem.lookup, ht.isList.typeIs, ?_⟩
  refine wpAny_getItem_list_slice ht.isList hs pl pu .none (by simp) ?_ (by rw [List.size_toArray] <;> omega)
  rw [slicePick_cut, ← hlen]
  refine ⟨.ref s.heap.objs.size, _, I.laid (t' := s.toks) (o := .lst (cutV xs lo hi)) (fun b ob q => Heap.get?_push_of_some _ q) (Nat.le_refl _) ?_, rfl, q _ (I.hok.fresh (Nat.le_refl _))⟩
  exact ⟨Nat.le_trans (cutV_length xs lo hi) hz, _, 0, (r.drop (HT.sIx xs.length 0 lo)).take (HT.sIx xs.length xs.length hi - HT.sIx xs.length 0 lo), Heap.get?_push_size _ rfl⟩
noncomputable def flatV : V → Bool
  | .non => true
  | .bl _ => true
  | .int _ => true
  | .str _ => true
  | _ => false
noncomputable def eqV : V → V → Bool
  | .non, .non => true
  | .bl a, .bl b => a == b
  | .bl a, .int b => (if a then 1 else 0) == b
  | .int a, .bl b => a == (if b then 1 else 0)
  | .int a, .int b => a == b
  | .str a, .str b => a == b
  | _, _ => false
theorem eqAt_V {A : Around} {s : Shared} {y x : V} {u v : Value} (ry : RelV y u) (rx : RelV x v) (fy : flatV y = true) (fx : flatV x = true) : SeqAt.EqAt A s u v (eqV y x) := by
  cases y with
  | non =>
    cases ry
    cases x with
    | non => cases rx; exact SeqAt.EqAt.same _
    | bl b => cases rx; exact SeqAt.EqAt.none_bool b
    | int b => obtain ⟨t, rfl⟩ := rx; exact SeqAt.EqAt.none_int b t
    | str b => obtain ⟨t, rfl⟩ := rx; exact SeqAt.EqAt.none_str b t
    | _ => exact absurd (show false = true from fx) Bool.false_ne_true
  | bl a =>
    cases ry
    cases x with
    | non => cases rx; exact SeqAt.EqAt.bool_none a
    | bl b => cases rx; exact SeqAt.EqAt.bool_bool a b
    | int b => obtain ⟨t, rfl⟩ := rx; exact SeqAt.EqAt.bool_int a b t
    | str b => obtain ⟨t, rfl⟩ := rx; exact SeqAt.EqAt.bool_str a b t
    | _ => exact absurd (show false = true from fx) Bool.false_ne_true
  | int a =>
    obtain ⟨t', rfl⟩ := ry
    cases x with
    | non => cases rx; exact SeqAt.EqAt.int_none a t'
    | bl b => cases rx; exact SeqAt.EqAt.int_bool a t' b
    | int b => obtain ⟨t, rfl⟩ := rx; exact SeqAt.EqAt.int_int a t' b t
    | str b => obtain ⟨t, rfl⟩ := rx; exact SeqAt.EqAt.int_str a t' b t
    | _ => exact absurd (show false = true from fx) Bool.false_ne_true
  | str a =>
    obtain ⟨t', rfl⟩ := ry
    cases x with
    | non => cases rx; exact SeqAt.EqAt.str_none a t'
    | bl b => cases rx; exact SeqAt.EqAt.str_bool a t' b
    | int b => obtain ⟨t, rfl⟩ := rx; exact SeqAt.EqAt.str_int a t' b t
    | str b => obtain ⟨t, rfl⟩ := rx; exact SeqAt.EqAt.str_str a t' b t
    | _ => exact absurd (show false = true from fx) Bool.false_ne_true
  | _ => exact absurd (show false = true from fy) Bool.false_ne_true
noncomputable def eqU (x : V) (u : Value) : Bool := match u with
  | .none => eqV .non x
  | .bool b => eqV (.bl b) x
  | .int i _ => eqV (.int i) x
  | .str z _ => eqV (.str z) x
  | _ => false
theorem eqU_of {x y : V} {u : Value} (r : RelV y u) (f : flatV y = true) : eqU x u = eqV y x := by
  cases y with
  | non => cases r; rfl
  | bl b => cases r; rfl
  | int i => obtain ⟨t, rfl⟩ := r; rfl
  | str z => obtain ⟨t, rfl⟩ := r; rfl
  | _ => exact absurd (show false = true from f) Bool.false_ne_true
theorem any_eqU {x : V} : ∀ {xs : List V} {us : List Value}, Vals xs us → xs.all flatV = true → us.any (eqU x) = xs.any fun y => eqV y x
  | _, _, .nil, _ => rfl
  | y :: xs, u :: us, .cons r t, f => by
    rw [List.all_cons, Bool.and_eq_true] at f
    rw [List.any_cons, List.any_cons, eqU_of r f.1, any_eqU t f.2]
theorem mem_eqAt {A : Around} {s : Shared} {x : V} {v : Value} (rx : RelV x v) (fx : flatV x = true) : ∀ {xs : List V} {us : List Value}, Vals xs us → xs.all flatV = true → ∀ u ∈ us, SeqAt.EqAt A s u v (eqU x u)
  | _, _, .nil, _ => fun u hu => by cases hu
  | y :: xs, u :: us, .cons r t, f => fun u' hu => by
    rw [List.all_cons, Bool.and_eq_true] at f
    rcases List.mem_cons.mp hu with rfl | hu
    · rw [eqU_of r f.1]; exact eqAt_V r rx f.1 fx
    · exact mem_eqAt rx fx t f.2 u' hu
noncomputable def inV (x : V) (xs : List V) : Bool := xs.any fun y => eqV y x
noncomputable def rIn (K : PySem.W.Frag) (neg : Bool) : R2 := fun x y H Q => ∃ p xs, y = .ref p ∧ (SqL K H p xs ∨ SqT K H p xs) ∧ flatV x = true ∧ xs.all flatV = true ∧ Q (.bl (if neg then !inV x xs else inV x xs)) H
theorem op_in_seq : OpR X (compareOp .In) (rIn X.K false) := by
  intro pins s σ H x y v u Q I rx ry h
  obtain ⟨p, xs, rfl, hq, fx, fs, q⟩ := h
  cases ry
  rcases hq with hq | hq
  · obtain ⟨its, r, pl, hz⟩ := I.list hq
    refine SeqAt.in_listAt (eqU x) pl.isList (fun w hw => mem_eqAt rx fx r fs w (by simpa using hw)) ⟨.bl _, H, I, rfl, ?_⟩
    rw [show its.toArray.any (eqU x) = its.any (eqU x) by simp, any_eqU r fs]
    exact q
  · obtain ⟨its, r, pl, hz⟩ := I.tuple hq
    refine SeqAt.in_tupleAt (eqU x) pl (fun w hw => mem_eqAt rx fx r fs w (by simpa using hw)) ⟨.bl _, H, I, rfl, ?_⟩
    rw [show its.toArray.any (eqU x) = its.any (eqU x) by simp, any_eqU r fs]
    exact q
theorem op_notIn_seq : OpR X (compareOp .NotIn) (rIn X.K true) := by
  intro pins s σ H x y v u Q I rx ry h
  obtain ⟨p, xs, rfl, hq, fx, fs, q⟩ := h
  cases ry
  rcases hq with hq | hq
  · obtain ⟨its, r, pl, hz⟩ := I.list hq
    refine SeqAt.notIn_listAt (eqU x) pl.isList (fun w hw => mem_eqAt rx fx r fs w (by simpa using hw)) ⟨.bl _, H, I, rfl, ?_⟩
    rw [show its.toArray.any (eqU x) = its.any (eqU x) by simp, any_eqU r fs]
    exact q
  · obtain ⟨its, r, pl, hz⟩ := I.tuple hq
    refine SeqAt.notIn_tupleAt (eqU x) pl (fun w hw => mem_eqAt rx fx r fs w (by simpa using hw)) ⟨.bl _, H, I, rfl, ?_⟩
    rw [show its.toArray.any (eqU x) = its.any (eqU x) by simp, any_eqU r fs]
    exact q
theorem op_notIn_str : OpR X (compareOp .NotIn) (fun x y H Q => ∃ i j, x = .str i ∧ y = .str j ∧ Q (.bl (!(!(Builtin.Str.occurrences j i 0 j.length 1).isEmpty))) H) := by
  intro pins s σ H x y v u Q I rx ry h
  obtain ⟨i, j, rfl, rfl, q⟩ := h
  obtain ⟨t, rfl⟩ := rx
  obtain ⟨t', rfl⟩ := ry
  exact notIn_str ⟨.bl _, H, I, rfl, q⟩
theorem call_len_seq : CallR X (.builtin "len") (fun xs H Q => ∃ p ys, xs = [.ref p] ∧ (SqL X.K H p ys ∨ SqT X.K H p ys) ∧ Q (.int ys.length) H) := by
  intro pins s σ H xs us Q I r h
  obtain ⟨p, ys, rfl, hq, q⟩ := h
  obtain ⟨u, rfl, rx⟩ := vals1 r
  cases rx
  have hn := line63
  rcases hq with hq | hq
  · obtain ⟨its, r', pl, hz⟩ := I.list hq
    have hlen := r'.length
    exact Calls.call_len_list pl.isList (by simp only [List.size_toArray] <;> omega) ⟨.int ys.length, H, I.tok _, ⟨s.toks + 1, by rw [List.size_toArray, hlen]⟩, q⟩
  · obtain ⟨its, r', pl, hz⟩ := I.tuple hq
    have hlen := r'.length
    exact len_tuple pl (by simp only [List.size_toArray] <;> omega) ⟨.int ys.length, H, I.tok _, ⟨s.toks + 1, by rw [List.size_toArray, hlen]⟩, q⟩
theorem call_len_str : CallR X (.builtin "len") (fun xs H Q => ∃ z, xs = [.str z] ∧ z.length ≤ sizeLine ∧ Q (.int z.length) H) := by
  intro pins s σ H xs us Q I r h
  obtain ⟨z, rfl, hz, q⟩ := h
  obtain ⟨u, rfl, t, rfl⟩ := vals1 r
  have hn := line63
  exact len_str (by omega) ⟨.int z.length, H, I.tok _, ⟨_, rfl⟩, q⟩
theorem CallR.or {f : Value} {r r' : List V → Hp → VK → Prop} (h : CallR X f r) (h' : CallR X f r') : CallR X f (fun xs H Q => r xs H Q ∨ r' xs H Q) := by
  intro pins s σ H xs us Q I rs q
  rcases q with q | q
  · exact h pins s σ H xs us Q I rs q
  · exact h' pins s σ H xs us Q I rs q
theorem call_tuple_of : CallR X (.type "tuple") (fun xs H Q => ∃ p ys, xs = [.ref p] ∧ ((SqL X.K H p ys ∧ ∀ l, H l = none → Q (.ref l) (upd H l (.tup ys))) ∨ (SqT X.K H p ys ∧ Q (.ref p) H))) := by
  intro pins s σ H xs us Q I r h
  obtain ⟨p, ys, rfl, h⟩ := h
  obtain ⟨u, rfl, rx⟩ := vals1 r
  cases rx
  rcases h with ⟨hq, q⟩ | ⟨hq, q⟩
  · obtain ⟨its, r', pl, hz⟩ := I.list hq
    have hlen := r'.length
    refine call_tuple_list pl.isList (fun h' kp => ?_) (by simp only [List.size_toArray] <;> omega)
    have I1 : Inv X pins σ H { s with heap := h' } := I.kept (t' := s.toks) kp
    have I2 : Inv X pins σ (upd H h'.objs.size (.tup ys)) { s with heap := h'.push { cls := .type "tuple", data := .seq its.toArray } } :=
      I1.laid (t' := s.toks) (fun b o e => Heap.get?_push_of_some _ e) (Nat.le_refl _) (show ObjOk X.prog X.w _ _ _ (.tup ys) from ⟨hz, its, r', IsTup.new _ _⟩)
    exact ⟨.ref h'.objs.size, _, I2, rfl, q _ (I1.hok.fresh (Nat.le_refl _))⟩
  · obtain ⟨its, r', pl, hz⟩ := I.tuple hq
    exact call_tuple_same pl ⟨.ref p, H, I, rfl, q⟩
noncomputable def tyV (K : PySem.W.Frag) (T : String) (x : V) (H : Hp) : Prop := match x with
  | .str _ => T = "str"
  | .int _ => T = "int"
  | .ref p => (T = "list" ∧ ∃ xs, SqL K H p xs) ∨ (T = "tuple" ∧ ∃ o, K.lookup p = some o ∧ o.cls = .type "tuple" ∧ o.dict = none) ∨
      (T = "dict" ∧ ((∃ kvs, H p = some (.dK kvs)) ∨ ∃ kvs, H p = some (.dT kvs))) ∨ (T = "set" ∧ ∃ S n, H p = some (.set S n))
  | _ => False
theorem tyV_is {pins : List (Addr × Obj)} {σ : St} {H : Hp} {s : Shared} {T : String} {x : V} {v : Value} (I : Inv X pins σ H s) (r : RelV x v) (ty : tyV X.K T x H) :
    s.TypeIs v T ∧ ∀ a, v = .ref a → ∃ ob, s.heap.get? a = some ob ∧ ob.dict = none := by
  cases x with
  | str z =>
    obtain ⟨t, rfl⟩ := r
    cases (show T = "str" from ty)
    exact ⟨typeIs_str s z t, fun _ e => nomatch e⟩
  | int i =>
    obtain ⟨t, rfl⟩ := r
    cases (show T = "int" from ty)
    exact ⟨typeIs_int s i t, fun _ e => nomatch e⟩
  | ref p =>
    cases r
    rcases ty with ⟨rfl, xs, hq⟩ | ⟨rfl, o, hk, hc, hd⟩ | ⟨rfl, hk⟩ | ⟨rfl, S, n, hk⟩
    · obtain ⟨its, _, pl, _⟩ := I.list hq
      refine ⟨pl.isList.typeIs, fun a e => ?_⟩
      cases e
      obtain ⟨o, n, e, c, hd, _⟩ := pl
      exact ⟨o, e, hd⟩
    · refine ⟨⟨o, I.kIn p o hk, hc⟩, fun a e => ?_⟩
      cases e
      exact ⟨o, I.kIn _ o hk, hd⟩
    · have z : ∃ o, s.heap.get? p = some o ∧ o.ExactDict := by
        rcases hk with ⟨kvs, hk⟩ | ⟨kvs, hk⟩
        · obtain ⟨_, _, _, _, o, _, _, e, ex, _⟩ := I.hok p _ hk
          exact ⟨o, e, ex⟩
        · obtain ⟨_, _, _, _, o, _, _, e, ex, _⟩ := I.hok p _ hk
          exact ⟨o, e, ex⟩
      obtain ⟨o, e, ex⟩ := z
      refine ⟨⟨o, e, ex.1⟩, fun a e2 => ?_⟩
      cases e2
      exact ⟨o, e, ex.2.1⟩
    · obtain ⟨o, _, _, _, e, ex, _⟩ := I.hok p _ hk
      refine ⟨⟨o, e, ex.1⟩, fun a e2 => ?_⟩
      cases e2
      exact ⟨o, e, ex.2.1⟩
  | _ => exact False.elim ty
noncomputable def tBM0 (K : PySem.W.Frag) (T : String) (r : V → List V → Hp → VK → Prop) (to : TE) : TE := fun σ H Q => to σ H fun x H1 => tyV K T x H1 ∧ r x [] H1 Q
noncomputable def tBM (K : PySem.W.Frag) (T : String) (r : V → List V → Hp → VK → Prop) (to : TE) (t : TA) : TE := fun σ H Q => to σ H fun x H1 => tyV K T x H1 ∧ t σ H1 fun xs H2 => r x xs H2 Q
variable {o e : Expr} {es : List Expr} {to : TE} {t : TA} {name : Str} {apos cpos : Pos} {T id : String} {r : V → List V → Hp → VK → Prop}
theorem pe_bm0 (pa : PlainAttrs T) (slot : Slot T name id) (hty : typeOf (.builtin id) = pure (.type "method_descriptor")) (hm : MtR X id r) (ho : PE X o to)
    (hbase : attributeBase o name X.env (eval o X.env) = eval o X.env := by rfl) (hline : (apos.endLine == cpos.line) = true := by rfl) : PE X (.Call (.Attribute o name apos) [] [] cpos) (tBM0 X.K T r to) := by
  intro pins s σ H Q I h
  refine wpAny_Call_method0_late hbase hline (thn (ho pins s σ H _ I h) fun v s1 ⟨x, H1, I1, r1, ty, q1⟩ => ?_)
  obtain ⟨h1, h2⟩ := tyV_is I1 r1 ty
  exact ⟨T, id, pa, slot, hty, h1, h2, Calls.callWith_builtin rfl (PySem.evalArgs_none (hm pins s1 σ H1 x [] v [] Q I1 r1 .nil q1))⟩
theorem pe_bm (pa : PlainAttrs T) (slot : Slot T name id) (hty : typeOf (.builtin id) = pure (.type "method_descriptor")) (hm : MtR X id r) (ho : PE X o to) (ha : PA X (e :: es) t)
    (hbase : attributeBase o name X.env (eval o X.env) = eval o X.env := by rfl)
    (hfew : ((backTo cpos (starEach (e :: es) X.env)).all (fun x => !x.1) && (backToKw cpos (keywordEach [] X.env)).all (fun x => x.1.isSome)
      && decide ((e :: es).length + ([] : List Keyword).length + (if ([] : List Keyword).isEmpty then 0 else 1) < 30)) = true := by rfl)
    (hline : (apos.endLine == cpos.line) = true := by rfl) (hs : starEach (e :: es) X.env = (false, eval e X.env) :: starEach es X.env := by rfl) (hplain : (backTo cpos (starEach es X.env)).any (·.1) = false := by rfl) :
    PE X (.Call (.Attribute o name apos) (e :: es) [] cpos) (tBM X.K T r to t) := by
  intro pins s σ H Q I h
  refine wpAny_Call_method_late hbase hfew hline rfl (thn (ho pins s σ H _ I h) fun v s1 ⟨x, H1, I1, r1, ty, q1⟩ => ?_)
  obtain ⟨h1, h2⟩ := tyV_is I1 r1 ty
  refine ⟨T, id, pa, slot, hty, h1, h2, ?_⟩
  have hA := ha cpos pins s1 σ H1 _ I1 q1
  rw [hs] at hA ⊢
  refine Calls.callWith_builtin (by show (false || (backTo cpos (starEach es X.env)).any (·.1)) = false; rw [hplain] <;> rfl) (Calls.evalArgs_plain ?_)
  exact thn hA fun us s2 ⟨vs, H2, I2, r2, q2⟩ => hm pins s2 σ H2 x vs v us Q I2 r1 r2 q2
/- xs.append(e), list.index on a module's tuple .. are MtR facts of 06m -/
end
end L2
namespace L2
open PySem PySem.Spec PyProof.Rows
noncomputable def MtM (X : Cx) (id : String) (r : V → List V → Hp → VK → Prop) : Prop :=
  ∀ (pins : List (Addr × Obj)) (s : Shared) (σ : St) (H : Hp) (x : V) (xs : List V) (v : Value) (us : List Value) (Q : VK), Inv X pins σ H s → RelV x v → Vals xs us → r x xs H Q →
    wpAny (model X.prog X.w) X.A (call (.builtin id) (v :: us)) (EP X pins σ Q) X.xe s
theorem Vals.one : ∀ {x : V} {us : List Value}, Vals [x] us → ∃ u, us = [u] ∧ RelV x u
  | _, _, .cons r .nil => ⟨_, rfl, r⟩
theorem Vals.zero : ∀ {us : List Value}, Vals [] us → us = []
  | _, .nil => rfl
theorem Vals.dropLast {xs : List V} {us : List Value} (h : Vals xs us) : Vals xs.dropLast us.dropLast := by
  induction h with
  | nil => exact .nil
  | cons r t ih =>
    cases t with
    | nil => exact .nil
    | cons q t' => exact .cons r ih
theorem erase_last {α : Type} (l : List α) : l.eraseIdx (l.length - 1) = l.dropLast := by
  induction l with
  | nil => rfl
  | cons a r ih =>
    cases r with
    | nil => rfl
    | cons b r =>
      have e : (a :: b :: r).length - 1 = ((b :: r).length - 1) + 1 := by
        have h1 : (a :: b :: r).length = r.length + 2 := rfl
        have h2 : (b :: r).length = r.length + 1 := rfl
        omega
      rw [e, List.eraseIdx_cons_succ, ih]
      all_goals rfl
section
variable {X : Cx} {pins : List (Addr × Obj)} {σ : St} {H : Hp} {s : Shared} {l b : Addr} {xs ys zs : List V}
theorem Inv.lset {its its' : List Value} {n : Nat} {f : Array Value → Array Value} {t' : Nat} (I : Inv X pins σ H s) (hH : H l = some (.lst xs))
    (e : s.heap.get? l = some { cls := .type "list", data := .seq its.toArray n }) (hf : f its.toArray = its'.toArray) (hv : Vals ys its') (hz : ys.length ≤ sizeLine) :
    Inv X pins σ (upd H l (.lst ys)) { s with heap := s.heap.update l (Obj.mapSeq f), toks := t' } := by
  have q := PySem.IsL.update e f
  rw [hf] at q
  refine I.write (x := l) (e := l) (by rw [hH]; exact trivial) (.inl rfl) (fun b' u hb hu => (Heap.get?_update_other s.heap (Obj.mapSeq f) (Ne.symm hb)).trans hu) ⟨_, q⟩ ?_
  exact ⟨hz, its', _, hv, q⟩
theorem Inv.lnew {its : List Value} {t' : Nat} (I : Inv X pins σ H s) (hv : Vals ys its) (hz : ys.length ≤ sizeLine) :
    Inv X pins σ (upd H s.heap.objs.size (.lst ys)) { s with heap := s.heap.push { cls := .type "list", data := .seq its.toArray }, toks := t' } :=
  I.laid (fun _ _ q => Heap.get?_push_of_some _ q) (Nat.le_refl _) ⟨hz, its, 0, hv, Heap.get?_push_size _ rfl⟩
theorem Inv.fresh (I : Inv X pins σ H s) : H s.heap.objs.size = none := I.hok.fresh (Nat.le_refl _)
theorem Inv.lstM (I : Inv X pins σ H s) (hH : H l = some (.lst xs)) : xs.length ≤ sizeLine ∧ ∃ (its : List Value) (n : Nat), Vals xs its ∧ xs.length = its.length ∧ s.heap.get? l = some { cls := .type "list", data := .seq its.toArray n } := by
  obtain ⟨z, its, n, r, e⟩ := I.hok l _ hH
  exact ⟨z, its, n, r, r.length, e⟩
theorem notLongL {n : Nat} (h : n ≤ sizeLine) : Builtin.List.listTooLong n = false := by
  unfold Builtin.List.listTooLong
  exact decide_eq_false (by omega)
end
section
variable {X : Cx}
noncomputable def rAppend : V → List V → Hp → VK → Prop := fun x vs H Q => ∃ l xs y, x = .ref l ∧ vs = [y] ∧ H l = some (.lst xs) ∧ xs.length < sizeLine ∧ Q .non (upd H l (.lst (xs ++ [y])))
theorem mt_append : MtM X "list.append" rAppend := by
  intro pins s σ H x vs v us Q I rx rv h
  obtain ⟨l, xs, y, rfl, rfl, hH, hz, q⟩ := h
  cases rx
  obtain ⟨u, rfl, ru⟩ := rv.one
  obtain ⟨z, its, n, r, hl, e⟩ := I.lstM hH
  refine call_meets F.slot_list_append ⟨_, e, rfl⟩ F.entry_list_append (F.args_list_append_2 _ _) (PySem.list_append l its.toArray n u (by rw [List.size_toArray]; omega)) ⟨e, ?_⟩
  refine ⟨.non, _, I.lset (its' := its ++ [u]) hH e (by simp) (r.append (.cons ru .nil)) ?_, rfl, q⟩
  rw [List.length_append, List.length_singleton]
  omega
noncomputable def rExtend : V → List V → Hp → VK → Prop := fun x vs H Q => ∃ l b xs zs, x = .ref l ∧ vs = [.ref b] ∧ H l = some (.lst xs) ∧ H b = some (.lst zs) ∧ xs.length + zs.length ≤ sizeLine ∧ Q .non (upd H l (.lst (xs ++ zs)))
noncomputable def rPop : V → List V → Hp → VK → Prop := fun x vs H Q => ∃ l xs y, x = .ref l ∧ vs = [] ∧ H l = some (.lst xs) ∧ xs[xs.length - 1]? = some y ∧ Q y (upd H l (.lst xs.dropLast))
theorem mt_pop : MtM X "list.pop" rPop := by
  intro pins s σ H x vs v us Q I rx rv h
  obtain ⟨l, xs, y, rfl, rfl, hH, hy, q⟩ := h
  cases rx
  have hus := rv.zero
  subst hus
  obtain ⟨z, its, n, r, hl, e⟩ := I.lstM hH
  obtain ⟨u, hu, ru⟩ := r.get hy
  have hy' : its.toArray[its.toArray.size - 1]? = some u := by
    show its.toArray[its.length - 1]? = some u
    rw [← Array.getElem?_toList, ← hl]
    exact hu
  refine call_meets F.slot_list_pop ⟨_, e, rfl⟩ F.entry_list_pop (F.args_list_pop_1 _) (MeetsSeq.list_pop_last l its.toArray n u hy' (by rw [List.size_toArray]; omega)) ⟨e, ?_⟩
  refine ⟨y, _, I.lset (its' := its.dropLast) hH e ?_ r.dropLast ?_, ru, q⟩
  · show its.toArray.eraseIdxIfInBounds (its.toArray.size - 1) = its.dropLast.toArray
    rw [List.size_toArray, List.eraseIdxIfInBounds_toArray, erase_last]
  · rw [List.length_dropLast]
    omega
noncomputable def rPopAt : V → List V → Hp → VK → Prop := fun x vs H Q => ∃ l xs i k y, x = .ref l ∧ vs = [.int i] ∧ H l = some (.lst xs) ∧ -(2 ^ 63) ≤ i ∧ i < 2 ^ 63 ∧ seqIndex? i xs.length = some k ∧ xs[k]? = some y ∧ Q y (upd H l (.lst (xs.eraseIdx k)))
noncomputable def rReverse : V → List V → Hp → VK → Prop := fun x vs H Q => ∃ l xs, x = .ref l ∧ vs = [] ∧ H l = some (.lst xs) ∧ Q .non (upd H l (.lst xs.reverse))
noncomputable def rClear : V → List V → Hp → VK → Prop := fun x vs H Q => ∃ l xs, x = .ref l ∧ vs = [] ∧ H l = some (.lst xs) ∧ Q .non (upd H l (.lst []))
noncomputable def rCat : R2 := fun x y H Q => ∃ l b xs zs, x = .ref l ∧ y = .ref b ∧ H l = some (.lst xs) ∧ H b = some (.lst zs) ∧ xs.length + zs.length ≤ sizeLine ∧ ∀ p, H p = none → Q (.ref p) (upd H p (.lst (xs ++ zs)))
noncomputable def rRep : R2 := fun x y H Q => ∃ l k xs, x = .ref l ∧ y = .int k ∧ H l = some (.lst xs) ∧ -(2 ^ 63) ≤ k ∧ k < 2 ^ 63 ∧ xs.length * k.toNat ≤ sizeLine ∧
  ∀ p, H p = none → Q (.ref p) (upd H p (.lst (List.replicate k.toNat xs).flatten))
end
end L2
namespace Att
open PySem PySem.W PySem.Calls PyProof.Rows
theorem ints_of_wellAll {P : Params} {h : Heap} : ∀ (ns : List Int) (vs : List Value), WellAll P h vs (ns.map WData.int) → IntsAre vs ns := by
  intro ns
  induction ns with
  | nil =>
    intro vs w
    rw [List.map_nil] at w
    cases w
    exact .nil
  | cons n ns ih =>
    intro vs w
    rw [List.map_cons] at w
    cases w with
    | cons a b =>
      cases a
      exact .cons _ _ (ih _ b)
theorem script_of {l : OpenLaw} {n : Nat} (hn : l.most = some n) {P : Params} {h : Heap} {args : List WData} {vals : List Value}
    (hpre : l.row.toRowW.claim.pre args = true) (hwl : WellAll P h vals args) :
    ∃ a vs ns, vals = [Value.ref a] ∧ args = [WData.list (ns.map WData.int)] ∧ h.get? a = some { cls := .type "list", data := .seq vs.toArray } ∧ IntsAre vs ns ∧ ns.length ≤ n := by
  have hsh : WShape.hasAll [] args [.list .int] = true := (pre_splitW hpre).1
  have hc : l.pre.holds [] { args := args } = true := (pre_splitW hpre).2
  obtain ⟨d, r, rfl, h1, h2⟩ := hasAllW_cons hsh
  obtain rfl := hasAllW_nil h2
  obtain ⟨xs, rfl, h3⟩ := hasW_list h1
  obtain ⟨ns, rfl⟩ := items_int h3
  have hlen : ns.length ≤ n := by
    unfold OpenLaw.pre at hc
    have h4 : (WTm.not (.lt (.lit (.int (n : Int))) (.len (.arg 0)))).holds [] { args := [.list (ns.map .int)] } = true := by
      have h4 := (holds_andW hc).1
      rw [hn] at h4
      exact h4
    have h5 := condW_of h4 (w_not (w_lt w_lit (w_len_list (w_arg rfl))))
    rw [List.length_map] at h5
    refine Nat.le_of_not_lt fun q => ?_
    have q' : (n : Int) < ((ns.length : Nat) : Int) := by omega
    first
      | (rw [decide_eq_true q'] at h5; exact absurd h5 (by decide))
      | (simp at h5; omega)
  cases hwl with
  | cons w1 w2 =>
    cases w2
    cases w1 with
    | list ho hall => exact ⟨_, _, ns, rfl, rfl, ho, ints_of_wellAll ns _ hall, hlen⟩
theorem post_true (l : OpenLaw) (args : List WData) : l.row.toRowW.claim.post args (.bool true) args = true :=
  postW_of (r := l.row.toRowW) (X := (true == true))
    (show WShape.has [] (.bool true) .bool = true by first | rfl | decide | simp [WShape.has, WShape.arms, WShape.armsAll])
    (show (WTm.eq .res (.lit (.bool true))).value [] { args := args, res := some (.bool true), after := args } = some (.bool (true == true)) from w_eq_bool (w_res rfl) w_lit) rfl
theorem attach_call {l : OpenLaw} {n : Nat} {q : Program} {loose : List Str} {XP : (Str → Option Value) → Heap → Prop} {YP : World → Heap → Prop} {d : DefRec}
    (hn : l.most = some n) (hdf : d.params.defaults = [])
    (call : ∀ (w : World) (s₀ s₁ : Shared) (mg mb : Str → Option Value) (fa : Addr) (o : Obj) (pm cd doc : Value) (a : Addr) (vs : List Value) (ns : List Int),
      Ground q loose [] XP w s₀ mg mb s₁.heap → YP w s₁.heap →
      s₁.heap.get? fa = some o → o.data = .func (docDef d.name d.params d.body d.scope pm cd doc) → s₁.heap.CodeRec cd d.name → mg d.name = some (.ref fa) →
      s₁.heap.get? a = some { cls := .type "list", data := .seq vs.toArray } → IntsAre vs ns → ns.length ≤ n → s₁.gens = #[] →
      codeAny (model l.prog w) callerA (.call (.ref fa) ⟨[.ref a], []⟩) (fun r s' => r = .ok (.ret (.bool true)) ∧ OldK s₁.heap s'.heap ∧ s'.os = s₁.os ∧ AllBare s'.gens) s₁) :
    WalkO q loose XP YP l.row.toRowW d [] (fun f vs => PySem.call f vs) := by
  intro w s₀ s₁ mg mb G Y fa o pm cd doc dV kV ho hd hcd hD hmg hg args vals as hpre hlay hrd hwl hlo
  obtain rfl : dV = .none := Dflts.none hD hdf
  obtain rfl : kV = .none := Dflts.noKw hD
  obtain ⟨a, vs, ns, rfl, rfl, hobj, hints, hlen⟩ := script_of hn hpre hwl
  refine enter_call (codeAny_mono (call w s₀ s₁ mg mb fa o pm cd doc a vs ns G Y ho (fd_plain hd) hcd hmg hobj hints hlen hg) fun r s' hq => ?_)
  obtain ⟨rfl, h2, h3, h4⟩ := hq
  exact ⟨.inl ⟨.bool true, .bool true, [], rfl, fun _ => rfl, .bool true, post_true l _, fun _ => ⟨List.Pairwise.nil, fun _ hm => (nomatch hm)⟩⟩, h2, h3, h4⟩
section
variable {prog : Program} {w : World} {A : Around} {E : Value → Shared → Prop} {s : Shared} {K : Frag}
noncomputable def noObjs (h : Heap) : Heap := { h with objs := #[] }
noncomputable def ledger (h : Heap) (L d : Addr) : List (Addr × Obj) := (List.range h.objs.size).filterMap fun a => if a = L ∨ a = d then none else (h.get? a).map fun o => (a, o)
end
end Att
namespace L2
open PySem PySem.Spec PyProof.Rows
theorem vals_ints : ∀ {vs : List Value} {ns : List Int}, IntsAre vs ns → Vals (ns.map V.int) vs
  | _, _, .nil => .nil
  | _, _, .cons n t h => .cons ⟨t, rfl⟩ (vals_ints h)
noncomputable def Only (H : Hp) : Prop := ∀ b, H b = none ∨ ∃ o xs, H b = some (.frz o (.lst xs))
theorem law_call {P : Program} {w : World} {K : PySem.W.Frag} {mg mb : Str → Option Value} {CX : CXT} {k : Nat} {fa a : Addr} {fd : FuncData} {x : Str} {sp : Sp} {s₁ : Shared} {vs : List Value} {ns : List Int}
    (KX : K.In s₁.heap) (hns : s₁.heap.Ns mainGlobals mg) (hb : s₁.heap.Ns builtinsNs mb) (hbb : ∀ x : Str, x ≠ "__name__" → mb x = bootBuiltins x) (hlim : s₁.heap.NoLimit) (hg : s₁.gens = #[])
    (ha : s₁.heap.get? a = some { cls := .type "list", data := .seq vs.toArray }) (hi : IntsAre vs ns) (hl : ns.length ≤ sizeLine) (hr : Room k callerA)
    (F : ∀ base : Heap, K.In base → base.Ns mainGlobals mg → FnOk P w K mg base CX k fa fd [x] sp) (hbind : ∀ (s : Shared) (u : Value), BindsTo s fd ⟨[u], []⟩ [(x, u)])
    (hsp : ∀ H : Hp, Only H → SqL K H a (ns.map V.int) → sp [.ref a] H (fun v _ => v = .bl true) fun _ _ _ => False)
    (hCX : ∀ H e s', CX [] H s₁ (fun _ _ _ => False) e s' → False) :
    codeAny (model P w) callerA (.call (.ref fa) ⟨[.ref a], []⟩) (fun r s' => r = .ok (.ret (.bool true)) ∧ OldK s₁.heap s'.heap ∧ s'.os = s₁.os ∧ AllBare s'.gens) s₁ := by
  have rv := vals_ints hi
  have lenV := hi.length
  have core : ∀ H : Hp, Only H → SqL K H a (ns.map V.int) → HOk P w H s₁.heap → (∀ b, H b ≠ none → b = a) → (H a ≠ none → K.lookup a = none) →
      codeAny (model P w) callerA (.call (.ref fa) ⟨[.ref a], []⟩) (fun r s' => r = .ok (.ret (.bool true)) ∧ OldK s₁.heap s'.heap ∧ s'.os = s₁.os ∧ AllBare s'.gens) s₁ := by
    intro H hO hS hok hA hK
    have base_of : ∀ {b : Addr} {o : Obj}, s₁.heap.get? b = some o → H b = none → (hidT s₁.heap H).get? b = some o := fun e n => hidT_get e n
    have noA : ∀ {b : Addr} {o : Obj} {es : Array DictEntry} {ep : Nat}, s₁.heap.get? b = some o → o.data = .dict es ep → H b = none := fun {b o es ep} e d => by
      cases q : H b with
      | none => rfl
      | some u =>
        have e' : b = a := hA b (by rw [q]; simp)
        subst e'
        rw [ha] at e; cases e
        have d' : Data.seq vs.toArray _ = Data.dict es ep := d
        cases d'
    have nsK : ∀ {b : Addr} {m : Str → Option Value}, s₁.heap.Ns b m → (hidT s₁.heap H).Ns b m := fun {b m} ⟨o, es, ep, e, d, r⟩ => ⟨o, es, ep, base_of e (noA e d), d, r⟩
    have hKb : K.In (hidT s₁.heap H) := fun b o e => base_of (KX b o e) (by
      cases q : H b with
      | none => rfl
      | some u =>
        have e' : b = a := hA b (by rw [q]; simp)
        subst e'
        rw [hK (by rw [q]; simp)] at e; cases e)
    have hM : Mod K mg (hidT s₁.heap H) := ⟨hKb, nsK hns, ⟨mb, nsK hb, hbb⟩, let ⟨mc, h1, h2⟩ := hlim; ⟨mc, nsK h1, h2⟩⟩
    have e0 : Env0 P w K mg (hidT s₁.heap H) callerA [] s₁ H := ⟨rfl, hM, fun b o e => of_hidT e, Nat.le_of_eq (hidT_size _ _), trivial, fun b hb => absurd (show b ∈ ([] : List Addr) from hb) (by simp), hok, .of_eq hg⟩
    refine codeAny_mono ((F _ hKb (nsK hns)).run callerA [] s₁ H ⟨[.ref a], []⟩ [.ref a] [.ref a] _ _ hr e0 (hbind s₁ (.ref a)) (.cons rfl .nil) (hsp H hO hS)) fun r s' h => ?_
    cases r with
    | error e => exact (hCX H e s' h).elim
    | ok fl =>
      cases fl with
      | next => exact False.elim h
      | brk => exact False.elim h
      | cont => exact False.elim h
      | ret u =>
        obtain ⟨v, H', os, bare, un, hok', r', q⟩ := h
        have q' : v = .bl true := q
        subst q'
        obtain rfl : u = Value.bool true := r'
        refine ⟨rfl, OldK.of_keep fun b o e => ?_, os, bare⟩
        cases q : H b with
        | none => exact un.keep b o e q (by intro z; exact absurd (show b ∈ ([] : List Addr) from z) (by simp)) (by simp)
        | some u =>
          rcases hO b with z | ⟨ob, xs, z⟩
          · rw [q] at z; cases z
          · have z2 := un.frzs b ob _ z
            obtain ⟨e1, _⟩ := hok b _ z
            obtain ⟨e2, _⟩ := hok' b _ z2
            rw [e] at e1; cases e1
            exact e2
  cases hk : K.lookup a with
  | some o =>
    have e := KX a o hk
    rw [ha] at e
    cases e
    refine core (fun _ => none) (fun _ => .inl rfl) (.inr ⟨_, vs.toArray, _, hk, rfl, rfl, rfl, by rw [List.size_toArray, lenV]; exact hl, by simpa using rv⟩) (fun b u z => by have z' : (none : Option HO) = some u := z; cases z') (fun b z => absurd rfl z) fun z => absurd rfl z
  | none =>
    refine core (fun b => if b = a then some (.frz { cls := .type "list", data := .seq vs.toArray } (.lst (ns.map V.int))) else none) (fun b => ?_) (.inl (.inr ⟨{ cls := .type "list", data := .seq vs.toArray }, if_pos rfl⟩)) (fun b u z => ?_) (fun b z => ?_) fun _ => hk
    · by_cases hb : b = a
      · exact .inr ⟨_, _, if_pos hb⟩
      · exact .inl (if_neg hb)
    · by_cases hb : b = a
      · have z' := (if_pos hb).symm.trans z
        cases z'
        subst hb
        exact ⟨ha, by rw [List.length_map]; exact hl, vs, _, rv, ha⟩
      · have z' := (if_neg hb).symm.trans z
        cases z'
    · by_cases hb : b = a
      · exact hb
      · exact absurd (if_neg hb) z
end L2
namespace L2
open PySem PySem.Spec PyProof.Rows
noncomputable abbrev KOf {K : PySem.W.Frag} {h : Heap} (_ : K.In h) : PySem.W.Frag := K
theorem walk_of {l : PySem.W.OpenLaw} {n k : Nat} {q : Program} {loose : List Str} {XP : (Str → Option Value) → Heap → Prop} {YP : World → Heap → Prop} {d : DefRec} {K : Params → PySem.W.Frag} {CX : World → CXT} {sp : World → Sp} {x : Str}
    (hn : l.most = some n) (hn2 : n ≤ sizeLine) (hdf : d.params.defaults = []) (hr : Room k callerA)
    (hY : ∀ (w : World) (h : Heap), YP w h → (K w.params).In h)
    (F : ∀ (w : World) (mg : Str → Option Value) (fa : Addr) (h : Heap), (K w.params).In h → h.Ns mainGlobals mg → mg d.name = some (.ref fa) →
      ∃ fd : FuncData, (∀ (s : Shared) (u : Value), BindsTo s fd ⟨[u], []⟩ [(x, u)]) ∧
        ∀ base : Heap, (K w.params).In base → base.Ns mainGlobals mg → FnOk l.prog w (K w.params) mg base (CX w) k fa fd [x] (sp w))
    (hsp : ∀ (w : World) (H : Hp) (a : Addr) (ns : List Int), ns.length ≤ n → Only H → SqL (K w.params) H a (ns.map V.int) → sp w [.ref a] H (fun v _ => v = .bl true) fun _ _ _ => False)
    (hCX : ∀ (w : World) (H : Hp) (s : Shared) (e : Value) (s' : Shared), CX w [] H s (fun _ _ _ => False) e s' → False) :
    PySem.W.WalkO q loose XP YP l.row.toRowW d [] (fun f vs => PySem.call f vs) := by
  refine Att.attach_call hn hdf fun w s₀ s₁ mg mb fa o pm cd doc a vs ns G Y ho hd hcd hmg hobj hints hlen hg => ?_
  have KX := hY w _ Y
  obtain ⟨fd, hb, hF⟩ := F w mg fa _ KX G.T.g hmg
  exact law_call KX G.T.g G.T.b G.T.builtins G.T.nolimit hg hobj hints (Nat.le_trans hlen hn2) hr hF hb (fun H hO hS => hsp w H a ns hlen hO hS) fun H e s' => hCX w H s₁ e s'
end L2
/- THE LAST THEOREM (shape; LID, My.* are yours):
   My.Adr: a structure of the addresses that your layer names (classes, functions); My.Txt K t: a structure (Prop) of the equations over K;
   My.txt_mk : {K} {implicit addresses ..} (e1 : nsIn K mainGlobals "law" = some (some (.ref f))) (e2 : K.lookup f = some ⟨oc, od, .func (fnOf "law" "law" params body scope dV kV doc pm an cdv ct), sl⟩) (e3 : codeIn K cdv "law" = true) .. : ∃ t, My.Txt K t
set_option maxRecDepth 100000 in
set_option maxHeartbeats 0 in
theorem PySem.Challenge.cw_LID_holds : PySem.Challenge.rw_LID.Holds := by
  w_on; o_law; k_head; (case hw => w_witness2)
  k_fill
  refine L2.walk_of (l := PySem.Challenge.rw_LID) (n := 63) (k := 40) (x := "script") (CX := fun w => ..) (sp := fun _ => My.sp_law) rfl (by decide) rfl ⟨rfl, by decide, by decide⟩ (fun w h Y => PySem.W.kIn_of Y) ?F ?S ?C
  case F =>
    intro w mg fa h KX G hmg
    have T : ∃ t, My.Txt (L2.KOf KX) t := by
      dsimp only [L2.KOf]                          -- K must stand as «<heap const> w.params» for k_is
      refine' My.txt_mk ?e1 ?e2 ?e3 ..
      (case e1 => PySem.W.k_is)                    -- in the order: a name -> its address -> its object -> its parts
      (case e2 => PySem.W.k_is)
      ..
    obtain ⟨t, T⟩ := T
    have e0 := hmg.symm.trans (PySem.W.mg_of KX G T.law)
    cases e0                                       -- fa is the law's own address
    exact ⟨_, fun s u => .of_eq rfl, fun base kb nb => My.law_fn T kb nb⟩     -- if «.of_eq rfl» comes too early: refine' ⟨_, ?b, fun base kb nb => My.law_fn T kb nb⟩; exact fun s u => .of_eq rfl
  case S => exact fun w H a ns hl hO hS => ..
  case C => exact ..
(the tactic k_is has no namespace: write k_is) -/
namespace L2
open PySem PySem.Spec PyProof.Rows
noncomputable def inClass (s : Stmt) (j : Nat) : Stmt := match s with
  | .ClassDef _ _ _ body _ _ _ _ _ _ _ => body.getD j (.Pass ⟨0, 0, 0, 0⟩)
  | _ => .Pass ⟨0, 0, 0, 0⟩
noncomputable def defArgs (s : Stmt) : Arguments := match s with
  | .FunctionDef _ a _ _ _ _ _ _ _ _ => a
  | _ => { posonlyargs := [], args := [], vararg := none, kwonlyargs := [], kw_defaults := [], kwarg := none, defaults := [] }
noncomputable def defBody (s : Stmt) : List Stmt := match s with
  | .FunctionDef _ _ b _ _ _ _ _ _ _ => b
  | _ => []
noncomputable def defScope (s : Stmt) : Scope := match s with
  | .FunctionDef _ _ _ _ _ _ sc _ _ _ => sc
  | _ => { kind := .function, names := [], isGenerator := false, isCoroutine := false }
noncomputable abbrev CX0 : CXT := fun _ _ _ _ _ _ => False
noncomputable abbrev E0 : XK := fun _ _ _ => False
theorem pass0 {X : Cx} : Passes CX0 X E0 := fun _ _ _ _ _ _ _ h => h.elim
structure Fun (K : PySem.W.Frag) (x qual : Str) (st : Stmt) (f : Addr) (fd : FuncData) : Prop where
  ex : ∃ (oc : Value) (od : Option Addr) (kV doc pm : Value) (an : Option Addr) (cdv ct : Value) (osl : Array (Option Value)),
    fd = PySem.W.fnOf x qual (defArgs st) (defBody st) (defScope st) .none kV doc pm an cdv ct ∧ K.lookup f = some ⟨oc, od, .func fd, osl⟩ ∧ PySem.W.codeIn K cdv qual = true
  kp : PySem.W.keepIn K (.ref f) = true
section
variable {P : Program} {w : World} {K : PySem.W.Frag} {mg : Str → Option Value} {base : Heap}
theorem Fun.ok {x qual : Str} {st : Stmt} {f : Addr} {fd : FuncData} {N ps : List Str} {k : Nat} {sp : Sp} (F : Fun K x qual st f fd) (S : FnScope N ps (defScope st)) (len : ∀ vs H Q E, sp vs H Q E → vs.length = ps.length)
    (hbody : ∀ (cdv : Value) (A : Around) (outer : List Env) (s : Shared) (H : Hp) (vs : List V) (Q : VK) (E : XK), Room k (A.deeper (envOfC qual (defScope st) s.heap.objs.size f cdv)) → sp vs H Q E →
      ∃ t, PSs (cxOf CX0 P w K mg base N qual (defScope st) f cdv A outer s H E).nox (defBody st) t ∧ t { nx := fun _ H' => Q .non H', rt := Q } (start N vs) H) : FnOk P w K mg base CX0 (k + 1) f fd ps sp := by
  obtain ⟨oc, od, kV, doc, pm, an, cdv, ct, osl, rfl, lk, hcd⟩ := F.ex
  refine fn_of lk hcd S len fun A outer s H vs Q E hr hsp => ?_
  obtain ⟨t, h, q⟩ := hbody cdv A outer s H vs Q E hr hsp
  exact ⟨t, h.nox, q⟩
theorem Fun.binds {x qual : Str} {st : Stmt} {f : Addr} {fd : FuncData} {ps : List Str} (F : Fun K x qual st f fd)
    (h : ∀ (kV doc pm : Value) (an : Option Addr) (cdv ct : Value) (us : List Value), us.length = ps.length → bindArgs (PySem.W.fnOf x qual (defArgs st) (defBody st) (defScope st) .none kV doc pm an cdv ct) ⟨us, []⟩ = pure (ps.zip us)) : Binds K fd ps [] := by
  obtain ⟨oc, od, kV, doc, pm, an, cdv, ct, osl, rfl, lk, hcd⟩ := F.ex
  exact .all (h kV doc pm an cdv ct)
theorem fun_mk {x qual : Str} {st : Stmt} {f : Addr} {oc : Value} {od an : Option Addr} {osl : Array (Option Value)} {kV doc pm cdv ct : Value} (l : K.lookup f = some ⟨oc, od, .func (PySem.W.fnOf x qual (defArgs st) (defBody st) (defScope st) .none kV doc pm an cdv ct), osl⟩)
    (c : PySem.W.codeIn K cdv qual = true) (k : PySem.W.keepIn K (.ref f) = true) : Fun K x qual st f (PySem.W.fnOf x qual (defArgs st) (defBody st) (defScope st) .none kV doc pm an cdv ct) := ⟨⟨oc, od, kV, doc, pm, an, cdv, ct, osl, rfl, l, c⟩, k⟩
end
theorem iteF {A B : Prop} (h : B) : if false = true then A else B := by
  rw [if_neg Bool.false_ne_true]
  exact h
theorem iteT {A B : Prop} (h : A) : if true = true then A else B := by
  rw [if_pos rfl]
  exact h
noncomputable def Same (H H' : Hp) : Prop := ∀ b o, H b = some o → H' b = some o
theorem Same.refl (H : Hp) : Same H H := fun _ _ h => h
theorem Same.trans {H H1 H2 : Hp} (a : Same H H1) (b : Same H1 H2) : Same H H2 := fun c o h => b c o (a c o h)
theorem Same.free {H H' : Hp} (e : Same H H') {l : Addr} (h : H' l = Option.none) : H l = Option.none := by
  cases q : H l with
  | none => rfl
  | some o =>
    rw [e l o q] at h
    cases h
theorem Same.seq {K : PySem.W.Frag} {H H' : Hp} {a : Addr} {xs : List V} (e : Same H H') (h : SqL K H a xs) : SqL K H' a xs := by
  rcases h with (h | ⟨o, h⟩) | h
  · exact .inl (.inl (e _ _ h))
  · exact .inl (.inr ⟨o, e _ _ h⟩)
  · exact .inr h
end L2
set_option autoImplicit false
namespace L2
open PySem PySem.Spec PyProof.Rows
section
variable {κ : Type} [DecidableEq κ]
noncomputable def valV (kvs : List (κ × V)) (k : κ) : Option V := (kvs.find? fun kv => decide (kv.1 = k)).map (·.2)
noncomputable def putK (kvs : List (κ × V)) (k : κ) (v : V) : List (κ × V) :=
  if (kvs.any fun kv => decide (kv.1 = k)) = true then kvs.map (fun kv => if kv.1 = k then (kv.1, v) else kv) else kvs ++ [(k, v)]
noncomputable def dropK (kvs : List (κ × V)) (k : κ) : List (κ × V) := kvs.filter fun kv => decide (kv.1 ≠ k)
end
noncomputable abbrev KT (H : Hp) : List (List Key × V) → List (List Key × Addr × Value) → Prop := Paired fun p q => p.1 = q.1 ∧ H q.2.1 = some (.tup (p.1.map kV)) ∧ RelV p.2 q.2.2
noncomputable def DGet (H : Hp) (a : Addr) (y : V) (r : Option V) : Prop :=
  (∃ kvs k, Rd H a (.dK kvs) ∧ y = kV k ∧ r = valV kvs k) ∨ ∃ kvs k b, Rd H a (.dT kvs) ∧ y = .ref b ∧ H b = some (.tup (k.map kV)) ∧ r = valV kvs k
noncomputable def DPut (H : Hp) (a : Addr) (y v : V) (H' : Hp) : Prop :=
  (∃ kvs k, H a = some (.dK kvs) ∧ y = kV k ∧ kvs.length < sizeLine ∧ H' = upd H a (.dK (putK kvs k v))) ∨
  ∃ kvs k b, H a = some (.dT kvs) ∧ y = .ref b ∧ H b = some (.tup (k.map kV)) ∧ kvs.length < sizeLine ∧ H' = upd H a (.dT (putK kvs k v))
noncomputable def NoSl (i : Expr) : Prop := ∀ ov iv, subscripted i false ov iv = operate [ov, iv] (getItem ov iv)
noncomputable def tDGet (td ty : TE) : TE := fun σ H Q => td σ H fun x H1 => ty σ H1 fun y H2 => ∃ a v, x = .ref a ∧ DGet H2 a y (some v) ∧ Q v H2
noncomputable def tDIn (ty td : TE) : TE := fun σ H Q => ty σ H fun y H1 => td σ H1 fun x H2 => ∃ a o, x = .ref a ∧ DGet H2 a y o ∧ Q (.bl o.isSome) H2
noncomputable def tDNotIn (ty td : TE) : TE := fun σ H Q => ty σ H fun y H1 => td σ H1 fun x H2 => ∃ a o, x = .ref a ∧ DGet H2 a y o ∧ Q (.bl (!o.isSome)) H2
noncomputable def sDPut (td ty tv : TE) : TS := fun D σ H => tv σ H fun v H1 => td σ H1 fun x H2 => ty σ H2 fun y H3 => ∃ a H4, x = .ref a ∧ DPut H3 a y v H4 ∧ D.nx σ H4
noncomputable def sDAug (td ty tv : TE) (rd : V → V → Hp → VK → Prop) : TS := fun D σ H => td σ H fun x H1 => ty σ H1 fun y H2 => ∃ a v, x = .ref a ∧ DGet H2 a y (some v) ∧
  tv σ H2 fun y2 H3 => rd v y2 H3 fun z H4 => ∃ H5, DPut H4 a y z H5 ∧ D.nx σ H5
noncomputable def sDDel (td ty : TE) : TS := fun D σ H => td σ H fun x H1 => ty σ H1 fun y H2 => ∃ a kvs k, x = .ref a ∧ H2 a = some (.dK kvs) ∧ y = kV k ∧ (valV kvs k).isSome = true ∧ D.nx σ (upd H2 a (.dK (dropK kvs k)))
noncomputable def tDNewK : TE := fun _ H Q => ∀ p, H p = none → Q (.ref p) (upd H p (.dK []))
noncomputable def tDNewT : TE := fun _ H Q => ∀ p, H p = none → Q (.ref p) (upd H p (.dT []))
noncomputable def tPairs : List (TE × TE) → St → Hp → (List (V × V) → Hp → Prop) → Prop
  | [], _, H, Q => Q [] H
  | (tk, tv) :: r, σ, H, Q => tk σ H fun x H1 => tv σ H1 fun y H2 => tPairs r σ H2 fun ps H3 => Q ((x, y) :: ps) H3
noncomputable abbrev VV : List (V × V) → List (Value × Value) → Prop := Paired fun p q => RelV p.1 q.1 ∧ RelV p.2 q.2
noncomputable def PPs (X : Cx) (pos : Pos) (keys : List (Option Expr)) (values : List Expr) (trs : List (TE × TE)) : Prop :=
  ∀ (pins : List (Addr × Obj)) (s : Shared) (σ : St) (H : Hp) (Q : List (V × V) → Hp → Prop), Inv X pins σ H s → tPairs trs σ H Q →
    wpAny (model X.prog X.w) X.A (evalPairs (pairTrees keys values X.env pos)) (fun vs s' => ∃ ps H', Inv X pins σ H' s' ∧ VV ps vs ∧ Q ps H') X.xe s
noncomputable def mergeK (kvs more : List (Key × V)) : List (Key × V) := more.foldl (fun acc kv => putK acc kv.1 kv.2) kvs
noncomputable def tDisp (trs : List (TE × TE)) : TE := fun σ H Q => ∀ p, H p = none → tPairs trs σ (upd H p (.dK [])) fun ps H2 => H2 p = some (.dK []) ∧ ∃ kvs : List (Key × V), ps = kvs.map (fun kv => (kV kv.1, kv.2)) ∧ kvs.length ≤ 15 ∧ Q (.ref p) (upd H2 p (.dK (mergeK [] kvs)))
structure M1 (X : Cx) (o : Expr) (m : Str) (apos : Pos) (e : Expr) (cpos : Pos) : Prop where
  base : attributeBase o m X.env (eval o X.env) = eval o X.env
  few : ((backTo cpos (starEach [e] X.env)).all (fun x => !x.1) && (backToKw cpos (keywordEach [] X.env)).all (fun x => x.1.isSome)
    && decide (([e] : List Expr).length + ([] : List Keyword).length + (if ([] : List Keyword).isEmpty then 0 else 1) < 30)) = true
  line : (apos.endLine == cpos.line) = true
  trees : backTo cpos (starEach [e] X.env) = [(false, eval e X.env)]
structure M2 (X : Cx) (o : Expr) (m : Str) (apos : Pos) (e f : Expr) (cpos : Pos) : Prop where
  base : attributeBase o m X.env (eval o X.env) = eval o X.env
  few : ((backTo cpos (starEach [e, f] X.env)).all (fun x => !x.1) && (backToKw cpos (keywordEach [] X.env)).all (fun x => x.1.isSome)
    && decide (([e, f] : List Expr).length + ([] : List Keyword).length + (if ([] : List Keyword).isEmpty then 0 else 1) < 30)) = true
  line : (apos.endLine == cpos.line) = true
  trees : backTo cpos (starEach [e, f] X.env) = [(false, eval e X.env), (false, eval f X.env)]
noncomputable def IsD (H : Hp) (a : Addr) : Prop := (∃ kvs, Rd H a (.dK kvs)) ∨ ∃ kvs, Rd H a (.dT kvs)
noncomputable def tDGet1 (td ty : TE) : TE := fun σ H Q => td σ H fun x H1 => ∃ a, x = .ref a ∧ IsD H1 a ∧ ty σ H1 fun y H2 => ∃ o, DGet H2 a y o ∧ Q (o.getD .non) H2
noncomputable def tDGet2 (td ty tx : TE) : TE := fun σ H Q => td σ H fun x H1 => ∃ a, x = .ref a ∧ IsD H1 a ∧ ty σ H1 fun y H2 => tx σ H2 fun z H3 => ∃ o, DGet H3 a y o ∧ Q (o.getD z) H3
noncomputable def tDPop1 (td ty : TE) : TE := fun σ H Q => td σ H fun x H1 => ∃ a, x = .ref a ∧ IsD H1 a ∧ ty σ H1 fun y H2 => ∃ kvs k v, H2 a = some (.dK kvs) ∧ y = kV k ∧ valV kvs k = some v ∧ Q v (upd H2 a (.dK (dropK kvs k)))
noncomputable def tDPop2 (td ty tx : TE) : TE := fun σ H Q => td σ H fun x H1 => ∃ a, x = .ref a ∧ IsD H1 a ∧ ty σ H1 fun y H2 => tx σ H2 fun z H3 => ∃ kvs k, H3 a = some (.dK kvs) ∧ y = kV k ∧
  (∀ v, valV kvs k = some v → Q v (upd H3 a (.dK (dropK kvs k)))) ∧ (valV kvs k = none → Q z H3)
end L2
namespace L2
open PySem
noncomputable def clGo (env : Env) : List (Str × NameKind) → List (Str × Addr) → List (Str × Addr)
  | [], cs => cs
  | (n, k) :: r, cs => clGo env r (if k == .free then (n, (env.cells.lookup n).getD 0) :: cs else cs)
noncomputable def clOf (scope : Scope) (env : Env) : List (Str × Addr) := clGo env scope.names []
theorem closureFor_eq {scope : Scope} {env : Env} (h : ∀ x ∈ scope.names, x.2 = .free → ∃ c, env.cells.lookup x.1 = some c) : closureFor scope env = pure (clOf scope env) := by
  unfold closureFor clOf
  have key : ∀ (l : List (Str × NameKind)) (cs : List (Str × Addr)), (∀ x ∈ l, x.2 = .free → ∃ c, env.cells.lookup x.1 = some c) →
      (forIn l cs (fun x (r : List (Str × Addr)) => match x with
        | (name, kind) => if (kind == NameKind.free) = true then do let a ← cellOf env name; pure (ForInStep.yield ((name, a) :: r)) else pure (ForInStep.yield r)) : Sem (List (Str × Addr))) = pure (clGo env l cs) := by
    intro l
    induction l with
    | nil => intro cs _; rfl
    | cons x r ih =>
      intro cs hx
      obtain ⟨n, k⟩ := x
      rw [List.forIn_cons]
      by_cases hk : (k == NameKind.free) = true
      · obtain ⟨c, hc⟩ := hx (n, k) List.mem_cons_self (by simpa using hk)
        have e : cellOf env n = pure c := by unfold cellOf; rw [show env.cells.lookup n = some c from hc]
        simp only [hk, if_true, e, pure_bind]
        rw [ih _ fun y hy => hx y (List.mem_cons_of_mem _ hy)]
        have hc' : env.cells.lookup n = some c := hc
        simp only [clGo, hk, if_true, hc', Option.getD_some]
      · simp only [hk, Bool.false_eq_true, if_false, pure_bind]
        rw [ih _ fun y hy => hx y (List.mem_cons_of_mem _ hy)]
        simp only [clGo, hk, Bool.false_eq_true, if_false]
  have := key scope.names [] h
  dsimp only
  rw [this]
  rfl
theorem clGo_mem (env : Env) : ∀ (l : List (Str × NameKind)) (cs : List (Str × Addr)) (p : Str × Addr), p ∈ clGo env l cs → p ∈ cs ∨ ((p.1, NameKind.free) ∈ l ∧ p.2 = (env.cells.lookup p.1).getD 0)
  | [], cs, p, h => .inl h
  | (n, k) :: r, cs, p, h => by
    unfold clGo at h
    rcases clGo_mem env r _ p h with h | ⟨h1, h2⟩
    · by_cases hk : (k == NameKind.free) = true
      · rw [if_pos hk] at h
        rcases List.mem_cons.mp h with h | h
        · have e : k = .free := by simpa using hk
          subst h; subst e
          exact .inr ⟨List.mem_cons_self, rfl⟩
        · exact .inl h
      · rw [if_neg hk] at h; exact .inl h
    · exact .inr ⟨List.mem_cons_of_mem _ h1, h2⟩
theorem clGo_has (env : Env) : ∀ (l : List (Str × NameKind)) (cs : List (Str × Addr)) (n : Str), ((n, NameKind.free) ∈ l ∨ ∃ a, (n, a) ∈ cs) → ∃ a, (n, a) ∈ clGo env l cs
  | [], cs, n, h => by
    rcases h with h | h
    · cases h
    · exact h
  | (m, k) :: r, cs, n, h => by
    unfold clGo
    refine clGo_has env r _ n ?_
    rcases h with h | ⟨a, h⟩
    · rcases List.mem_cons.mp h with h | h
      · cases h
        exact .inr ⟨_, by rw [if_pos (by simp)]; exact List.mem_cons_self⟩
      · exact .inl h
    · refine .inr ⟨a, ?_⟩
      split
      · exact List.mem_cons_of_mem _ h
      · exact h
theorem lookup_of_mem_some {β : Type} : ∀ {l : List (Str × β)} {n : Str} {a : β}, (n, a) ∈ l → ∃ b, l.lookup n = some b
  | [], _, _, h => by cases h
  | (m, b) :: r, n, a, h => by
    rw [List.lookup_cons]
    by_cases e : n = m
    · subst e; simp
    · have hb : (n == m) = false := by simpa using e
      rw [hb]
      rcases List.mem_cons.mp h with h | h
      · cases h; exact absurd rfl e
      · exact lookup_of_mem_some h
theorem clOf_in {scope : Scope} {env : Env} (h : ∀ x ∈ scope.names, x.2 = .free → ∃ c, env.cells.lookup x.1 = some c) {x : Str} {c : Addr} (e : (clOf scope env).lookup x = some c) : env.cells.lookup x = some c := by
  have m := PySem.mem_of_lookup e
  rcases clGo_mem env scope.names [] (x, c) m with h' | ⟨h1, h2⟩
  · cases h'
  · obtain ⟨d, hd⟩ := h _ h1 rfl
    have hd' : env.cells.lookup x = some d := hd
    have h2' : c = (env.cells.lookup x).getD 0 := h2
    rw [hd'] at h2' ⊢
    rw [h2']; rfl
theorem clOf_has {scope : Scope} {env : Env} {x : Str} (h : (x, NameKind.free) ∈ scope.names) : ∃ c, (clOf scope env).lookup x = some c := by
  obtain ⟨a, ha⟩ := clGo_has env scope.names [] x (.inl h)
  exact lookup_of_mem_some ha
end L2
namespace L2
open PySem PySem.Spec PyProof.Rows
structure CompSc (X : Cx) (scope : Scope) (N' : List Str) (mp : List (Option Nat)) : Prop where
  kind : scope.kind = .function
  nocell : ∀ x ∈ scope.names, x.2 ≠ .cell
  names : ∀ x ∈ scope.names, x.2 = .local → scope.names.lookup x.1 = some .local
  fr : ∀ x ∈ scope.names, x.2 = .free → X.env.scope.names.lookup x.1 = some .cell ∨ X.env.scope.names.lookup x.1 = some .free
  len : mp.length = N'.length
  map : ∀ (i : Nat) (x : Str) (j : Nat), N'[i]? = some x → mp[i]? = some (some j) → X.N[j]? = some x ∧ (x, NameKind.free) ∈ scope.names ∧ ((relabel scope X.env).names.lookup x = some .cell ∨ (relabel scope X.env).names.lookup x = some .free)
noncomputable def inSt (mp : List (Option Nat)) (σ : St) : St := mp.map fun o => o.bind fun j => (σ[j]?).join
noncomputable def compCx (X : Cx) (scope : Scope) (N' : List Str) (s : Shared) (H : Hp) (fp : List Addr) : Cx :=
  { X with N := N', s₀ := s, H₀ := H, env := compEnvC scope (clOf scope X.env) s.heap.objs.size X.env, outer := X.stack, ex := fp, fn := fun _ => false, pn := [], xe := fun _ _ => False }
theorem relabel_free {scope : Scope} {env : Env} {x : Str} (nc : ∀ y ∈ scope.names, y.2 ≠ .cell) (h : (relabel scope env).names.lookup x = some .cell ∨ (relabel scope env).names.lookup x = some .free) : (x, NameKind.free) ∈ scope.names := by
  have m : ∃ k, (x, k) ∈ (relabel scope env).names ∧ (k = .cell ∨ k = .free) := by
    rcases h with h | h
    · exact ⟨_, PySem.mem_of_lookup h, .inl rfl⟩
    · exact ⟨_, PySem.mem_of_lookup h, .inr rfl⟩
  obtain ⟨k, hm, hk⟩ := m
  unfold relabel at hm
  obtain ⟨⟨n, k'⟩, hin, e⟩ := List.mem_map.mp hm
  dsimp only at e
  split at e
  · rename_i hc
    have e1 : n = x := congrArg Prod.fst e
    have e2 : k' = .free := by
      have := (Bool.and_eq_true_iff.mp (Bool.and_eq_true_iff.mp hc).1).1
      simpa using this
    rw [← e1, ← e2]; exact hin
  · have e1 : n = x := congrArg Prod.fst e
    have e2 : k' = k := congrArg Prod.snd e
    rcases hk with hk | hk
    · exact absurd (e2.trans hk) (nc _ hin)
    · rw [← e1, ← hk, ← e2]; exact hin
section
variable {X : Cx} {pins : List (Addr × Obj)} {σ : St} {H : Hp} {s : Shared} {scope : Scope} {N' : List Str} {mp : List (Option Nat)} {fp : List Addr}
theorem CompSc.cells (ck : CompSc X scope N' mp) (ok : X.Ok) : ∀ x ∈ scope.names, x.2 = .free → ∃ c, X.env.cells.lookup x.1 = some c := fun x hx hf => ok.has x.1 (ck.fr x hx hf)
theorem Inv.inner (I : Inv X pins σ H s) (ck : CompSc X scope N' mp) (hf : ∀ b ∈ fp, FpOk X pins H b) (hlt : ∀ b ∈ fp, b < s.heap.objs.size) {h₁ : Heap} {tk : Nat}
    (hn : h₁.Ns s.heap.objs.size (fun _ => none)) (hk : ∀ b o, s.heap.get? b = some o → h₁.get? b = some o) :
    Inv (compCx X scope N' s H fp) [] (inSt mp σ) H { s with heap := h₁, toks := tk } := by
  have hfree := ck.cells I.ok
  have cin : ∀ x c, (clOf scope X.env).lookup x = some c → X.env.cells.lookup x = some c := fun x c e => clOf_in hfree e
  have clt : ∀ x c, X.env.cells.lookup x = some c → c < s.heap.objs.size := fun x c e => by
    obtain ⟨v, q⟩ := I.cell x c e
    exact q.lt
  refine ⟨⟨I.ok.mod, ck.kind, I.ok.glob, I.ok.blt, Nat.le_refl _, fun x y c h1 h2 => I.ok.inj x y c (cin x c h1) (cin y c h2), fun x hx => ?_, fun x c h _ => ?_, I.ok.hd, I.ok.frames, .inl rfl, fun b hb => ⟨?_, fun x c e => ?_⟩, I.bs, Nat.le_trans I.ok.bsz I.sz, fun b o e hb => ?_, fun b hb hs => ?_, I.stack, I.stkFree⟩,
    rfl, I.bare, Un.kept hk, ⟨_, hn, fun i x v h1 h2 h3 => ?_⟩, fun x c e => ?_, I.hok.fresh (Nat.le_refl _), fun x c e => ?_, fun p hp => absurd (show p ∈ ([] : List (Addr × Obj)) from hp) (by simp), I.hok.kept hk, ?_⟩
  · exact clOf_has (relabel_free ck.nocell hx)
  · exact absurd (show false = true from h) (by decide)
  · exact Nat.ne_of_lt (hlt b hb)
  · exact (hf b hb).2.2.2.2.1 x c (cin x c e)
  · have q := (hf b hb).2.2.2.1
    rcases q with q | q
    · exact I.ok.noex b o e q
    · exact absurd (Nat.lt_of_lt_of_le (Heap.lt_size e) (Nat.le_trans I.ok.bsz q)) (Nat.lt_irrefl _)
  · rcases List.mem_cons.mp (I.stkSub b hs) with z | z
    · exact (hf b hb).2.1 z
    · exact (hf b hb).2.2.1 z
  · have hi : ∃ j, mp[i]? = some (some j) ∧ σ[j]? = some (some v) := by
      unfold inSt at h2
      rw [List.getElem?_map] at h2
      cases q : mp[i]? with
      | none => rw [q] at h2; cases h2
      | some o =>
        rw [q] at h2
        have h2' : (o.bind fun j => (σ[j]?).join) = some v := Option.some.inj h2
        cases o with
        | none => cases h2'
        | some j =>
          have h2'' : (σ[j]?).join = some v := h2'
          refine ⟨j, rfl, ?_⟩
          cases r : σ[j]? with
          | none => rw [r] at h2''; cases h2''
          | some w' =>
            rw [r] at h2''
            have : w' = some v := h2''
            rw [this]
    obtain ⟨j, hj, hσ⟩ := hi
    obtain ⟨m1, m2, m3⟩ := ck.map i x j h1 hj
    obtain ⟨m, hm, hl⟩ := I.loc
    have vis : Vis X.env.scope x := by
      rcases ck.fr _ m2 rfl with q | q
      · exact .inr (.inl q)
      · exact .inr (.inr q)
    obtain ⟨u, ru, l⟩ := hl j x v m1 hσ vis
    refine ⟨u, ru, .inr ⟨m3, ?_⟩⟩
    obtain ⟨c, hc⟩ := clOf_has (env := X.env) m2
    refine ⟨c, hc, ?_⟩
    rcases l with ⟨k, _⟩ | ⟨_, c', e', z⟩
    · rcases ck.fr _ m2 rfl with q | q
      · have k' : X.env.scope.names.lookup x = some .local := k
        have q' : X.env.scope.names.lookup x = some .cell := q
        rw [k'] at q'; cases q'
      · have k' : X.env.scope.names.lookup x = some .local := k
        have q' : X.env.scope.names.lookup x = some .free := q
        rw [k'] at q'; cases q'
    · have e2 := cin x c hc
      rw [e'] at e2
      cases e2
      obtain ⟨o, ho, hd⟩ := z
      exact ⟨o, hk _ o ho, hd⟩
  · obtain ⟨v, o, ho, hd⟩ := I.cell x c (cin x c e)
    exact ⟨v, o, hk _ o ho, hd⟩
  · exact I.freeC x c (cin x c e)
  · show (inSt mp σ).length = N'.length
    unfold inSt
    rw [List.length_map]
    exact ck.len
theorem Inv.outer {σ' : St} {H' : Hp} {s' : Shared} (I : Inv X pins σ H s) (hf : ∀ b ∈ fp, FpOk X pins H b) (J : Inv (compCx X scope N' s H fp) [] σ' H' s') : Inv X pins σ H' s' :=
  I.call' (ch := fp) J.os J.base J.hok J.bare fun b hb => ⟨(hf b hb).2.2.2.1, (hf b hb).2.1, (hf b hb).2.2.2.2.1, (hf b hb).2.2.2.2.2⟩
end
noncomputable def KeepsSt (σ σ' : St) : Prop := σ'.length = σ.length ∧ ∀ (i : Nat) v, σ[i]? = some (some v) → σ'[i]? = some (some v)
noncomputable def PTs (X : Cx) (ifs : List Expr) (t : TT) : Prop :=
  ∀ (pins : List (Addr × Obj)) (s : Shared) (σ : St) (H : Hp) (Q : Bool → Hp → Prop), Inv X pins σ H s → t σ H Q →
    wpAny (model X.prog X.w) X.A (forIn ifs true fun c r => if r = true then do let ok ← isTrue c X.env (eval c X.env); pure (ForInStep.yield ok) else pure (ForInStep.yield r)) (TP X pins σ Q) X.xe s
theorem pts_nil {X : Cx} : PTs X [] (fun _ H Q => Q true H) := fun _ _ _ H _ I h => wpAny_tests_nil ⟨H, I, h⟩
theorem pts_one {X : Cx} {c : Expr} {t : TT} (hc : PT X c t) : PTs X [c] t := fun pins s σ H Q I h => wpAny_tests_one (hc pins s σ H Q I h)
noncomputable def CompW (J : It) (σ' : St) (g : TG) (tt : TT) (te : TE) (D : Addr) (Fin : Hp → Prop) (H1 : Hp) : Prop :=
  ∃ W : Nat → Nat → Hp → Prop, (∃ m, W 0 m (upd H1 D (.lst []))) ∧ ∀ i m H, W i m H →
    (J.stop i H ∧ Fin H) ∨ (J.go i H ∧ ∃ Nx : Hp → Prop, (∀ H', Nx H' → ∃ m', m' < m ∧ W (i + 1) m' H') ∧ ∀ x H', J.yld i H x H' → g x σ' H' fun σ2 H2 => KeepsSt σ' σ2 ∧
      tt σ2 H2 fun ok H3 => if ok = true then te σ2 H3 fun y H4 => ∃ ys, H4 D = some (.lst ys) ∧ ys.length < sizeLine ∧ Nx (upd H4 D (.lst (ys ++ [y]))) else Nx H3)
noncomputable def tComp (mp : List (Option Nat)) (wi : TI) (g : TG) (tt : TT) (te : TE) : TE := fun σ H Q => wi σ H fun J H1 => ∀ D, H1 D = none → CompW J (inSt mp σ) g tt te D (fun H => Q (.ref D) H) H1
theorem codeAny_compLoop_gen {prog : Program} {w : World} {A : Around} {R : Result → Shared → Prop} {s : Shared} {elt target iter : Expr} {ifs : List Expr} {scope : Scope} {pos : Pos} {it acc : Value} {env : Env} (I : Nat → Shared → Prop)
    (turn : ∀ n s, I n s → wpAny (model prog w) A (pyNext it) (fun r s₁ => match r with
      | none => R (.ok .next) s₁
      | some v => wpAny (model prog w) A (letOwnedTupleGo target it v) (fun _ s₀ => wpAny (model prog w) A (assign target env v) (fun _ s₂ =>
          wpAny (model prog w) A (forIn ifs true fun c r => if r = true then do let ok ← isTrue c env (eval c env); pure (ForInStep.yield ok) else pure (ForInStep.yield r)) (fun ok s₃ =>
            if ok = true then wpAny (model prog w) A (eval elt env) (fun x s₄ =>
              wpAny (model prog w) A (call (.builtin "list.append") [acc, x]) (fun _ s₅ => ∃ m, m < n ∧ I m s₅) (fun _ _ => False) s₄) (fun _ _ => False) s₃
            else ∃ m, m < n ∧ I m s₃) (fun _ _ => False) s₂) (fun _ _ => False) s₀) (fun _ _ => False) s₁) (fun _ _ => False) s)
    (n : Nat) (h : I n s) :
    codeAny (model prog w) A (.compLoop (.ListComp elt [⟨target, iter, ifs, 0⟩] scope pos) 0 it acc env) R s := by
  refine codeAny_loop rfl I (fun n s hI => ?_) n h
  show wpAny _ A ((compTurn (.ListComp elt [⟨target, iter, ifs, 0⟩] scope pos) 0 it acc env).onRaise (fun x => do noteFrame x env; theTreesLotGoes x)) _ _ s
  refine wpAny_noted ?_
  rw [compTurn_list]
  have no : ∀ {P : Value → Shared → Prop} (e : Value) (s' : Shared), False → P e s' := fun _ _ f => f.elim
  refine wpAny_bind (wpAny_standAt (wpAny_bind (wpAny_mono (turn n s hI) (fun r s₁ h₁ => ?_) no)))
  cases r with
  | none => exact wpAny_pure h₁
  | some v =>
    refine wpAny_bind (wpAny_mono h₁ (fun _ s₀ h₀ => ?_) no)
    refine wpAny_bind (wpAny_mono h₀ (fun _ s₂ h₂ => wpAny_bind (wpAny_mono h₂ (fun ok s₃ h₃ => ?_) no)) no)
    cases ok with
    | false => exact wpAny_pure ⟨rfl, h₃⟩
    | true =>
      exact wpAny_bind (wpAny_bind (wpAny_mono h₃ (fun x s₄ h₄ => wpAny_bind (wpAny_mono h₄ (fun _ s₅ h₅ => wpAny_pure (wpAny_pure ⟨rfl, h₅⟩)) no)) no))
section
variable {X : Cx} {elt iter tg : Expr} {ifs : List Expr} {scope : Scope} {pos : Pos} {N' : List Str} {mp : List (Option Nat)} {wi : TI} {g : TG} {tt : TT} {te : TE}
theorem comp_block {pins : List (Addr × Obj)} {σ : St} {H : Hp} {s : Shared} {J : It} {it : Addr} {fp : List Addr} {tn : Nat → Heap → Prop} {Fin : Hp → Prop} {E : Value → Shared → Prop} {RR : Value → Addr → Result → Shared → Prop}
    (hc : X.calm = true) (ck : CompSc X scope N' mp) (hb : ∀ s H fp, PG (compCx X scope N' s H fp) tg g ∧ PTs (compCx X scope N' s H fp) ifs tt ∧ PE (compCx X scope N' s H fp) elt te)
    (I : Inv X pins σ H s) (T : Turn X.prog X.w X.K tg J fp it tn) (st : tn 0 s.heap) (hf : ∀ b ∈ fp, FpOk X pins H b) (hq : CompW J (inSt mp σ) g tt te s.heap.objs.size Fin H)
    (hRR : ∀ (C : Addr) (s' : Shared) (H' : Hp), Inv X pins σ H' s' → Fin H' → (∃ m, s'.heap.Ns C m) → H' C = none → C ≠ X.env.locals → X.s₀.heap.objs.size ≤ C → (∀ x c, X.env.cells.lookup x = some c → c ≠ C) → (∀ p ∈ X.pn ++ pins, p.1 ≠ C) → RR (.ref s.heap.objs.size) C (.ok .next) s') :
    wpAny (model X.prog X.w) X.A (newList []) (fun acc s₃ => wpAny (model X.prog X.w) X.A (newFunctionEnv scope X.env.globals (clOf scope X.env) [] X.env.qual none .none (some X.env)) (fun cenv s₄ =>
      codeAny (model X.prog X.w) X.A (.compStart (.ListComp elt [⟨tg, iter, ifs, 0⟩] scope pos) 0 (.ref it) acc { cenv with scope := relabel scope X.env }) (RR acc cenv.locals) s₄) E s₃) E s := by
  refine wpAny_newObj_type (wpAny_newFunctionEnv ck.nocell (by intro y hy; simp at hy) (fun h₁ hns₁ hsb₁ => ?_) ck.kind)
  dsimp only at hns₁ hsb₁ ⊢
  have I3 : Inv X pins σ (upd H s.heap.objs.size (.lst [])) { s with heap := s.heap.push { cls := .type "list", dict := none, data := .seq ([] : List Value).toArray } } := I.lnew (its := []) (t' := s.toks) .nil (Nat.zero_le _)
  generalize hs3 : ({ s with heap := s.heap.push { cls := .type "list", dict := none, data := .seq ([] : List Value).toArray } } : Shared) = s3 at I3
  have e3 : s.heap.push { cls := .type "list", dict := none, data := .seq ([] : List Value).toArray } = s3.heap := by rw [← hs3]
  rw [e3] at hns₁ hsb₁ ⊢
  have sz3 : s3.heap.objs.size = s.heap.objs.size + 1 := by rw [← e3, Heap.size_push]
  have le3 : s.heap.objs.size ≤ s3.heap.objs.size := by rw [sz3]; exact Nat.le_succ _
  have fplt : ∀ b ∈ fp, b < s.heap.objs.size := fun b hb => by
    obtain ⟨o, e, _⟩ := T.obj 0 _ st b hb
    exact Heap.lt_size e
  have hf3 : ∀ b ∈ fp, FpOk X pins (upd H s.heap.objs.size (.lst [])) b := fun b hb => ⟨by rw [upd_ne (Nat.ne_of_lt (fplt b hb))]; exact (hf b hb).1, (hf b hb).2⟩
  have k1 : ∀ b o, s3.heap.get? b = some o → h₁.get? b = some o := fun b o e => by
    rw [hsb₁.2 b (Nat.ne_of_lt (Heap.lt_size e))]
    exact Heap.get?_push_of_some _ e
  have k0 : ∀ b o, s.heap.get? b = some o → h₁.get? b = some o := fun b o e => k1 b o (by rw [← e3]; exact Heap.get?_push_of_some _ e)
  obtain ⟨W, ⟨m0, w0⟩, turn⟩ := hq
  obtain ⟨hg, ht, he⟩ := hb s3 (upd H s.heap.objs.size (.lst [])) fp
  have no : ∀ {P : Value → Shared → Prop} (e : Value) (s' : Shared), False → P e s' := fun _ _ f => f.elim
  have stat : ∀ {H' : Hp}, (∀ b ∈ fp, H' b = none) → ∀ b ∈ fp, FpOk (compCx X scope N' s3 (upd H s.heap.objs.size (.lst [])) fp) [] H' b := fun hn b hb =>
    ⟨hn b hb, Nat.ne_of_lt (Nat.lt_of_lt_of_le (fplt b hb) le3), fun z => by
      rcases List.mem_cons.mp (I3.stkSub b z) with z | z
      · exact (hf b hb).2.1 z
      · exact (hf b hb).2.2.1 z, .inl hb, fun x c e => (hf b hb).2.2.2.2.1 x c (clOf_in (ck.cells I.ok) e), fun p hp => absurd (show p ∈ ([] : List (Addr × Obj)) from hp) (by simp)⟩
  have loop : ∀ tk : Nat, codeAny (model X.prog X.w) X.A (.compLoop (.ListComp elt [⟨tg, iter, ifs, 0⟩] scope pos) 0 (.ref it) (.ref s.heap.objs.size) (compEnvC scope (clOf scope X.env) s3.heap.objs.size X.env))
      (RR (.ref s.heap.objs.size) s3.heap.objs.size) { s3 with heap := h₁, toks := tk } := by
    intro tk
    have I4 : Inv (compCx X scope N' s3 (upd H s.heap.objs.size (.lst [])) fp) [] (inSt mp σ) (upd H s.heap.objs.size (.lst [])) { s3 with heap := h₁, toks := tk } :=
      I3.inner ck hf3 (fun b hb => Nat.lt_of_lt_of_le (fplt b hb) le3) (by simpa using hns₁) k1
    refine codeAny_compLoop_gen (fun n s' => ∃ i H', Inv (compCx X scope N' s3 (upd H s.heap.objs.size (.lst [])) fp) [] (inSt mp σ) H' s' ∧ tn i s'.heap ∧ (∀ b ∈ fp, H' b = none) ∧ W i n H') ?_ m0
      ⟨0, _, I4, T.keep _ _ _ st fun b _ o e => k0 b o e, fun b hb => (hf3 b hb).1, w0⟩
    rintro n s5 ⟨i, H5, I5, st5, fr5, w5⟩
    rcases turn i n H5 w5 with ⟨stop, fin⟩ | ⟨go, Nx, hN, step⟩
    · refine thn (T.done (compCx X scope N' s3 (upd H s.heap.objs.size (.lst [])) fp) rfl rfl rfl hc i [] s5 (inSt mp σ) H5 _ I5 (stat fr5) st5 stop) fun r s6 ⟨hr, I6⟩ => ?_
      subst hr
      have IO : Inv X pins σ H5 s6 := I3.outer hf3 I6
      obtain ⟨m, hm, _⟩ := I6.loc
      refine hRR _ s6 H5 IO fin ⟨m, hm⟩ I6.free (Nat.ne_of_gt I3.lt) I3.sz (fun x c e => ?_) fun p hp => ?_
      · obtain ⟨v, q⟩ := I3.cell x c e
        exact Nat.ne_of_lt q.lt
      · exact Nat.ne_of_lt (Heap.lt_size (I3.pin p hp).1)
    · refine thn (T.item (compCx X scope N' s3 (upd H s.heap.objs.size (.lst [])) fp) rfl rfl rfl hc i [] s5 (inSt mp σ) H5 _ I5 (stat fr5) st5 go) fun r s6 ⟨u, hr, h6⟩ => ?_
      subst hr
      refine thn h6 fun _ s7 ⟨x, H7, I7, r7, y7, st7, fr7⟩ => ?_
      have I7' := I7.pinned (stat fr7) (T.obj _ _ st7)
      have back : ∀ {σ9 : St} {H9 : Hp} {s9 : Shared}, Inv (compCx X scope N' s3 (upd H s.heap.objs.size (.lst [])) fp) ([] ++ pinsAt fp s7.heap) σ9 H9 s9 → KeepsSt (inSt mp σ) σ9 → Nx H9 →
          ∃ m, m < n ∧ ∃ i H', Inv (compCx X scope N' s3 (upd H s.heap.objs.size (.lst [])) fp) [] (inSt mp σ) H' s9 ∧ tn i s9.heap ∧ (∀ b ∈ fp, H' b = none) ∧ W i m H' := fun {σ9 H9 s9} I9 ks n9 => by
        obtain ⟨m', hm, w9⟩ := hN H9 n9
        refine ⟨m', hm, i + 1, H9, (Inv.unpinned (pins := []) I9).weak ks.1.symm ks.2, T.keep _ _ _ st7 fun b hb o e => (I9.pin (b, o) (List.mem_append_right _ (List.mem_append_right _ (mem_pinsAt hb e)))).1, fun b hb => ?_, w9⟩
        obtain ⟨o, e, d⟩ := T.obj _ _ st7 b hb
        exact (I9.pin (b, o) (List.mem_append_right _ (List.mem_append_right _ (mem_pinsAt hb e)))).2.1
      refine thn (hg _ s7 (inSt mp σ) H7 x u _ I7' r7 (step x H7 y7)) fun _ s8 ⟨σ8, H8, I8, ks, q8⟩ => ?_
      refine thn (ht _ s8 σ8 H8 _ I8 q8) fun ok s9 ⟨H9, I9, q9⟩ => ?_
      cases ok with
      | false =>
        rw [if_neg Bool.false_ne_true] at q9 ⊢
        exact back I9 ks q9
      | true =>
        rw [if_pos rfl] at q9 ⊢
        refine thn (he _ s9 σ8 H9 _ I9 q9) fun y s10 ⟨yv, H10, I10, r10, ys, hD, hlen, nx⟩ => ?_
        refine thn (mt_append _ s10 σ8 H10 (.ref s.heap.objs.size) [yv] (.ref s.heap.objs.size) [y] (fun _ H' => Nx H') I10 rfl (.cons r10 .nil) ⟨_, ys, yv, rfl, rfl, hD, hlen, nx⟩) fun z s11 ⟨zv, H11, I11, _, n11⟩ => ?_
        exact back I11 ks n11
  subst hs3
  exact codeAny_compStart_list (loop _) (T.self _ 0 _ _ _ (T.keep _ _ _ st fun b _ o e => k0 b o e) (loop _))
theorem pe_comp (hc : X.calm = true) (ck : CompSc X scope N' mp) (hi : PI X tg iter wi)
    (hb : ∀ s H fp, PG (compCx X scope N' s H fp) tg g ∧ PTs (compCx X scope N' s H fp) ifs tt ∧ PE (compCx X scope N' s H fp) elt te)
    (hs : ∀ x, foldedSetIterable iter X.env x = pure x := by intro _; rfl) : PE X (.ListComp elt [⟨tg, iter, ifs, 0⟩] scope pos) (tComp mp wi g tt te) := by
  intro pins s σ H Q I h
  rw [eval_ListComp]
  refine wpAny_comprehension_free (use := none) rfl hs (closureFor_eq (ck.cells I.ok)) ck.kind ck.names ?_
  refine thn (hi pins s σ H _ I h) fun v s1 h1 => thn h1 fun itv s2 h2 => ?_
  obtain ⟨it, fp, tn, J, H2, e, I2, T, st2, f2, q2⟩ := h2
  subst e
  refine comp_block hc ck hb I2 T st2 f2 (q2 _ (I2.hok.fresh (Nat.le_refl _))) fun C s' H' I' fin hm hC h1 h2 h3 h4 => ?_
  obtain ⟨m, hm⟩ := hm
  refine ⟨m, hm, fun h' sb => ⟨.ref _, H', ?_, rfl, fin⟩⟩
  exact I'.turned (t' := s'.toks) (fun b o hb e => (sb.2 b hb).trans e) hC h1 (.inr h2) h3 h4
theorem ps_setComp {i : Nat} {y : Str} {py spos : Pos} (hc : X.calm = true) (hN : X.N.Nodup) (hiy : X.N[i]? = some y) (hy : X.env.scope.names.lookup y = some .local) (ck : CompSc X scope N' mp) (hi : PI X tg iter wi)
    (hb : ∀ s H fp, PG (compCx X scope N' s H fp) tg g ∧ PTs (compCx X scope N' s H fp) ifs tt ∧ PE (compCx X scope N' s H fp) elt te)
    (hsw : swapsWith (.ListComp elt [⟨tg, iter, ifs, 0⟩] scope pos) (some (.Name y py)) spos.line X.env = pure true := by rfl)
    (hs : ∀ x, foldedSetIterable iter X.env x = pure x := by intro _; rfl) :
    PS X (.Assign [.Name y py] (.ListComp elt [⟨tg, iter, ifs, 0⟩] scope pos) spos) (tAsg (tComp mp wi g tt te) (gName i)) := by
  intro pins s σ H D I h
  rw [exec_Assign_Name_used _ _ _ _ hsw]
  refine wpAny_bind (wpAny_standAt (wpAny_bind ?_))
  show wpAny _ X.A (do let _ ← comprehension (.ListComp elt [⟨tg, iter, ifs, 0⟩] scope pos) scope X.env _ (newList []) false (eval iter X.env) (some (assign (.Name y py) X.env))) _ _ s
  refine wpAny_bind (wpAny_mono (wpAny_comprehension_free (use := some (assign (.Name y py) X.env)) (Q := fun _ s' => SP X pins D .next s') rfl hs (closureFor_eq (ck.cells I.ok)) ck.kind ck.names ?_) (fun _ s' hq => wpAny_pure (wpAny_pure hq)) fun _ _ e => e)
  refine thn (hi pins s σ H _ I h) fun v s1 h1 => thn h1 fun itv s2 h2 => ?_
  obtain ⟨it, fp, tn, J, H2, e, I2, T, st2, f2, q2⟩ := h2
  subst e
  refine comp_block hc ck hb I2 T st2 f2 (q2 _ (I2.hok.fresh (Nat.le_refl _))) fun C s' H' I' fin hm hC h1 h2 h3 h4 => ?_
  obtain ⟨m, hm⟩ := hm
  refine wpAny_assign_Name (store_ok2 (v := .ref s2.heap.objs.size) I' hN hiy (.inl hy) rfl (fun s'' I'' ⟨a, sb, ha⟩ => ?_) (.inr hy))
  have hCa : C ≠ a := by
    rcases ha with ha | ha
    · rw [ha]; exact h1
    · exact fun z => h3 _ _ ha z.symm
  refine ⟨m, hm.sameBut sb hCa, fun h' sb' => ⟨_, H', ?_, fin⟩⟩
  exact I''.turned (t' := s''.toks) (fun b o hb e => (sb'.2 b hb).trans e) hC h1 (.inr h2) h3 h4
end
end L2
namespace L2.PU
open PySem PySem.Spec PyProof.Rows
noncomputable def nst : Expr → Bool
  | .Starred _ _ => false
  | _ => true
theorem star_of {e : Expr} {es : List Expr} {env : Env} (h : nst e = true) : starEach (e :: es) env = (false, eval e env) :: starEach es env := by
  cases e <;> first | rfl | cases h
theorem star2_of {a b : Expr} {env : Env} (ha : nst a = true) (hb : nst b = true) : starEach [a, b] env = [(false, eval a env), (false, eval b env)] := by rw [star_of ha, star_of hb]; rfl
theorem plain_of {pos : Pos} {env : Env} : ∀ {es : List Expr}, es.all nst = true → (backTo pos (starEach es env)).any (·.1) = false
  | [], _ => rfl
  | e :: es, h => by
    rw [List.all_cons, Bool.and_eq_true] at h
    rw [star_of h.1]
    show (false || (backTo pos (starEach es env)).any (·.1)) = false
    rw [plain_of h.2]; rfl
noncomputable def kD : Key → PyData
  | .inl i => .int i
  | .inr x => .str x
mutual
noncomputable def Rel (K : PySem.W.Frag) (F : Hp) : PyData → V → Prop
  | .none, v => v = .non
  | .bool b, v => v = .bl b
  | .int i, v => v = .int i
  | .str x, v => v = .str x
  | .tuple ds, v => ∃ a xs, v = .ref a ∧ SqT K F a xs ∧ RelL K F ds xs
  | .list ds, v => ∃ a xs, v = .ref a ∧ SqL K F a xs ∧ RelL K F ds xs
  | .dict es, v => ∃ a ks, v = .ref a ∧ Rd F a (.dK ks) ∧ RelD K F es ks
noncomputable def RelL (K : PySem.W.Frag) (F : Hp) : List PyData → List V → Prop
  | [], xs => xs = []
  | d :: ds, xs => ∃ x r, xs = x :: r ∧ Rel K F d x ∧ RelL K F ds r
noncomputable def RelD (K : PySem.W.Frag) (F : Hp) : List (PyData × PyData) → List (Key × V) → Prop
  | [], ks => ks = []
  | (d, e) :: es, ks => ∃ k x r, ks = (k, x) :: r ∧ d = kD k ∧ Rel K F e x ∧ RelD K F es r
end
section
variable {K : PySem.W.Frag} {F F' H H' : Hp}
theorem same_seqT {a : Addr} {xs : List V} (e : Same H H') (h : SqT K H a xs) : SqT K H' a xs := by
  rcases h with (h | ⟨o, h⟩) | h
  · exact .inl (.inl (e _ _ h))
  · exact .inl (.inr ⟨o, e _ _ h⟩)
  · exact .inr h
theorem rd_mono {a : Addr} {u : HO} (e : Same F F') (h : Rd F a u) : Rd F' a u := h.elim (fun h => .inl (e _ _ h)) fun ⟨o, h⟩ => .inr ⟨o, e _ _ h⟩
theorem same_new {p : Addr} (h : H p = none) (o : HO) : Same H (upd H p o) := fun b u q => by rw [upd_ne (ne_of_none q h)]; exact q
mutual
theorem Rel.mono (e : Same F F') : ∀ {d : PyData} {v : V}, Rel K F d v → Rel K F' d v
  | .none, v, h => by unfold Rel at h ⊢; exact h
  | .bool b, v, h => by unfold Rel at h ⊢; exact h
  | .int i, v, h => by unfold Rel at h ⊢; exact h
  | .str x, v, h => by unfold Rel at h ⊢; exact h
  | .tuple ds, v, h => by
    unfold Rel at h ⊢
    obtain ⟨a, xs, h1, h2, h3⟩ := h
    exact ⟨a, xs, h1, same_seqT e h2, RelL.mono e h3⟩
  | .list ds, v, h => by
    unfold Rel at h ⊢
    obtain ⟨a, xs, h1, h2, h3⟩ := h
    exact ⟨a, xs, h1, e.seq h2, RelL.mono e h3⟩
  | .dict es, v, h => by
    unfold Rel at h ⊢
    obtain ⟨a, ks, h1, h2, h3⟩ := h
    exact ⟨a, ks, h1, rd_mono e h2, RelD.mono e h3⟩
theorem RelL.mono (e : Same F F') : ∀ {ds : List PyData} {xs : List V}, RelL K F ds xs → RelL K F' ds xs
  | [], xs, h => by unfold RelL at h ⊢; exact h
  | d :: ds, xs, h => by
    unfold RelL at h ⊢
    obtain ⟨x, r, h1, h2, h3⟩ := h
    exact ⟨x, r, h1, Rel.mono e h2, RelL.mono e h3⟩
theorem RelD.mono (e : Same F F') : ∀ {es : List (PyData × PyData)} {ks : List (Key × V)}, RelD K F es ks → RelD K F' es ks
  | [], ks, h => by unfold RelD at h ⊢; exact h
  | (d, e') :: es, ks, h => by
    unfold RelD at h ⊢
    obtain ⟨k, x, r, h1, h2, h3, h4⟩ := h
    exact ⟨k, x, r, h1, h2, Rel.mono e h3, RelD.mono e h4⟩
end
theorem rel_dct {es : List (PyData × PyData)} {a : Addr} {ks : List (Key × V)} (h : Rd F a (.dK ks)) (r : RelD K F es ks) : Rel K F (.dict es) (.ref a) := by unfold Rel; exact ⟨a, ks, rfl, h, r⟩
theorem RelD.nil : RelD K F [] [] := by unfold RelD; rfl
theorem RelD.cons {k : Key} {e : PyData} {x : V} {es : List (PyData × PyData)} {ks : List (Key × V)} (h : Rel K F e x) (t : RelD K F es ks) : RelD K F ((kD k, e) :: es) ((k, x) :: ks) := by unfold RelD; exact ⟨k, x, ks, rfl, rfl, h, t⟩
noncomputable def prs (kvs : List (Key × PyData)) : List (PyData × PyData) := kvs.map fun e => (kD e.1, e.2)
theorem RelL.nil : RelL K F [] [] := by unfold RelL; rfl
theorem RelL.cons {d : PyData} {ds : List PyData} {x : V} {xs : List V} (h : Rel K F d x) (t : RelL K F ds xs) : RelL K F (d :: ds) (x :: xs) := by unfold RelL; exact ⟨x, xs, rfl, h, t⟩
theorem RelL.nil_of {xs : List V} (h : RelL K F [] xs) : xs = [] := by unfold RelL at h; exact h
theorem RelL.cons_of {d : PyData} {ds : List PyData} {xs : List V} (h : RelL K F (d :: ds) xs) : ∃ x r, xs = x :: r ∧ Rel K F d x ∧ RelL K F ds r := by unfold RelL at h; exact h
theorem RelL.length : ∀ {ds : List PyData} {xs : List V}, RelL K F ds xs → xs.length = ds.length
  | [], xs, h => by rw [h.nil_of]; rfl
  | d :: ds, xs, h => by
    obtain ⟨x, r, rfl, _, h3⟩ := h.cons_of
    rw [List.length_cons, List.length_cons, RelL.length h3]
theorem RelL.append : ∀ {ds es : List PyData} {xs ys : List V}, RelL K F ds xs → RelL K F es ys → RelL K F (ds ++ es) (xs ++ ys)
  | [], es, xs, ys, h, k => by rw [h.nil_of]; exact k
  | d :: ds, es, xs, ys, h, k => by
    obtain ⟨x, r, rfl, h2, h3⟩ := h.cons_of
    exact RelL.cons h2 (RelL.append h3 k)
theorem RelL.get : ∀ {ds : List PyData} {xs : List V} {i : Nat} {d : PyData}, RelL K F ds xs → ds[i]? = some d → ∃ x, xs[i]? = some x ∧ Rel K F d x
  | [], _, _, _, _, e => by simp at e
  | d :: ds, xs, 0, _, h, e => by
    obtain ⟨x, r, rfl, h2, h3⟩ := h.cons_of
    have e' : d = _ := Option.some.inj e
    exact ⟨x, rfl, e' ▸ h2⟩
  | d :: ds, xs, i + 1, d', h, e => by
    obtain ⟨x, r, rfl, h2, h3⟩ := h.cons_of
    exact RelL.get (i := i) h3 (by simpa using e)
theorem RelL.take : ∀ {ds : List PyData} {xs : List V} (n : Nat), RelL K F ds xs → RelL K F (ds.take n) (xs.take n)
  | _, _, 0, _ => by rw [List.take_zero, List.take_zero]; exact .nil
  | [], xs, n + 1, h => by rw [h.nil_of]; exact .nil
  | d :: ds, xs, n + 1, h => by
    obtain ⟨x, r, rfl, h2, h3⟩ := h.cons_of
    exact RelL.cons h2 (RelL.take n h3)
theorem RelL.drop : ∀ {ds : List PyData} {xs : List V} (n : Nat), RelL K F ds xs → RelL K F (ds.drop n) (xs.drop n)
  | _, _, 0, h => by simpa using h
  | [], xs, n + 1, h => by rw [h.nil_of]; exact .nil
  | d :: ds, xs, n + 1, h => by
    obtain ⟨x, r, rfl, h2, h3⟩ := h.cons_of
    exact RelL.drop n h3
theorem Rel.non {v : V} (h : Rel K F .none v) : v = .non := by unfold Rel at h; exact h
theorem Rel.bl {b : Bool} {v : V} (h : Rel K F (.bool b) v) : v = .bl b := by unfold Rel at h; exact h
theorem Rel.int {i : Int} {v : V} (h : Rel K F (.int i) v) : v = .int i := by unfold Rel at h; exact h
theorem Rel.str {x : Str} {v : V} (h : Rel K F (.str x) v) : v = .str x := by unfold Rel at h; exact h
theorem Rel.tup {ds : List PyData} {v : V} (h : Rel K F (.tuple ds) v) : ∃ a xs, v = .ref a ∧ SqT K F a xs ∧ RelL K F ds xs := by unfold Rel at h; exact h
theorem Rel.lst {ds : List PyData} {v : V} (h : Rel K F (.list ds) v) : ∃ a xs, v = .ref a ∧ SqL K F a xs ∧ RelL K F ds xs := by unfold Rel at h; exact h
theorem rel_non : Rel K F .none .non := by unfold Rel; rfl
theorem rel_bl {b : Bool} : Rel K F (.bool b) (.bl b) := by unfold Rel; rfl
theorem rel_int {i : Int} : Rel K F (.int i) (.int i) := by unfold Rel; rfl
theorem rel_str {x : Str} : Rel K F (.str x) (.str x) := by unfold Rel; rfl
theorem rel_tup {ds : List PyData} {a : Addr} {xs : List V} (h : SqT K F a xs) (r : RelL K F ds xs) : Rel K F (.tuple ds) (.ref a) := by unfold Rel; exact ⟨a, xs, rfl, h, r⟩
theorem rel_lst {ds : List PyData} {a : Addr} {xs : List V} (h : SqL K F a xs) (r : RelL K F ds xs) : Rel K F (.list ds) (.ref a) := by unfold Rel; exact ⟨a, xs, rfl, h, r⟩
theorem RelL.ints : ∀ (ns : List Int), RelL K F (ns.map PyData.int) (ns.map V.int)
  | [] => .nil
  | _ :: r => .cons rel_int (RelL.ints r)
structure Gr (F H F' H' : Hp) : Prop where
  ff : Same F F'
  hh : Same H H'
  fh : Same F' H'
  new : ∀ b, F' b ≠ none → F b ≠ none ∨ H b = none
theorem Gr.refl (h : Same F H) : Gr F H F H := ⟨.refl _, .refl _, h, fun _ q => .inl q⟩
theorem Gr.trans {F1 H1 F2 H2 : Hp} (a : Gr F H F1 H1) (b : Gr F1 H1 F2 H2) : Gr F H F2 H2 :=
  ⟨a.ff.trans b.ff, a.hh.trans b.hh, b.fh, fun c q => (b.new c q).elim (fun q => a.new c q) fun q => .inr (a.hh.free q)⟩
theorem Gr.one {p : Addr} {o : HO} (h : Same F H) (hp : H p = none) : Gr F H (upd F p o) (upd H p o) where
  ff := same_new (h.free hp) o
  hh := same_new hp o
  fh := fun b u q => by
    by_cases e : b = p
    · subst e; rw [upd_same] at q ⊢; exact q
    · rw [upd_ne e] at q ⊢; exact h _ _ q
  new := fun b q => by
    by_cases e : b = p
    · subst e; exact .inr hp
    · rw [upd_ne e] at q; exact .inl q
end
inductive Sl where
  | un
  | val (d : PyData)
  | own (ds : List PyData)
  | odc (kvs : List (Key × PyData))
  | ob (fs : Str → Option PyData)
noncomputable abbrev En := List Sl
noncomputable def isOwn : Sl → Bool
  | .own _ => true
  | .odc _ => true
  | _ => false
noncomputable def CellR (K : PySem.W.Frag) (F : Hp) : Sl → HO → Prop
  | .own ds, o => ∃ xs, o = .lst xs ∧ RelL K F ds xs
  | .odc kvs, o => ∃ ks, o = .dK ks ∧ RelD K F (prs kvs) ks
  | _, _ => False
noncomputable def ObF (K : PySem.W.Frag) (C : Addr) (F : Hp) (fs : Str → Option PyData) (xs : List (Str × V)) : Prop := ∀ f d, fs f = some d → NoAttr K C f ∧ ∃ v, xs.lookup f = some v ∧ Rel K F d v
structure EnR (K : PySem.W.Frag) (He F H : Hp) (σ : St) (η : En) : Prop where
  len : η.length = σ.length
  val : ∀ (i : Nat) d, η[i]? = some (.val d) → ∃ v, σ[i]? = some (some v) ∧ Rel K F d v
  cel : ∀ (i : Nat) sl, η[i]? = some sl → isOwn sl = true → ∃ p o, σ[i]? = some (some (.ref p)) ∧ F p = none ∧ He p = none ∧ H p = some o ∧ CellR K F sl o
  apart : ∀ (i j : Nat) a b, η[i]? = some a → η[j]? = some b → isOwn a = true → isOwn b = true → i ≠ j → σ[i]? ≠ σ[j]?
  obs : ∀ (i : Nat) fs, η[i]? = some (.ob fs) → ∃ p C dx xs, σ[i]? = some (some (.ref p)) ∧ H p = some (.ins C dx xs) ∧ Cls K C ∧ ObF K C F fs xs
structure Bd where
  F : Hp
  H : Hp
structure SR (K : PySem.W.Frag) (B : Bd) (F H : Hp) (σ : St) (η : En) : Prop where
  gr : Gr B.F B.H F H
  en : EnR K B.H F H σ η
section
variable {K : PySem.W.Frag} {B : Bd} {F H F' H' : Hp} {σ : St} {η : En}
theorem CellR.mono (e : Same F F') : ∀ {sl : Sl} {o : HO}, CellR K F sl o → CellR K F' sl o
  | .own _, _, ⟨xs, h1, h2⟩ => ⟨xs, h1, h2.mono e⟩
  | .odc _, _, ⟨xs, h1, h2⟩ => ⟨xs, h1, h2.mono e⟩
  | .un, _, h => h.elim
  | .val _, _, h => h.elim
  | .ob _, _, h => h.elim
theorem ObF.mono {C : Addr} {fs : Str → Option PyData} {xs : List (Str × V)} (e : Same F F') (h : ObF K C F fs xs) : ObF K C F' fs xs := fun f d q => let ⟨a, v, b, c⟩ := h f d q; ⟨a, v, b, c.mono e⟩
theorem CellR.noins {sl : Sl} {o : HO} (h : CellR K F sl o) (C dx : Addr) (xs : List (Str × V)) : o ≠ .ins C dx xs := by
  cases sl with
  | own ds => obtain ⟨ys, rfl, _⟩ := h; intro z; cases z
  | odc ds => obtain ⟨ys, rfl, _⟩ := h; intro z; cases z
  | un => exact h.elim
  | val _ => exact h.elim
  | ob _ => exact h.elim
theorem EnR.own {He : Hp} (r : EnR K He F H σ η) (i : Nat) (ds : List PyData) (e : η[i]? = some (.own ds)) : ∃ p xs, σ[i]? = some (some (.ref p)) ∧ F p = none ∧ He p = none ∧ H p = some (.lst xs) ∧ RelL K F ds xs := by
  obtain ⟨p, o, h1, h2, h3, h4, xs, rfl, h5⟩ := r.cel i _ e rfl
  exact ⟨p, xs, h1, h2, h3, h4, h5⟩
theorem EnR.odc {He : Hp} (r : EnR K He F H σ η) (i : Nat) (kvs : List (Key × PyData)) (e : η[i]? = some (.odc kvs)) : ∃ p ks, σ[i]? = some (some (.ref p)) ∧ F p = none ∧ He p = none ∧ H p = some (.dK ks) ∧ RelD K F (prs kvs) ks := by
  obtain ⟨p, o, h1, h2, h3, h4, xs, rfl, h5⟩ := r.cel i _ e rfl
  exact ⟨p, xs, h1, h2, h3, h4, h5⟩
theorem EnR.grow {He : Hp} (r : EnR K He F H σ η) (g : Gr F H F' H') : EnR K He F' H' σ η where
  len := r.len
  val := fun i d e => let ⟨v, e1, e2⟩ := r.val i d e; ⟨v, e1, e2.mono g.ff⟩
  cel := fun i sl e hs => by
    obtain ⟨p, o, e1, e2, e3, e4, e5⟩ := r.cel i sl e hs
    refine ⟨p, o, e1, ?_, e3, g.hh _ _ e4, e5.mono g.ff⟩
    cases q : F' p with
    | none => rfl
    | some o =>
      rcases g.new p (by rw [q]; simp) with z | z
      · exact absurd e2 z
      · rw [e4] at z; cases z
  apart := r.apart
  obs := fun i fs e => let ⟨p, C, dx, xs, e1, e2, e3, e4⟩ := r.obs i fs e; ⟨p, C, dx, xs, e1, g.hh _ _ e2, e3, e4.mono g.ff⟩
theorem SR.grow (r : SR K B F H σ η) (g : Gr F H F' H') : SR K B F' H' σ η := ⟨r.gr.trans g, r.en.grow g⟩
theorem SR.same (r : SR K B F H σ η) : Same F H := r.gr.fh
theorem EnR.set {He : Hp} (r : EnR K He F H σ η) (i : Nat) {d : PyData} {v : V} (h : Rel K F d v) : EnR K He F H (σ.set i (some v)) (η.set i (.val d)) where
  len := by rw [List.length_set, List.length_set]; exact r.len
  val := fun j d' e => by
    by_cases hj : i = j
    · subst hj
      by_cases hl : i < η.length
      · rw [List.getElem?_set_self hl] at e
        have e' : d = d' := by injection (Option.some.inj e)
        subst e'
        exact ⟨v, by rw [List.getElem?_set_self (by rw [← r.len]; exact hl)], h⟩
      · rw [List.getElem?_eq_none (by rw [List.length_set]; omega)] at e; cases e
    · rw [List.getElem?_set_ne hj] at e ⊢; exact r.val j d' e
  cel := fun j sl e hs => by
    by_cases hj : i = j
    · subst hj
      by_cases hl : i < η.length
      · rw [List.getElem?_set_self hl] at e
        have e' : Sl.val d = sl := Option.some.inj e
        subst e'
        cases hs
      · rw [List.getElem?_eq_none (by rw [List.length_set]; omega)] at e; cases e
    · rw [List.getElem?_set_ne hj] at e ⊢; exact r.cel j sl e hs
  apart := fun j k a b ej ek ha hb hjk => by
    have no : ∀ (j : Nat) a, (η.set i (.val d))[j]? = some a → isOwn a = true → i ≠ j := fun j a ej ha hj => by
      subst hj
      by_cases hl : i < η.length
      · rw [List.getElem?_set_self hl] at ej
        have e' : Sl.val d = a := Option.some.inj ej
        subst e'
        cases ha
      · rw [List.getElem?_eq_none (by rw [List.length_set]; omega)] at ej; cases ej
    have nj := no j a ej ha
    have nk := no k b ek hb
    rw [List.getElem?_set_ne nj] at ej ⊢
    rw [List.getElem?_set_ne nk] at ek ⊢
    exact r.apart j k a b ej ek ha hb hjk
  obs := fun j fs e => by
    by_cases hj : i = j
    · subst hj
      by_cases hl : i < η.length
      · rw [List.getElem?_set_self hl] at e; cases e
      · rw [List.getElem?_eq_none (by rw [List.length_set]; omega)] at e; cases e
    · rw [List.getElem?_set_ne hj] at e ⊢; exact r.obs j fs e
theorem EnR.setCell {He : Hp} (r : EnR K He F H σ η) (i : Nat) {sl : Sl} {p : Addr} {o : HO} (hsl : isOwn sl = true) (h1 : F p = none) (h2 : He p = none) (h3 : H p = some o) (h4 : CellR K F sl o)
    (h5 : ∀ (j : Nat), σ[j]? = some (some (.ref p)) → ∀ a, η[j]? = some a → isOwn a = false) : EnR K He F H (σ.set i (some (.ref p))) (η.set i sl) where
  len := by rw [List.length_set, List.length_set]; exact r.len
  val := fun j d' e => by
    by_cases hj : i = j
    · subst hj
      by_cases hl : i < η.length
      · rw [List.getElem?_set_self hl] at e
        have e' : sl = .val d' := Option.some.inj e
        subst e'
        cases hsl
      · rw [List.getElem?_eq_none (by rw [List.length_set]; omega)] at e; cases e
    · rw [List.getElem?_set_ne hj] at e ⊢; exact r.val j d' e
  cel := fun j a e ha => by
    by_cases hj : i = j
    · subst hj
      by_cases hl : i < η.length
      · rw [List.getElem?_set_self hl] at e
        have e' : sl = a := Option.some.inj e
        subst e'
        exact ⟨p, o, by rw [List.getElem?_set_self (by rw [← r.len]; exact hl)], h1, h2, h3, h4⟩
      · rw [List.getElem?_eq_none (by rw [List.length_set]; omega)] at e; cases e
    · rw [List.getElem?_set_ne hj] at e ⊢; exact r.cel j a e ha
  apart := fun j k a b ej ek ha hb hjk => by
    by_cases hj : i = j
    · subst hj
      have hl : i < η.length := by
        by_cases hl : i < η.length
        · exact hl
        · rw [List.getElem?_eq_none (by rw [List.length_set]; omega)] at ej; cases ej
      rw [List.getElem?_set_ne hjk] at ek ⊢
      rw [List.getElem?_set_self (by rw [← r.len]; exact hl)]
      exact fun z => by rw [h5 k z.symm b ek] at hb; cases hb
    · by_cases hk : i = k
      · subst hk
        have hl : i < η.length := by
          by_cases hl : i < η.length
          · exact hl
          · rw [List.getElem?_eq_none (by rw [List.length_set]; omega)] at ek; cases ek
        rw [List.getElem?_set_ne hj] at ej ⊢
        rw [List.getElem?_set_self (by rw [← r.len]; exact hl)]
        exact fun z => by rw [h5 j z a ej] at ha; cases ha
      · rw [List.getElem?_set_ne hj] at ej ⊢
        rw [List.getElem?_set_ne hk] at ek ⊢
        exact r.apart j k a b ej ek ha hb hjk
  obs := fun j fs e => by
    by_cases hj : i = j
    · subst hj
      by_cases hl : i < η.length
      · rw [List.getElem?_set_self hl] at e
        have e' : sl = .ob fs := Option.some.inj e
        subst e'
        cases hsl
      · rw [List.getElem?_eq_none (by rw [List.length_set]; omega)] at e; cases e
    · rw [List.getElem?_set_ne hj] at e ⊢; exact r.obs j fs e
theorem EnR.setOwn {He : Hp} (r : EnR K He F H σ η) (i : Nat) {ds : List PyData} {p : Addr} {xs : List V} (h1 : F p = none) (h2 : He p = none) (h3 : H p = some (.lst xs)) (h4 : RelL K F ds xs)
    (h5 : ∀ (j : Nat), σ[j]? = some (some (.ref p)) → ∀ a, η[j]? = some a → isOwn a = false) : EnR K He F H (σ.set i (some (.ref p))) (η.set i (.own ds)) := r.setCell i rfl h1 h2 h3 ⟨xs, rfl, h4⟩ h5
theorem EnR.notown {He : Hp} (r : EnR K He F H σ η) {p : Addr} (h : H p = none) : ∀ (j : Nat), σ[j]? = some (some (.ref p)) → ∀ a, η[j]? = some a → isOwn a = false := fun j e a z => by
  cases ha : isOwn a with
  | false => rfl
  | true =>
    obtain ⟨q, o, e1, _, _, e4, _⟩ := r.cel j a z ha
    rw [e] at e1
    have : p = q := by injection (Option.some.inj (Option.some.inj e1))
    rw [this, e4] at h; cases h
theorem EnR.putCell {He : Hp} (r : EnR K He F H σ η) {i : Nat} {sl sl' : Sl} {p : Addr} {o : HO} (hi : η[i]? = some sl) (hs : isOwn sl = true) (hs' : isOwn sl' = true) (hσ : σ[i]? = some (some (.ref p))) (h4 : CellR K F sl' o) :
    EnR K He F (upd H p o) σ (η.set i sl') where
  len := by rw [List.length_set]; exact r.len
  val := fun j d' e => by
    by_cases hj : i = j
    · subst hj
      rw [List.getElem?_set_self (List.getElem?_eq_some_iff.mp hi).1] at e
      have e' : sl' = .val d' := Option.some.inj e
      subst e'
      cases hs'
    · rw [List.getElem?_set_ne hj] at e; exact r.val j d' e
  cel := fun j a e ha => by
    by_cases hj : i = j
    · subst hj
      rw [List.getElem?_set_self (List.getElem?_eq_some_iff.mp hi).1] at e
      have e' : sl' = a := Option.some.inj e
      subst e'
      obtain ⟨q, o1, e1, e2, e3, e4, e5⟩ := r.cel i sl hi hs
      rw [hσ] at e1
      have : p = q := by injection (Option.some.inj (Option.some.inj e1))
      subst this
      exact ⟨p, o, hσ, e2, e3, upd_same, h4⟩
    · rw [List.getElem?_set_ne hj] at e
      obtain ⟨q, o1, e1, e2, e3, e4, e5⟩ := r.cel j a e ha
      refine ⟨q, o1, e1, e2, e3, ?_, e5⟩
      rw [upd_ne]
      · exact e4
      · intro z
        subst z
        exact r.apart i j sl a hi e hs ha hj (by rw [hσ, e1])
  apart := fun j k a b ej ek ha hb hjk => by
    have aa : ∀ (j : Nat) a, (η.set i sl')[j]? = some a → isOwn a = true → ∃ a', η[j]? = some a' ∧ isOwn a' = true := fun j a e ha => by
      by_cases hj : i = j
      · subst hj; exact ⟨sl, hi, hs⟩
      · rw [List.getElem?_set_ne hj] at e; exact ⟨a, e, ha⟩
    obtain ⟨a', e1, f1⟩ := aa j a ej ha
    obtain ⟨b', e2, f2⟩ := aa k b ek hb
    exact r.apart j k a' b' e1 e2 f1 f2 hjk
  obs := fun j fs e => by
    by_cases hj : i = j
    · subst hj
      rw [List.getElem?_set_self (List.getElem?_eq_some_iff.mp hi).1] at e
      have e' : sl' = .ob fs := Option.some.inj e
      subst e'
      cases hs'
    · rw [List.getElem?_set_ne hj] at e
      obtain ⟨q, C, dx, xs, e1, e2, e3, e4⟩ := r.obs j fs e
      refine ⟨q, C, dx, xs, e1, ?_, e3, e4⟩
      obtain ⟨p', o1, f1, _, _, f4, f5⟩ := r.cel i sl hi hs
      rw [hσ] at f1
      have : p = p' := by injection (Option.some.inj (Option.some.inj f1))
      subst this
      rw [upd_ne]
      · exact e2
      · intro z
        subst z
        rw [f4] at e2
        exact f5.noins _ _ _ (Option.some.inj e2)
theorem EnR.putOwn {He : Hp} (r : EnR K He F H σ η) {i : Nat} {ds es : List PyData} {p : Addr} {ys : List V} (hi : η[i]? = some (.own ds)) (hσ : σ[i]? = some (some (.ref p))) (h4 : RelL K F es ys) :
    EnR K He F (upd H p (.lst ys)) σ (η.set i (.own es)) := r.putCell hi rfl rfl hσ ⟨ys, rfl, h4⟩
theorem SR.freezeCell (r : SR K B F H σ η) {i : Nat} {sl : Sl} {d : PyData} {p : Addr} {o : HO} (hi : η[i]? = some sl) (hs : isOwn sl = true) (e1 : σ[i]? = some (some (.ref p))) (e2 : F p = none) (e3 : B.H p = none) (e4 : H p = some o) (rel : Rel K (upd F p o) d (.ref p)) :
    Same F (upd F p o) ∧ SR K B (upd F p o) H σ (η.set i (.val d)) := by
  have sn := same_new (H := F) e2 o
  refine ⟨sn, ⟨⟨r.gr.ff.trans sn, r.gr.hh, ?_, ?_⟩, ?_⟩⟩
  · intro b u q
    by_cases e : b = p
    · subst e; rw [upd_same] at q; rw [← q]; exact e4
    · rw [upd_ne e] at q; exact r.gr.fh _ _ q
  · intro b q
    by_cases e : b = p
    · subst e; exact .inr e3
    · rw [upd_ne e] at q; exact r.gr.new b q
  · refine ⟨by rw [List.length_set]; exact r.en.len, fun j d' e => ?_, fun j a e ha => ?_, fun j k a b ej ek ha hb hjk => ?_, fun j fs e => ?_⟩
    · by_cases hj : i = j
      · subst hj
        rw [List.getElem?_set_self (List.getElem?_eq_some_iff.mp hi).1] at e
        have e' : d = d' := by injection (Option.some.inj e)
        subst e'
        exact ⟨_, e1, rel⟩
      · rw [List.getElem?_set_ne hj] at e
        obtain ⟨v, q1, q2⟩ := r.en.val j d' e
        exact ⟨v, q1, q2.mono sn⟩
    · by_cases hj : i = j
      · subst hj
        rw [List.getElem?_set_self (List.getElem?_eq_some_iff.mp hi).1] at e
        have e' : Sl.val d = a := Option.some.inj e
        subst e'
        cases ha
      · rw [List.getElem?_set_ne hj] at e
        obtain ⟨q, o1, q1, q2, q3, q4, q5⟩ := r.en.cel j a e ha
        refine ⟨q, o1, q1, ?_, q3, q4, q5.mono sn⟩
        rw [upd_ne]
        · exact q2
        · intro z
          subst z
          exact r.en.apart i j sl a hi e hs ha hj (by rw [e1, q1])
    · have no : ∀ (j : Nat) a, (η.set i (.val d))[j]? = some a → isOwn a = true → i ≠ j := fun j a ej ha hj => by
        subst hj
        rw [List.getElem?_set_self (List.getElem?_eq_some_iff.mp hi).1] at ej
        have e' : Sl.val d = a := Option.some.inj ej
        subst e'
        cases ha
      have nj := no j a ej ha
      have nk := no k b ek hb
      rw [List.getElem?_set_ne nj] at ej
      rw [List.getElem?_set_ne nk] at ek
      exact r.en.apart j k a b ej ek ha hb hjk
    · by_cases hj : i = j
      · subst hj
        rw [List.getElem?_set_self (List.getElem?_eq_some_iff.mp hi).1] at e; cases e
      · rw [List.getElem?_set_ne hj] at e
        obtain ⟨q, C, dx, xs, q1, q2, q3, q4⟩ := r.en.obs j fs e
        exact ⟨q, C, dx, xs, q1, q2, q3, q4.mono sn⟩
theorem SR.freeze (r : SR K B F H σ η) {i : Nat} {ds : List PyData} (hi : η[i]? = some (.own ds)) : ∃ F' p, σ[i]? = some (some (.ref p)) ∧ Same F F' ∧ SR K B F' H σ (η.set i (.val (.list ds))) ∧ Rel K F' (.list ds) (.ref p) := by
  obtain ⟨p, xs, e1, e2, e3, e4, e5⟩ := r.en.own i ds hi
  have rel : Rel K (upd F p (.lst xs)) (.list ds) (.ref p) := rel_lst (SqL.of upd_same) (e5.mono (same_new (H := F) e2 (.lst xs)))
  obtain ⟨h1, h2⟩ := r.freezeCell hi rfl e1 e2 e3 e4 rel
  exact ⟨_, p, e1, h1, h2, rel⟩
theorem SR.freezeD (r : SR K B F H σ η) {i : Nat} {kvs : List (Key × PyData)} (hi : η[i]? = some (.odc kvs)) : ∃ F' p, σ[i]? = some (some (.ref p)) ∧ Same F F' ∧ SR K B F' H σ (η.set i (.val (.dict (prs kvs)))) ∧ Rel K F' (.dict (prs kvs)) (.ref p) := by
  obtain ⟨p, ks, e1, e2, e3, e4, e5⟩ := r.en.odc i kvs hi
  have rel : Rel K (upd F p (.dK ks)) (.dict (prs kvs)) (.ref p) := rel_dct (.inl upd_same) (e5.mono (same_new (H := F) e2 (.dK ks)))
  obtain ⟨h1, h2⟩ := r.freezeCell hi rfl e1 e2 e3 e4 rel
  exact ⟨_, p, e1, h1, h2, rel⟩
end
section
variable (K : PySem.W.Frag) (B : Bd)
noncomputable def tE (f : En → Option PyData) : TE := fun σ H Q => ∃ F η d, SR K B F H σ η ∧ f η = some d ∧ ∀ v F' H', Gr F H F' H' → Rel K F' d v → Q v H'
noncomputable def tO (f : En → Option (List PyData)) : TE := fun σ H Q => ∃ F η ds, SR K B F H σ η ∧ f η = some ds ∧ ∀ p xs F' H', Gr F H F' H' → H p = none → F' p = none → H' p = some (.lst xs) → RelL K F' ds xs → Q (.ref p) H'
noncomputable def tT (f : En → Option Bool) : TT := fun σ H Q => ∃ F η b, SR K B F H σ η ∧ f η = some b ∧ ∀ F' H', Gr F H F' H' → Q b H'
noncomputable def tA (f : En → Option (List PyData)) : TA := fun σ H Q => ∃ F η ds, SR K B F H σ η ∧ f η = some ds ∧ ∀ vs F' H', Gr F H F' H' → RelL K F' ds vs → Q vs H'
end
noncomputable def E (X : Cx) (B : Bd) (e : Expr) (f : En → Option PyData) : Prop := PE X e (tE X.K B f)
noncomputable def EO (X : Cx) (B : Bd) (e : Expr) (f : En → Option (List PyData)) : Prop := PE X e (tO X.K B f)
noncomputable def T (X : Cx) (B : Bd) (e : Expr) (f : En → Option Bool) : Prop := PT X e (tT X.K B f)
noncomputable def TW (X : Cx) (B : Bd) (e : Expr) (f : En → Option Bool) : Prop := PW X e (tT X.K B f)
noncomputable def A (X : Cx) (B : Bd) (es : List Expr) (f : En → Option (List PyData)) : Prop := PA X es (tA X.K B f)
theorem PE.imp {X : Cx} {e : Expr} {t t' : TE} (h : PE X e t) (i : ∀ σ H Q, t' σ H Q → t σ H Q) : PE X e t' := fun pins s σ H Q I q => h pins s σ H Q I (i σ H Q q)
theorem PT.imp {X : Cx} {e : Expr} {t t' : TT} (h : PT X e t) (i : ∀ σ H Q, t' σ H Q → t σ H Q) : PT X e t' := fun pins s σ H Q I q => h pins s σ H Q I (i σ H Q q)
theorem PW.imp {X : Cx} {e : Expr} {t t' : TT} (h : PW X e t) (i : ∀ σ H Q, t' σ H Q → t σ H Q) : PW X e t' := fun wh pins s σ H Q I q => h wh pins s σ H Q I (i σ H Q q)
theorem PA.imp {X : Cx} {e : List Expr} {t t' : TA} (h : PA X e t) (i : ∀ σ H Q, t' σ H Q → t σ H Q) : PA X e t' := fun pos pins s σ H Q I q => h pos pins s σ H Q I (i σ H Q q)
noncomputable def eV (i : Nat) : En → Option PyData := fun η => match η[i]? with | some (.val d) => some d | _ => none
noncomputable def eC (d : PyData) : En → Option PyData := fun _ => some d
noncomputable def l1 (o : PyData → Option PyData) (f : En → Option PyData) : En → Option PyData := fun η => (f η).bind o
noncomputable def l2 (o : PyData → PyData → Option PyData) (f g : En → Option PyData) : En → Option PyData := fun η => (f η).bind fun x => (g η).bind fun y => o x y
noncomputable def aN : En → Option (List PyData) := fun _ => some []
noncomputable def aC (f : En → Option PyData) (g : En → Option (List PyData)) : En → Option (List PyData) := fun η => (f η).bind fun x => (g η).bind fun xs => some (x :: xs)
noncomputable def lA (o : List PyData → Option PyData) (f : En → Option (List PyData)) : En → Option PyData := fun η => (f η).bind o
section
variable {X : Cx} {B : Bd} {a b c e : Expr} {es : List Expr} {f g h : En → Option PyData} {fs : En → Option (List PyData)} {pos : Pos}
theorem bind_some {α β : Type} {o : Option α} {k : α → Option β} {y : β} (h : o.bind k = some y) : ∃ x, o = some x ∧ k x = some y := by
  cases o with
  | none => cases h
  | some x => exact ⟨x, rfl, h⟩
noncomputable def Ad2 (K : PySem.W.Frag) (r : R2) (o : PyData → PyData → Option PyData) : Prop :=
  ∀ F H x y dx dy d Q, Same F H → Rel K F dx x → Rel K F dy y → o dx dy = some d → (∀ v F' H', Gr F H F' H' → Rel K F' d v → Q v H') → r x y H Q
theorem t2 {K : PySem.W.Frag} {r : R2} {o : PyData → PyData → Option PyData} (ad : Ad2 K r o) : ∀ σ H Q, tE K B (l2 o f g) σ H Q → tOp r (tE K B f) (tE K B g) σ H Q := by
  intro σ H Q ⟨F, η, d, sr, hd, q⟩
  obtain ⟨x, hx, hd⟩ := bind_some hd
  obtain ⟨y, hy, hd⟩ := bind_some hd
  refine ⟨F, η, x, sr, hx, fun v F1 H1 g1 rv => ⟨F1, η, y, sr.grow g1, hy, fun u F2 H2 g2 ru => ?_⟩⟩
  exact ad F2 H2 v u x y d Q g2.fh (rv.mono g2.ff) ru hd fun w F3 H3 g3 rw' => q w F3 H3 ((g1.trans g2).trans g3) rw'
theorem E.op {op : Operator} {r : R2} {o : PyData → PyData → Option PyData} (ho : OpR X (binaryOp op) r) (ad : Ad2 X.K r o) (ha : E X B a f) (hb : E X B b g) : E X B (.BinOp a op b pos) (l2 o f g) :=
  PE.imp (pe_op ho ha hb) (t2 ad)
theorem E.cmp {op : CmpOp} {r : R2} {o : PyData → PyData → Option PyData} (ho : OpR X (compareOp op) r) (ad : Ad2 X.K r o) (hm : behindInMarks op b = false) (ha : E X B a f) (hb : E X B b g) : E X B (.Compare a [op] [b] pos) (l2 o f g) :=
  PE.imp (pe_cmpR ho ha hb hm) (t2 ad)
theorem E.ix {r : R2} {o : PyData → PyData → Option PyData} (hr : IxR X r) (ad : Ad2 X.K r o) (ha : E X B a f) (hb : E X B b g) (hs : PlainIx b := by intro _ _; rfl) : E X B (.Subscript a b pos) (l2 o f g) :=
  PE.imp (pe_ix hr ha hb hs) (t2 ad)
theorem E.v (i : Nat) {x : Str} (hN : X.N[i]? = some x := by rfl) (hv : Vis X.env.scope x := by first | exact Or.inl rfl | exact Or.inr (Or.inl rfl) | exact Or.inr (Or.inr rfl)) (hd : (x == ("__debug__" : Str)) = false := by decide)
    (hcd : (x == ("__classdict__" : Str)) = false := by decide) : E X B (.Name x pos) (eV i) :=
  PE.imp (pe_var hN hv hd hcd) fun σ H Q ⟨F, η, d, sr, hd, q⟩ => by
    unfold eV at hd
    split at hd
    · rename_i d' e
      cases hd
      obtain ⟨v, e1, e2⟩ := sr.en.val i d e
      exact ⟨v, e1, q v F H (.refl sr.same) e2⟩
    · cases hd
theorem tC_of {K : PySem.W.Frag} {v : V} {d : PyData} (h : ∀ F, Rel K F d v) : ∀ σ H Q, tE K B (eC d) σ H Q → tC v σ H Q := fun σ H Q ⟨F, η, d', sr, hd, q⟩ => by
  have e : d = d' := Option.some.inj hd
  subst e
  exact q v F H (.refl sr.same) (h F)
theorem E.int {i : Int} {j} : E X B (.Constant (.int i) j pos) (eC (.int i)) := PE.imp pe_int (tC_of fun _ => rel_int)
theorem E.bl {i : Bool} {j} : E X B (.Constant (.bool i) j pos) (eC (.bool i)) := PE.imp pe_bl (tC_of fun _ => rel_bl)
theorem E.non {j} : E X B (.Constant .none j pos) (eC .none) := PE.imp pe_non (tC_of fun _ => rel_non)
theorem E.str {i : Str} {j} : E X B (.Constant (.str i) j pos) (eC (.str i)) := PE.imp pe_str (tC_of fun _ => rel_str)
theorem E.glob {x : Str} {v : V} {u : Value} {d : PyData} (hm : X.mg x = some u) (r : RelV v u) (h : ∀ F, Rel X.K F d v) (hg : Gl X x := by rfl) (hd : (x == ("__debug__" : Str)) = false := by decide) : E X B (.Name x pos) (eC d) :=
  PE.imp (pe_glob hg hm r hd) (tC_of h)
theorem A.nil : A X B [] aN := PA.imp pa_nil fun σ H Q ⟨F, η, d, sr, hd, q⟩ => by
  cases hd
  exact q [] F H (.refl sr.same) .nil
theorem A.cons (ha : E X B e f) (hr : A X B es fs) (hs : starEach (e :: es) X.env = (false, eval e X.env) :: starEach es X.env := by exact star_of rfl) : A X B (e :: es) (aC f fs) := PA.imp (pa_cons ha hr hs) fun σ H Q ⟨F, η, d, sr, hd, q⟩ => by
  obtain ⟨x, hx, hd⟩ := bind_some hd
  obtain ⟨y, hy, hd⟩ := bind_some hd
  cases hd
  exact ⟨F, η, x, sr, hx, fun v F1 H1 g1 rv => ⟨F1, η, y, sr.grow g1, hy, fun vs F2 H2 g2 rs => q (v :: vs) F2 H2 (g1.trans g2) (.cons (rv.mono g2.ff) rs)⟩⟩
noncomputable def gL (ds : List PyData) : Option (List PyData) := if ds.length ≤ sizeLine then some ds else none
theorem E.tup {x1} (hs : A X B es fs) : E X B (.Tuple es x1 pos) (lA (fun ds => if ds.length ≤ sizeLine then some (.tuple ds) else none) fs) := PE.imp (pe_tup hs) fun σ H Q ⟨F, η, d, sr, hd, q⟩ => by
  obtain ⟨ds, hx, hd⟩ := bind_some hd
  split at hd
  · rename_i hl
    cases hd
    refine ⟨F, η, ds, sr, hx, fun vs F1 H1 g1 rs => ⟨by rw [rs.length]; exact hl, fun p hp => ?_⟩⟩
    have g2 : Gr F1 H1 (upd F1 p (.tup vs)) (upd H1 p (.tup vs)) := Gr.one g1.fh hp
    exact q _ _ _ (g1.trans g2) (rel_tup (SqT.of upd_same) (rs.mono g2.ff))
  · cases hd
theorem EO.lst (hs : A X B es fs) : EO X B (.List es pos) (fun η => (fs η).bind gL) := PE.imp (pe_lst hs) fun σ H Q ⟨F, η, ds, sr, hd, q⟩ => by
  obtain ⟨ds', hx, hd⟩ := bind_some hd
  unfold gL at hd
  split at hd
  · rename_i hl
    cases hd
    refine ⟨F, η, ds, sr, hx, fun vs F1 H1 g1 rs => ⟨by rw [rs.length]; exact hl, fun p hp => ?_⟩⟩
    refine q p vs F1 (upd H1 p (.lst vs)) ?_ (g1.hh.free hp) (g1.fh.free hp) upd_same rs
    refine ⟨g1.ff, g1.hh.trans (same_new hp _), fun b u z => ?_, g1.new⟩
    exact same_new hp _ b u (g1.fh b u z)
  · cases hd
noncomputable def oE (f : En → Option (List PyData)) : En → Option PyData := fun η => (f η).bind fun ds => some (.list ds)
theorem EO.toE (he : EO X B e fs) : E X B e (oE fs) := PE.imp he fun σ H Q ⟨F, η, d, sr, hd, q⟩ => by
  obtain ⟨ds, hx, hd⟩ := bind_some hd
  cases hd
  refine ⟨F, η, ds, sr, hx, fun p xs F' H' g1 hp fp hp' rs => ?_⟩
  have sn := same_new (H := F') fp (.lst xs)
  refine q (.ref p) (upd F' p (.lst xs)) H' ⟨g1.ff.trans sn, g1.hh, fun b u z => ?_, fun b z => ?_⟩ (rel_lst (SqL.of upd_same) (rs.mono sn))
  · by_cases e : b = p
    · subst e; rw [upd_same] at z; rw [← z]; exact hp'
    · rw [upd_ne e] at z; exact g1.fh _ _ z
  · by_cases e : b = p
    · subst e; exact .inr hp
    · rw [upd_ne e] at z; exact g1.new b z
noncomputable def asB : PyData → Option Bool
  | .bool b => some b
  | _ => none
noncomputable def bT (f : En → Option PyData) : En → Option Bool := fun η => (f η).bind asB
theorem asB_some {d : PyData} {b : Bool} (h : asB d = some b) : d = .bool b := by
  cases d <;> simp [asB] at h
  rw [h]
theorem T.val (he : E X B e f) (hi : ∀ whole, isTrue e X.env whole = (do let v ← whole; standAt e.pos; holding [v] (truthy v)) := by intro _; rfl) : T X B e (bT f) := PT.imp (pt_val he hi) fun σ H Q ⟨F, η, b, sr, hd, q⟩ => by
  obtain ⟨x, hx, hd⟩ := bind_some hd
  obtain rfl := asB_some hd
  exact ⟨F, η, _, sr, hx, fun v F1 H1 g1 rv => ⟨b, rv.bl, q F1 H1 g1⟩⟩
theorem T.cmp {op : CmpOp} {r : R2} {o : PyData → PyData → Option PyData} (ho : OpR X (compareOp op) r) (ad : Ad2 X.K r o) (hm : behindInMarks op b = false) (ha : E X B a f) (hb : E X B b g) : T X B (.Compare a [op] [b] pos) (bT (l2 o f g)) :=
  PT.imp (pt_cmpR ho ha hb hm) fun σ H Q ⟨F, η, b, sr, hd, q⟩ => by
    obtain ⟨x, hx, hd⟩ := bind_some hd
    obtain rfl := asB_some hd
    exact t2 ad σ H _ ⟨F, η, _, sr, hx, fun v F1 H1 g1 rv => ⟨b, rv.bl, q F1 H1 g1⟩⟩
noncomputable def lch (o o' : PyData → PyData → Option PyData) (f g h : En → Option PyData) : En → Option PyData := fun η => (f η).bind fun x => (g η).bind fun y => (o x y).bind fun z => (asB z).bind fun k =>
  if k = true then (h η).bind fun w => o' y w else some (.bool false)
noncomputable def bAnd (f g : En → Option Bool) : En → Option Bool := fun η => (f η).bind fun c => if c = true then g η else some false
noncomputable def bOr (f g : En → Option Bool) : En → Option Bool := fun η => (f η).bind fun c => if c = true then some true else g η
noncomputable def bNot (f : En → Option Bool) : En → Option Bool := fun η => (f η).bind fun c => some (!c)
variable {p q r : En → Option Bool} {rest : List Expr}
theorem T.not (ha : T X B a p) : T X B (.UnaryOp .Not a pos) (bNot p) := PT.imp (pt_not ha) fun σ H Q ⟨F, η, b, sr, hd, q⟩ => by
  obtain ⟨x, hx, hd⟩ := bind_some hd
  cases hd
  exact ⟨F, η, x, sr, hx, q⟩
theorem TW.t (h : TW X B a p) : T X B a p := PW.pt h
theorem TW.and1 (ha : T X B a p) : TW X B (.BoolOp .And [a] pos) p := pw_and1 ha
theorem TW.and (ha : T X B a p) (hb : TW X B (.BoolOp .And (b :: rest) pos) q) : TW X B (.BoolOp .And (a :: b :: rest) pos) (bAnd p q) := PW.imp (pw_and ha hb) fun σ H Q ⟨F, η, b, sr, hd, k⟩ => by
  obtain ⟨x, hx, hd⟩ := bind_some hd
  refine ⟨F, η, x, sr, hx, fun F1 H1 g1 => ?_⟩
  cases x with
  | false =>
    rw [if_neg Bool.false_ne_true] at hd ⊢
    cases hd
    exact k F1 H1 g1
  | true =>
    rw [if_pos rfl] at hd ⊢
    exact ⟨F1, η, b, sr.grow g1, hd, fun F2 H2 g2 => k F2 H2 (g1.trans g2)⟩
noncomputable def vAnd (f g : En → Option PyData) : En → Option PyData := fun η => (f η).bind fun x => (asB x).bind fun c => if c = true then g η else some (.bool false)
noncomputable def vOr (f g : En → Option PyData) : En → Option PyData := fun η => (f η).bind fun x => (asB x).bind fun c => if c = true then some (.bool true) else g η
noncomputable def vNot (f : En → Option PyData) : En → Option PyData := fun η => (f η).bind fun x => (asB x).bind fun c => some (.bool (!c))
noncomputable def vIf (c : En → Option Bool) (f g : En → Option PyData) : En → Option PyData := fun η => (c η).bind fun c => if c = true then f η else g η
theorem E.ifE (hc : T X B c p) (ha : E X B a f) (hb : E X B b g) : E X B (.IfExp c a b pos) (vIf p f g) := PE.imp (pe_ifExp hc ha hb) fun σ H Q ⟨F, η, d, sr, hd, k⟩ => by
  obtain ⟨x, hx, hd⟩ := bind_some hd
  refine ⟨F, η, x, sr, hx, fun F1 H1 g1 => ?_⟩
  cases x with
  | false =>
    rw [if_neg Bool.false_ne_true] at hd ⊢
    exact ⟨F1, η, d, sr.grow g1, hd, fun u F2 H2 g2 => k u F2 H2 (g1.trans g2)⟩
  | true =>
    rw [if_pos rfl] at hd ⊢
    exact ⟨F1, η, d, sr.grow g1, hd, fun u F2 H2 g2 => k u F2 H2 (g1.trans g2)⟩
noncomputable def spP (K : PySem.W.Frag) (fn : List PyData → Option PyData) : Sp := fun vs H Q _ => ∃ F ds d, Same F H ∧ RelL K F ds vs ∧ fn ds = some d ∧ ∀ v F' H', Gr F H F' H' → Rel K F' d v → Q v H'
theorem E.call {k k' : Nat} {fa : Addr} {fd : FuncData} {ps : List Str} {x : Str} {ppos : Pos} {fn : List PyData → Option PyData} (G : FnOk X.prog X.w X.K X.mg X.base CX0 k fa fd ps (spP X.K fn)) (hr : Room k' X.A) (hkk : k ≤ k') (hm : X.mg x = some (.ref fa)) (hk : PySem.W.keepIn X.K (.ref fa) = true) (hb : Binds X.K fd ps [])
    (ha : A X B (e :: es) fs) (hg : Gl X x := by rfl) (hdb : (x == ("__debug__" : Str)) = false := by decide) (he : starEach (e :: es) X.env = (false, eval e X.env) :: starEach es X.env := by exact star_of rfl) (hpl : (backTo pos (starEach es X.env)).any (·.1) = false := by exact plain_of rfl) :
    E X B (.Call (.Name x ppos) (e :: es) [] pos) (lA fn fs) := PE.imp (pe_call G (hr.mono hkk) hg hm hk hb .nil pass0 ha hdb he hpl) fun σ H Q ⟨F, η, d, sr, hd, q⟩ => by
  obtain ⟨ds, hx, hd⟩ := bind_some hd
  refine ⟨F, η, ds, sr, hx, fun vs F1 H1 g1 rs => ?_⟩
  show spP X.K fn (vs ++ []) H1 Q E0
  rw [List.append_nil]
  exact ⟨F1, ds, d, g1.fh, rs, hd, fun v F2 H2 g2 rv => q v F2 H2 (g1.trans g2) rv⟩
end
inductive Out where
  | nx (η : En)
  | rt (d : PyData)
  | bk (η : En)
  | ct (η : En)
noncomputable def OutOk (K : PySem.W.Frag) (B : Bd) (F : Hp) (D : Ends) : Out → Prop
  | .nx η => ∀ σ' F' H', SR K B F' H' σ' η → Same F F' → D.nx σ' H'
  | .rt d => ∀ v F' H', Gr B.F B.H F' H' → Rel K F' d v → D.rt v H'
  | .bk η => ∀ σ' F' H', SR K B F' H' σ' η → Same F F' → D.bk σ' H'
  | .ct η => ∀ σ' F' H', SR K B F' H' σ' η → Same F F' → D.ct σ' H'
noncomputable def tS (K : PySem.W.Frag) (B : Bd) (f : En → Option Out) : TS := fun D σ H => ∃ F η o, SR K B F H σ η ∧ f η = some o ∧ OutOk K B F D o
noncomputable def S (X : Cx) (B : Bd) (st : Stmt) (f : En → Option Out) : Prop := PS X st (tS X.K B f)
noncomputable def Ss (X : Cx) (B : Bd) (st : List Stmt) (f : En → Option Out) : Prop := PSs X st (tS X.K B f)
theorem PS.imp {X : Cx} {e : Stmt} {t t' : TS} (h : PS X e t) (i : ∀ D σ H, t' D σ H → t D σ H) : PS X e t' := fun pins s σ H D I q => h pins s σ H D I (i D σ H q)
theorem PSs.imp {X : Cx} {e : List Stmt} {t t' : TS} (h : PSs X e t) (i : ∀ D σ H, t' D σ H → t D σ H) : PSs X e t' := fun pins s σ H D I q => h pins s σ H D I (i D σ H q)
theorem OutOk.up {K : PySem.W.Frag} {B : Bd} {F F1 : Hp} {D : Ends} {o : Out} (h : OutOk K B F D o) (s : Same F F1) : OutOk K B F1 D o := by
  cases o with
  | nx η => exact fun σ' F' H' r e => h σ' F' H' r (s.trans e)
  | rt d => exact h
  | bk η => exact fun σ' F' H' r e => h σ' F' H' r (s.trans e)
  | ct η => exact fun σ' F' H' r e => h σ' F' H' r (s.trans e)
noncomputable def sNx : En → Option Out := fun η => some (.nx η)
noncomputable def sSeq (f g : En → Option Out) : En → Option Out := fun η => (f η).bind fun o => match o with
  | .nx η' => g η'
  | o => some o
noncomputable def sRet (f : En → Option PyData) : En → Option Out := fun η => (f η).bind fun d => some (.rt d)
noncomputable def sRetN : En → Option Out := fun _ => some (.rt .none)
noncomputable def sRetO (i : Nat) : En → Option Out := fun η => match η[i]? with | some (.own ds) => some (.rt (.list ds)) | _ => none
noncomputable def sIf (c : En → Option Bool) (f g : En → Option Out) : En → Option Out := fun η => (c η).bind fun b => if b = true then f η else g η
noncomputable def sSet (i : Nat) (f : En → Option PyData) : En → Option Out := fun η => (f η).bind fun d => some (.nx (η.set i (.val d)))
noncomputable def sSetO (i : Nat) (f : En → Option (List PyData)) : En → Option Out := fun η => (f η).bind fun ds => some (.nx (η.set i (.own ds)))
noncomputable def sApp (i : Nat) (f : En → Option PyData) : En → Option Out := fun η => (f η).bind fun d => match η[i]? with
  | some (.own ds) => if ds.length < sizeLine then some (.nx (η.set i (.own (ds ++ [d])))) else none
  | _ => none
noncomputable def sExt (i : Nat) (f : En → Option (List PyData)) : En → Option Out := fun η => (f η).bind fun es => match η[i]? with
  | some (.own ds) => if ds.length + es.length ≤ sizeLine then some (.nx (η.set i (.own (ds ++ es)))) else none
  | _ => none
noncomputable def frz (i : Nat) (η : En) : En := match η[i]? with | some (.own ds) => η.set i (.val (.list ds)) | some (.odc kvs) => η.set i (.val (.dict (prs kvs))) | _ => η
section
variable {X : Cx} {B : Bd} {st : Stmt} {sts sts' : List Stmt} {u v : En → Option Out} {a b c e : Expr} {f g : En → Option PyData} {fs : En → Option (List PyData)} {p : En → Option Bool} {pos pos' : Pos}
theorem Ss.nil : Ss X B [] sNx := PSs.imp pss_nil fun D σ H ⟨F, η, o, sr, hd, q⟩ => by
  cases hd
  exact q σ F H sr (.refl _)
theorem Ss.one (h : S X B st u) : Ss X B [st] u := pss_one h
theorem Ss.cons (h : S X B st u) (k : Ss X B sts v) : Ss X B (st :: sts) (sSeq u v) := PSs.imp (pss_cons h k) fun D σ H ⟨F, η, o, sr, hd, q⟩ => by
  obtain ⟨o1, h1, hd⟩ := bind_some hd
  refine ⟨F, η, o1, sr, h1, ?_⟩
  cases o1 with
  | nx η' => exact fun σ' F' H' r e => ⟨F', η', o, r, hd, q.up e⟩
  | rt d => cases hd; exact q
  | bk η' => cases hd; exact q
  | ct η' => cases hd; exact q
theorem S.never : S X B st (fun _ => none) := PS.imp ps_never fun D σ H ⟨F, η, o, sr, hd, q⟩ => by cases hd
theorem S.ret (he : E X B e f) : S X B (.Return (some e) pos) (sRet f) := PS.imp (ps_ret he) fun D σ H ⟨F, η, o, sr, hd, q⟩ => by
  obtain ⟨d, h1, hd⟩ := bind_some hd
  cases hd
  exact ⟨F, η, d, sr, h1, fun v F' H' g rv => q v F' H' (sr.gr.trans g) rv⟩
theorem S.retO (i : Nat) {x : Str} (hN : X.N[i]? = some x := by rfl) (hv : Vis X.env.scope x := by first | exact Or.inl rfl | exact Or.inr (Or.inl rfl) | exact Or.inr (Or.inr rfl)) (hd : (x == ("__debug__" : Str)) = false := by decide)
    (hcd : (x == ("__classdict__" : Str)) = false := by decide) : S X B (.Return (some (.Name x pos')) pos) (sRetO i) := PS.imp (ps_ret (pe_var hN hv hd hcd)) fun D σ H ⟨F, η, o, sr, hd, q⟩ => by
  unfold sRetO at hd
  split at hd
  · rename_i ds e
    cases hd
    obtain ⟨F', p, e1, sf, sr', rel⟩ := sr.freeze e
    exact ⟨_, e1, q _ F' H sr'.gr rel⟩
  · cases hd
theorem S.ifS (hc : T X B c p) (ha : Ss X B sts u) (hb : Ss X B sts' v) : S X B (.If c sts sts' pos) (sIf p u v) := PS.imp (ps_if hc ha hb) fun D σ H ⟨F, η, o, sr, hd, q⟩ => by
  obtain ⟨b, h1, hd⟩ := bind_some hd
  refine ⟨F, η, b, sr, h1, fun F1 H1 g1 => ?_⟩
  cases b with
  | false =>
    rw [if_neg Bool.false_ne_true] at hd ⊢
    exact ⟨F1, η, o, sr.grow g1, hd, q.up g1.ff⟩
  | true =>
    rw [if_pos rfl] at hd ⊢
    exact ⟨F1, η, o, sr.grow g1, hd, q.up g1.ff⟩
theorem asg_of {K : PySem.W.Frag} {i : Nat} : ∀ D σ H, tS K B (sSet i f) D σ H → tAsg (tE K B f) (gName i) D σ H := fun D σ H ⟨F, η, o, sr, hd, q⟩ => by
  obtain ⟨d, h1, hd⟩ := bind_some hd
  cases hd
  refine ⟨F, η, d, sr, h1, fun v F1 H1 g1 rv => q _ F1 H1 ⟨sr.gr.trans g1, (sr.en.grow g1).set i rv⟩ g1.ff⟩
theorem asgO_of {K : PySem.W.Frag} {i : Nat} : ∀ D σ H, tS K B (sSetO i fs) D σ H → tAsg (tO K B fs) (gName i) D σ H := fun D σ H ⟨F, η, o, sr, hd, q⟩ => by
  obtain ⟨d, h1, hd⟩ := bind_some hd
  cases hd
  refine ⟨F, η, d, sr, h1, fun p xs F1 H1 g1 hp fp hp' rs => q _ F1 H1 ⟨sr.gr.trans g1, (sr.en.grow g1).setOwn i fp (sr.gr.hh.free hp) hp' rs fun j ej => sr.en.notown hp j ej⟩ g1.ff⟩
theorem S.set (i : Nat) {x : Str} (hN : X.N.Nodup) (he : E X B e f) (hi : X.N[i]? = some x := by rfl) (hx : Loc X.env.scope x := by first | exact Or.inl rfl | exact Or.inr rfl) (hs : swapsWith e (some (.Name x pos')) pos.line X.env = pure false := by rfl)
    (hf : X.fn x = true ∨ X.env.scope.names.lookup x = some .local := by first | exact .inl rfl | exact .inr rfl) : S X B (.Assign [.Name x pos'] e pos) (sSet i f) := PS.imp (ps_set hN hi hx he hs hf) asg_of
theorem S.setO (i : Nat) {x : Str} (hN : X.N.Nodup) (he : EO X B e fs) (hi : X.N[i]? = some x := by rfl) (hx : Loc X.env.scope x := by first | exact Or.inl rfl | exact Or.inr rfl) (hs : swapsWith e (some (.Name x pos')) pos.line X.env = pure false := by rfl)
    (hf : X.fn x = true ∨ X.env.scope.names.lookup x = some .local := by first | exact .inl rfl | exact .inr rfl) : S X B (.Assign [.Name x pos'] e pos) (sSetO i fs) := PS.imp (ps_set hN hi hx he hs hf) asgO_of
theorem Ss.frz (i : Nat) (h : Ss X B sts u) : Ss X B sts (fun η => u (frz i η)) := PSs.imp h fun D σ H ⟨F, η, o, sr, hd, q⟩ => by
  have hd : u (PU.frz i η) = some o := hd
  unfold PU.frz at hd
  split at hd
  · rename_i ds e
    obtain ⟨F', p, e1, sf, sr', rel⟩ := sr.freeze e
    exact ⟨F', _, o, sr', hd, q.up sf⟩
  · rename_i kvs e
    obtain ⟨F', p, e1, sf, sr', rel⟩ := sr.freezeD e
    exact ⟨F', _, o, sr', hd, q.up sf⟩
  · exact ⟨F, η, o, sr, hd, q⟩
noncomputable def ItP (K : PySem.W.Frag) (J : It) (F : Hp) (ds : List PyData) : Prop := ∀ F1 H1 (i : Nat), Same F F1 → Same F1 H1 →
  (∀ d, ds[i]? = some d → J.go i H1 ∧ ∀ x H2, J.yld i H1 x H2 → ∃ F2, Gr F1 H1 F2 H2 ∧ Rel K F2 d x) ∧ (i = ds.length → J.stop i H1)
noncomputable def tI (K : PySem.W.Frag) (B : Bd) (f : En → Option (List PyData)) : TI := fun σ H R => ∃ F η ds, SR K B F H σ η ∧ f η = some ds ∧ ∀ J F' H', Gr F H F' H' → ItP K J F' ds → R J H'
noncomputable def I (X : Cx) (B : Bd) (tg iter : Expr) (f : En → Option (List PyData)) : Prop := PI X tg iter (tI X.K B f)
theorem PI.imp {X : Cx} {tg it : Expr} {t t' : TI} (h : PI X tg it t) (i : ∀ σ H Q, t' σ H Q → t σ H Q) : PI X tg it t' := fun pins s σ H Q I q => h pins s σ H Q I (i σ H Q q)
noncomputable def TgP (K : PySem.W.Frag) (ks : List Nat) (g : TG) (t : En → PyData → Option En) : Prop := ∀ (B : Bd) F H σ η d x η', SR K B F H σ η → Rel K F d x → t η d = some η' → ∀ Q : St → Hp → Prop,
  (∀ σ' F' H', SR K B F' H' σ' η' → Gr F H F' H' → σ'.length = σ.length → (∀ i, i ∉ ks → σ'[i]? = σ[i]?) → Q σ' H') → g x σ H Q
noncomputable def tgN (i : Nat) : En → PyData → Option En := fun η d => some (η.set i (.val d))
theorem TgP.name {K : PySem.W.Frag} {i : Nat} : TgP K [i] (gName i) (tgN i) := fun B F H σ η d x η' sr rx e Q q => by
  cases e
  exact q _ F H ⟨sr.gr, sr.en.set i rx⟩ (.refl sr.same) (List.length_set ..) fun j hj => List.getElem?_set_ne (fun e => hj (by simp [e])) ..
noncomputable def TgsP (K : PySem.W.Frag) (ks : List Nat) (g : TGs) (t : En → List PyData → Option En) : Prop := ∀ (B : Bd) F H σ η ds xs η', SR K B F H σ η → RelL K F ds xs → t η ds = some η' → ∀ Q : St → Hp → Prop,
  (∀ σ' F' H', SR K B F' H' σ' η' → Gr F H F' H' → σ'.length = σ.length → (∀ i, i ∉ ks → σ'[i]? = σ[i]?) → Q σ' H') → g xs σ H Q
noncomputable def tgNil : En → List PyData → Option En := fun η ds => match ds with | [] => some η | _ => none
noncomputable def tgCons (t : En → PyData → Option En) (r : En → List PyData → Option En) : En → List PyData → Option En := fun η ds => match ds with | [] => none | d :: ds => (t η d).bind fun η1 => r η1 ds
theorem TgsP.nil {K : PySem.W.Frag} : TgsP K [] gNil tgNil := fun B F H σ η ds xs η' sr rx e Q q => by
  cases ds with
  | nil =>
    cases e
    exact ⟨rx.nil_of, q _ F H sr (.refl sr.same) rfl fun _ _ => rfl⟩
  | cons d ds => cases e
theorem TgsP.cons {K : PySem.W.Frag} {ks ls : List Nat} {g : TG} {gs : TGs} {t : En → PyData → Option En} {r : En → List PyData → Option En} (h : TgP K ks g t) (k : TgsP K ls gs r) : TgsP K (ks ++ ls) (gCons g gs) (tgCons t r) := fun B F H σ η ds xs η' sr rx e Q q => by
  cases ds with
  | nil => cases e
  | cons d ds =>
    obtain ⟨x, r', rfl, h1, h2⟩ := rx.cons_of
    obtain ⟨η1, e1, e2⟩ := bind_some e
    refine ⟨x, r', rfl, h B F H σ η d x η1 sr h1 e1 _ fun σ1 F1 H1 sr1 g1 l1 n1 => ?_⟩
    refine k B F1 H1 σ1 η1 ds r' η' sr1 (h2.mono g1.ff) e2 _ fun σ2 F2 H2 sr2 g2 l2 n2 => ?_
    exact q σ2 F2 H2 sr2 (g1.trans g2) (l2.trans l1) fun i hi => (n2 i fun z => hi (List.mem_append_right _ z)).trans (n1 i fun z => hi (List.mem_append_left _ z))
noncomputable def tgT (t : En → List PyData → Option En) : En → PyData → Option En := fun η d => match d with | .tuple ds => t η ds | _ => none
theorem TgP.tup {K : PySem.W.Frag} {ks : List Nat} {n : Nat} {g : TGs} {t : En → List PyData → Option En} (h : TgsP K ks g t) (hn : ∀ η ds η', t η ds = some η' → ds.length = n) : TgP K ks (gTup K n g) (tgT t) := fun B F H σ η d x η' sr rx e Q q => by
  cases d with
  | tuple ds =>
    obtain ⟨a, xs, rfl, hq, rs⟩ := rx.tup
    exact ⟨a, xs, rfl, same_seqT sr.same hq, by rw [rs.length]; exact hn η ds η' e, h B F H σ η ds xs η' sr rs e Q q⟩
  | none => cases e
  | bool _ => cases e
  | int _ => cases e
  | str _ => cases e
  | list _ => cases e
  | dict _ => cases e
noncomputable def sGo (t : En → PyData → Option En) (body : En → Option Out) : List PyData → En → Option Out
  | [], η => some (.nx η)
  | d :: ds, η => (t η d).bind fun η1 => (body η1).bind fun o => match o with
    | .nx η2 => sGo t body ds η2
    | .ct η2 => sGo t body ds η2
    | .bk η2 => some (.nx η2)
    | .rt d => some (.rt d)
noncomputable def sFor (it : En → Option (List PyData)) (t : En → PyData → Option En) (body : En → Option Out) : En → Option Out := fun η => (it η).bind fun ds => sGo t body ds η
theorem S.for {tg iter : Expr} {body : List Stmt} {gt : TG} {ks : List Nat} {t : En → PyData → Option En} (hp : PassesOwn (model X.prog X.w) X.A X.env X.xe) (hc : X.calm = true) (hi : I X B tg iter fs) (hg : PG X tg gt) (ht : TgP X.K ks gt t) (hb : Ss X B body u)
    (hs : ∀ x, foldedSetIterable iter X.env x = pure x := by intro _; rfl) : S X B (.For tg iter body [] pos) (sFor fs t u) := PS.imp (ps_for hp hc hi hg hb hs) fun D σ H ⟨F, η, o, sr, hd, q⟩ => by
  obtain ⟨ds, h1, hd⟩ := bind_some hd
  refine ⟨F, η, ds, sr, h1, fun J F1 H1 g1 ip => ?_⟩
  refine ⟨fun i m σ H => m = ds.length - i ∧ i ≤ ds.length ∧ ∃ Fc ηc, SR X.K B Fc H σ ηc ∧ Same F1 Fc ∧ sGo t u (ds.drop i) ηc = some o, ⟨_, rfl, Nat.zero_le _, F1, η, sr.grow g1, .refl _, by simpa using hd⟩, ?_⟩
  rintro i m σc Hc ⟨rfl, hi, Fc, ηc, src, sc, hgo⟩
  obtain ⟨ip1, ip2⟩ := ip Fc Hc i sc src.same
  by_cases hlt : i < ds.length
  · have e : ds[i]? = some ds[i] := List.getElem?_eq_getElem hlt
    obtain ⟨go, yl⟩ := ip1 _ e
    rw [List.drop_eq_getElem_cons hlt] at hgo
    unfold sGo at hgo
    obtain ⟨η1, e1, hgo⟩ := bind_some hgo
    obtain ⟨o1, e2, hgo⟩ := bind_some hgo
    have cont : ∀ (η2 : En), sGo t u (ds.drop (i + 1)) η2 = some o → ∀ σ' F' H', SR X.K B F' H' σ' η2 → Same F1 F' →
        ∃ m', m' < ds.length - i ∧ (fun i m σ H => m = ds.length - i ∧ i ≤ ds.length ∧ ∃ Fc ηc, SR X.K B Fc H σ ηc ∧ Same F1 Fc ∧ sGo t u (ds.drop i) ηc = some o) (i + 1) m' σ' H' := fun η2 h2 σ' F' H' r s =>
      ⟨ds.length - (i + 1), by omega, rfl, hlt, F', η2, r, s, h2⟩
    refine .inr ⟨go, fun σ' H' => ∃ m', m' < ds.length - i ∧ (fun i m σ H => m = ds.length - i ∧ i ≤ ds.length ∧ ∃ Fc ηc, SR X.K B Fc H σ ηc ∧ Same F1 Fc ∧ sGo t u (ds.drop i) ηc = some o) (i + 1) m' σ' H', fun σ' H' n => n, fun x H' y => ?_⟩
    obtain ⟨F2, g2, rx⟩ := yl x H' y
    refine ht B F2 H' σc ηc _ x η1 (src.grow g2) rx e1 _ fun σ3 F3 H3 sr3 g3 _ _ => ?_
    refine ⟨F3, η1, o1, sr3, e2, ?_⟩
    have s3 : Same F1 F3 := sc.trans (g2.ff.trans g3.ff)
    cases o1 with
    | nx η2 => exact fun σ' F' H' r s => cont η2 hgo σ' F' H' r (s3.trans s)
    | ct η2 => exact fun σ' F' H' r s => cont η2 hgo σ' F' H' r (s3.trans s)
    | bk η2 =>
      cases hgo
      exact fun σ' F' H' r s => q σ' F' H' r (g1.ff.trans (s3.trans s))
    | rt d =>
      cases hgo
      exact q
  · have ei : i = ds.length := by omega
    subst ei
    rw [List.drop_length] at hgo
    cases hgo
    exact .inl ⟨ip2 rfl, q σc Fc Hc src (g1.ff.trans sc)⟩
noncomputable def asL : PyData → Option (List PyData)
  | .list ds => some ds
  | _ => none
noncomputable def asTu : PyData → Option (List PyData)
  | .tuple ds => some ds
  | _ => none
noncomputable def lI (k : PyData → Option (List PyData)) (f : En → Option PyData) : En → Option (List PyData) := fun η => (f η).bind k
theorem itp_list {K : PySem.W.Frag} {F : Hp} {a : Addr} {xs : List V} {ds : List PyData} (h : SqL K F a xs) (r : RelL K F ds xs) : ItP K (Itl K a) F ds := fun F1 H1 i s1 s2 => by
  have q := s2.seq (s1.seq h)
  refine ⟨fun d e => ?_, fun e => ⟨xs, q, by rw [r.length, e]; exact Nat.le_refl _⟩⟩
  obtain ⟨x, ex, rx⟩ := r.get e
  refine ⟨⟨xs, x, q, ex⟩, fun x' H2 y => ?_⟩
  obtain ⟨e2, y⟩ := y
  subst e2
  have z := y xs q
  rw [ex] at z
  cases z
  exact ⟨F1, .refl s2, rx.mono s1⟩
theorem itp_tup {K : PySem.W.Frag} {F : Hp} {a : Addr} {xs : List V} {ds : List PyData} (h : SqT K F a xs) (r : RelL K F ds xs) : ItP K (Itt K a) F ds := fun F1 H1 i s1 s2 => by
  have q := same_seqT s2 (same_seqT s1 h)
  refine ⟨fun d e => ?_, fun e => ⟨xs, q, by rw [r.length, e]; exact Nat.le_refl _⟩⟩
  obtain ⟨x, ex, rx⟩ := r.get e
  refine ⟨⟨xs, x, q, ex⟩, fun x' H2 y => ?_⟩
  obtain ⟨e2, y⟩ := y
  subst e2
  have z := y xs q
  rw [ex] at z
  cases z
  exact ⟨F1, .refl s2, rx.mono s1⟩
theorem I.list {tg : Expr} (he : E X B e f) : I X B tg e (lI asL f) := PI.imp (pi_list he) fun σ H Q ⟨F, η, ds, sr, hd, q⟩ => by
  obtain ⟨d, h1, hd⟩ := bind_some hd
  cases d <;> simp only [asL, Option.some.injEq, reduceCtorEq] at hd
  subst hd
  refine ⟨F, η, _, sr, h1, fun v F1 H1 g1 rv => ?_⟩
  obtain ⟨a, xs, rfl, hq, rs⟩ := rv.lst
  exact ⟨a, rfl, ⟨xs, g1.fh.seq hq⟩, q _ F1 H1 g1 (itp_list hq rs)⟩
theorem I.tup {tg : Expr} (he : E X B e f) : I X B tg e (lI asTu f) := PI.imp (pi_tup he) fun σ H Q ⟨F, η, ds, sr, hd, q⟩ => by
  obtain ⟨d, h1, hd⟩ := bind_some hd
  cases d <;> simp only [asTu, Option.some.injEq, reduceCtorEq] at hd
  subst hd
  refine ⟨F, η, _, sr, h1, fun v F1 H1 g1 rv => ?_⟩
  obtain ⟨a, xs, rfl, hq, rs⟩ := rv.tup
  exact ⟨a, rfl, ⟨xs, same_seqT g1.fh hq⟩, q _ F1 H1 g1 (itp_tup hq rs)⟩
noncomputable def rngL (lo : Int) (n : Nat) : List PyData := (List.range n).map fun (k : Nat) => PyData.int (lo + k)
theorem itp_rng {K : PySem.W.Frag} {F : Hp} {lo : Int} {n : Nat} : ItP K (Itr lo n) F (rngL lo n) := fun F1 H1 i s1 s2 => by
  have hl : (rngL lo n).length = n := by unfold rngL; rw [List.length_map, List.length_range]
  refine ⟨fun d e => ?_, fun e => by show n ≤ i; omega⟩
  have hi : i < n := by rw [← hl]; exact (List.getElem?_eq_some_iff.mp e).1
  refine ⟨hi, fun x H2 y => ?_⟩
  obtain ⟨e2, e3⟩ := y
  subst e2 e3
  have : d = .int (lo + i) := by
    unfold rngL at e
    rw [List.getElem?_map, List.getElem?_range hi] at e
    exact (Option.some.inj e).symm
  subst this
  exact ⟨F1, .refl s2, rel_int⟩
noncomputable def rng1 (ds : List PyData) : Option (List PyData) := match ds with
  | [.int j] => if -(2 ^ 62) ≤ j ∧ j < 2 ^ 62 then some (rngL 0 j.toNat) else none
  | _ => none
noncomputable def rng2 (ds : List PyData) : Option (List PyData) := match ds with
  | [.int i, .int j] => if (-(2 ^ 62) ≤ i ∧ i < 2 ^ 62) ∧ (-(2 ^ 62) ≤ j ∧ j < 2 ^ 62) then some (rngL i (j - i).toNat) else none
  | _ => none
theorem I.rng1 {tg : Expr} {pp : Pos} (hm : X.mg "range" = none) (ha : A X B [a] fs) (hg : Gl X "range" := by rfl) (hs : starEach [a] X.env = [(false, eval a X.env)] := by exact star_of rfl) : I X B tg (.Call (.Name "range" pp) [a] [] pos) (fun η => (fs η).bind PU.rng1) :=
  PI.imp (pi_range1 hg hm ha hs) fun σ H Q ⟨F, η, ds, sr, hd, q⟩ => by
    obtain ⟨es, h1, hd⟩ := bind_some hd
    unfold PU.rng1 at hd
    split at hd
    · rename_i j
      split at hd
      · rename_i hj
        cases hd
        refine ⟨F, η, _, sr, h1, fun vs F1 H1 g1 rs => ?_⟩
        obtain ⟨x, r, rfl, rx, rr⟩ := rs.cons_of
        obtain rfl := rr.nil_of
        exact ⟨j, by rw [rx.int], hj.1, hj.2, q _ F1 H1 g1 itp_rng⟩
      · cases hd
    · cases hd
theorem I.rng2 {tg : Expr} {pp : Pos} (hm : X.mg "range" = none) (ha : A X B [a, b] fs) (hg : Gl X "range" := by rfl) (hs : starEach [a, b] X.env = [(false, eval a X.env), (false, eval b X.env)] := by exact star2_of rfl rfl) (hs2 : starEach [b] X.env = [(false, eval b X.env)] := by exact star_of rfl) :
    I X B tg (.Call (.Name "range" pp) [a, b] [] pos) (fun η => (fs η).bind PU.rng2) :=
  PI.imp (pi_range2 hg hm ha hs hs2) fun σ H Q ⟨F, η, ds, sr, hd, q⟩ => by
    obtain ⟨es, h1, hd⟩ := bind_some hd
    unfold PU.rng2 at hd
    split at hd
    · rename_i i j
      split at hd
      · rename_i hj
        cases hd
        refine ⟨F, η, _, sr, h1, fun vs F1 H1 g1 rs => ?_⟩
        obtain ⟨x, r, rfl, rx, rr⟩ := rs.cons_of
        obtain ⟨y, r2, rfl, ry, rr2⟩ := rr.cons_of
        obtain rfl := rr2.nil_of
        exact ⟨i, j, by rw [rx.int, ry.int], ⟨hj.1.1, hj.1.2, hj.2.1, hj.2.2⟩, q _ F1 H1 g1 itp_rng⟩
      · cases hd
    · cases hd
end
noncomputable def inEn (mp : List (Option Nat)) (η : En) : En := mp.map fun o => match o with
  | some j => (match η[j]? with | some (.val d) => .val d | some (.ob fs) => .ob fs | _ => .un)
  | none => .un
noncomputable def cGo (t : En → PyData → Option En) (p : En → Option Bool) (f : En → Option PyData) (η : En) : List PyData → Option (List PyData)
  | [] => some []
  | d :: ds => (t η d).bind fun η1 => (p η1).bind fun ok => if ok = true then (f η1).bind fun y => (cGo t p f η ds).bind fun r => some (y :: r) else cGo t p f η ds
noncomputable def sComp (mp : List (Option Nat)) (fi : En → Option (List PyData)) (t : En → PyData → Option En) (p : En → Option Bool) (f : En → Option PyData) : En → Option (List PyData) := fun η =>
  (fi η).bind fun ds => if ds.length ≤ sizeLine then cGo t p f (inEn mp η) ds else none
noncomputable def Ts (X : Cx) (B : Bd) (ifs : List Expr) (p : En → Option Bool) : Prop := PTs X ifs (tT X.K B p)
noncomputable def tTrue : En → Option Bool := fun _ => some true
section
variable {X : Cx} {B : Bd}
theorem Ts.nil : Ts X B [] tTrue := fun pins s σ H Q I ⟨F, η, b, sr, hd, q⟩ => by
  cases hd
  exact pts_nil pins s σ H Q I (q F H (.refl sr.same))
theorem Ts.one {c : Expr} {p : En → Option Bool} (h : T X B c p) : Ts X B [c] p := pts_one h
theorem inEn_no {mp : List (Option Nat)} {η : En} {i : Nat} {a : Sl} (e : (inEn mp η)[i]? = some a) : isOwn a = false := by
  unfold inEn at e
  rw [List.getElem?_map] at e
  cases q : mp[i]? with
  | none => rw [q] at e; cases e
  | some o =>
    rw [q] at e
    cases o with
    | none => cases e; rfl
    | some j =>
      have e' : (match η[j]? with | some (.val d) => Sl.val d | some (.ob fs) => .ob fs | _ => .un) = a := Option.some.inj e
      split at e' <;> (subst e'; rfl)
theorem EnR.inner {K : PySem.W.Frag} {He F H : Hp} {σ : St} {η : En} (r : EnR K He F H σ η) (mp : List (Option Nat)) : EnR K He F H (inSt mp σ) (inEn mp η) where
  len := by unfold inEn inSt; rw [List.length_map, List.length_map]
  val := fun i d e => by
    unfold inEn at e
    rw [List.getElem?_map] at e
    cases q : mp[i]? with
    | none => rw [q] at e; cases e
    | some o =>
      rw [q] at e
      cases o with
      | none => cases e
      | some j =>
        have e' : (match η[j]? with | some (.val d) => Sl.val d | some (.ob fs) => .ob fs | _ => .un) = .val d := Option.some.inj e
        split at e'
        · rename_i d' ed
          have : d' = d := by injection e'
          subst this
          obtain ⟨v, e1, e2⟩ := r.val j d' ed
          refine ⟨v, ?_, e2⟩
          unfold inSt
          rw [List.getElem?_map, q]
          show some ((σ[j]?).join) = _
          rw [e1]
          rfl
        · cases e'
        · cases e'
  obs := fun i fs e => by
    unfold inEn at e
    rw [List.getElem?_map] at e
    cases q : mp[i]? with
    | none => rw [q] at e; cases e
    | some o =>
      rw [q] at e
      cases o with
      | none => cases e
      | some j =>
        have e' : (match η[j]? with | some (.val d) => Sl.val d | some (.ob fs) => .ob fs | _ => .un) = .ob fs := Option.some.inj e
        split at e'
        · cases e'
        · rename_i d' ed
          have : d' = fs := by injection e'
          subst this
          obtain ⟨p, C, dx, xs, e1, e2⟩ := r.obs j d' ed
          refine ⟨p, C, dx, xs, ?_, e2⟩
          unfold inSt
          rw [List.getElem?_map, q]
          show some ((σ[j]?).join) = _
          rw [e1]
          rfl
        · cases e'
  cel := fun i a e ha => by rw [inEn_no e] at ha; cases ha
  apart := fun i j a b e _ ha _ _ => by rw [inEn_no e] at ha; cases ha
variable {elt iter tg : Expr} {ifs : List Expr} {scope : Scope} {pos : Pos} {N' : List Str} {mp : List (Option Nat)} {ks : List Nat} {gt : TG} {t : En → PyData → Option En} {fi : En → Option (List PyData)} {p : En → Option Bool} {f : En → Option PyData}
theorem comp_of {K : PySem.W.Frag} (ht : TgP K ks gt t) (hks : ∀ k ∈ ks, mp[k]? = some none) : ∀ σ H Q, tO K B (sComp mp fi t p f) σ H Q → tComp mp (tI K B fi) gt (tT K B p) (tE K B f) σ H Q := fun σ H Q ⟨F, η, rs, sr, hd, q⟩ => by
  obtain ⟨ds, h1, hd⟩ := bind_some hd
  split at hd
  rotate_left
  · cases hd
  rename_i hz
  refine ⟨F, η, ds, sr, h1, fun J F1 H1 g1 ip D hD => ?_⟩
  have fD : F1 D = none := g1.fh.free hD
  have kept : ∀ {σ2 : St}, σ2.length = (inSt mp σ).length → (∀ i, i ∉ ks → σ2[i]? = (inSt mp σ)[i]?) → KeepsSt (inSt mp σ) σ2 := fun {σ2} hl hn => ⟨hl, fun i v e => by
    by_cases hi : i ∈ ks
    · have z := hks i hi
      unfold inSt at e
      rw [List.getElem?_map, z] at e
      cases e
    · rw [hn i hi]; exact e⟩
  refine ⟨fun i m Hc => m = ds.length - i ∧ i ≤ ds.length ∧ ∃ Fc ys done rest, Gr F1 H1 Fc Hc ∧ Fc D = none ∧ Hc D = some (.lst ys) ∧ RelL K Fc done ys ∧ done.length ≤ i ∧ cGo t p f (inEn mp η) (ds.drop i) = some rest ∧ rs = done ++ rest,
    ⟨_, rfl, Nat.zero_le _, F1, [], [], rs, ⟨.refl _, same_new hD _, fun b u z => same_new hD _ b u (g1.fh b u z), fun b z => .inl z⟩, fD, upd_same, .nil, Nat.le_refl _, by simpa using hd, rfl⟩, ?_⟩
  rintro i m Hc ⟨rfl, hi, Fc, ys, done, rest, gc, fcD, hcD, rd, hdl, hgo, hrs⟩
  obtain ⟨ip1, ip2⟩ := ip Fc Hc i gc.ff gc.fh
  by_cases hlt : i < ds.length
  · have e : ds[i]? = some ds[i] := List.getElem?_eq_getElem hlt
    obtain ⟨go, yl⟩ := ip1 _ e
    rw [List.drop_eq_getElem_cons hlt] at hgo
    unfold cGo at hgo
    obtain ⟨η1, e1, hgo⟩ := bind_some hgo
    obtain ⟨ok, e2, hgo⟩ := bind_some hgo
    refine .inr ⟨go, fun H' => ∃ m', m' < ds.length - i ∧ (m' = ds.length - (i + 1) ∧ i + 1 ≤ ds.length ∧ ∃ Fc ys done rest, Gr F1 H1 Fc H' ∧ Fc D = none ∧ H' D = some (.lst ys) ∧ RelL K Fc done ys ∧ done.length ≤ i + 1 ∧ cGo t p f (inEn mp η) (ds.drop (i + 1)) = some rest ∧ rs = done ++ rest), fun H' n => n, fun x H' y => ?_⟩
    obtain ⟨F2, g2, rx⟩ := yl x H' y
    have sin : SR K B F2 H' (inSt mp σ) (inEn mp η) := ⟨(sr.gr.trans g1).trans (gc.trans g2), ((sr.en.grow g1).inner mp).grow (gc.trans g2)⟩
    refine ht B F2 H' (inSt mp σ) (inEn mp η) _ x η1 sin rx e1 _ fun σ3 F3 H3 sr3 g3 l3 n3 => ⟨kept l3 n3, F3, η1, ok, sr3, e2, fun F4 H4 g4 => ?_⟩
    have gall : Gr Fc Hc F4 H4 := (g2.trans g3).trans g4
    have nD : ∀ {F5 H5 : Hp}, Gr Fc Hc F5 H5 → F5 D = none := fun {F5 H5} g => by
      cases z : F5 D with
      | none => rfl
      | some o =>
        rcases g.new D (by rw [z]; simp) with w | w
        · exact absurd fcD w
        · rw [hcD] at w; cases w
    cases ok with
    | false =>
      rw [if_neg Bool.false_ne_true] at hgo
      refine iteF ?_
      exact ⟨ds.length - (i + 1), by omega, rfl, hlt, F4, ys, done, rest, gc.trans gall, nD gall, gall.hh _ _ hcD, rd.mono gall.ff, Nat.le_succ_of_le hdl, hgo, hrs⟩
    | true =>
      rw [if_pos rfl] at hgo
      refine iteT ?_
      obtain ⟨yv, e3, hgo⟩ := bind_some hgo
      obtain ⟨r, e4, hgo⟩ := bind_some hgo
      cases hgo
      refine ⟨F4, η1, yv, sr3.grow g4, e3, fun v F5 H5 g5 rv => ?_⟩
      have ga := gall.trans g5
      have h5D := ga.hh _ _ hcD
      refine ⟨ys, h5D, by rw [rd.length]; omega, ds.length - (i + 1), by omega, rfl, hlt, F5, ys ++ [v], done ++ [yv], r, ?_, nD ga, upd_same, (rd.mono ga.ff).append (.cons rv .nil), by rw [List.length_append, List.length_singleton]; omega, e4, by rw [hrs, List.append_assoc]; rfl⟩
      have gt' := gc.trans ga
      refine ⟨gt'.ff, fun b u z => ?_, fun b u z => ?_, gt'.new⟩
      · have nb : b ≠ D := ne_of_none z hD
        rw [upd_ne nb]; exact gt'.hh b u z
      · have nb : b ≠ D := ne_of_none z (nD ga)
        rw [upd_ne nb]; exact gt'.fh b u z
  · have ei : i = ds.length := by omega
    subst ei
    rw [List.drop_length] at hgo
    cases hgo
    rw [List.append_nil] at hrs
    subst hrs
    exact .inl ⟨ip2 rfl, q D ys Fc Hc (g1.trans gc) (g1.hh.free hD) fcD hcD rd⟩
theorem EO.comp (hc : X.calm = true) (ck : CompSc X scope N' mp) (ht : TgP X.K ks gt t) (hks : ∀ k ∈ ks, mp[k]? = some none) (hi : I X B tg iter fi)
    (hb : ∀ s H fp, PG (compCx X scope N' s H fp) tg gt ∧ Ts (compCx X scope N' s H fp) B ifs p ∧ E (compCx X scope N' s H fp) B elt f)
    (hs : ∀ x, foldedSetIterable iter X.env x = pure x := by intro _; rfl) : EO X B (.ListComp elt [⟨tg, iter, ifs, 0⟩] scope pos) (sComp mp fi t p f) := PE.imp (pe_comp hc ck hi hb hs) (comp_of ht hks)
theorem S.setC (i : Nat) {y : Str} {py spos : Pos} (hc : X.calm = true) (hN : X.N.Nodup) (ck : CompSc X scope N' mp) (ht : TgP X.K ks gt t) (hks : ∀ k ∈ ks, mp[k]? = some none) (hi : I X B tg iter fi)
    (hb : ∀ s H fp, PG (compCx X scope N' s H fp) tg gt ∧ Ts (compCx X scope N' s H fp) B ifs p ∧ E (compCx X scope N' s H fp) B elt f)
    (hiy : X.N[i]? = some y := by rfl) (hy : X.env.scope.names.lookup y = some .local := by rfl) (hsw : swapsWith (.ListComp elt [⟨tg, iter, ifs, 0⟩] scope pos) (some (.Name y py)) spos.line X.env = pure true := by rfl)
    (hs : ∀ x, foldedSetIterable iter X.env x = pure x := by intro _; rfl) : S X B (.Assign [.Name y py] (.ListComp elt [⟨tg, iter, ifs, 0⟩] scope pos) spos) (sSetO i (sComp mp fi t p f)) :=
  PS.imp (ps_setComp hc hN hiy hy ck hi hb hsw hs) fun D σ H h => by
    have h' := asgO_of D σ H h
    exact comp_of ht hks σ H _ h'
end
noncomputable def runF (n m : Nat) (g : En → Option Out) (ds : List PyData) : Option PyData := if ds.length = n then (g (ds.map Sl.val ++ List.replicate (m - n) .un)).bind fun o => match o with
  | .rt d => some d
  | .nx _ => some .none
  | _ => none else none
section
variable {P : Program} {w : World} {K : PySem.W.Frag} {mg : Str → Option Value} {base : Heap}
theorem start_no {n : Nat} {ds : List PyData} {i : Nat} {a : Sl} (e : (ds.map Sl.val ++ List.replicate n .un)[i]? = some a) : isOwn a = false := by
  by_cases hi : i < ds.length
  · rw [List.getElem?_append_left (by rw [List.length_map]; exact hi), List.getElem?_map] at e
    cases q : ds[i]? with
    | none => rw [q] at e; cases e
    | some d' => rw [q] at e; cases e; rfl
  · rw [List.getElem?_append_right (by rw [List.length_map]; omega), List.getElem?_replicate] at e
    split at e <;> cases e
    rfl
theorem EnR.start {F H : Hp} {N : List Str} {ds : List PyData} {vs : List V} (r : RelL K F ds vs) : EnR K H F H (L2.start N vs) (ds.map Sl.val ++ List.replicate (N.length - ds.length) .un) where
  len := by unfold L2.start; rw [List.length_append, List.length_append, List.length_map, List.length_map, List.length_replicate, List.length_replicate, r.length]
  val := fun i d e => by
    unfold L2.start
    by_cases hi : i < ds.length
    · rw [List.getElem?_append_left (by rw [List.length_map]; exact hi), List.getElem?_map] at e
      rw [List.getElem?_append_left (by rw [List.length_map, r.length]; exact hi), List.getElem?_map]
      cases q : ds[i]? with
      | none => rw [q] at e; cases e
      | some d' =>
        rw [q] at e
        have : d' = d := by injection (Option.some.inj e)
        subst this
        obtain ⟨x, e1, e2⟩ := r.get q
        exact ⟨x, by rw [e1]; rfl, e2⟩
    · rw [List.getElem?_append_right (by rw [List.length_map]; omega), List.getElem?_replicate] at e
      split at e <;> cases e
  cel := fun i a e ha => by rw [start_no e] at ha; cases ha
  obs := fun i fs e => by
    by_cases hi : i < ds.length
    · rw [List.getElem?_append_left (by rw [List.length_map]; exact hi), List.getElem?_map] at e
      cases q : ds[i]? with
      | none => rw [q] at e; cases e
      | some d' => rw [q] at e; cases e
    · rw [List.getElem?_append_right (by rw [List.length_map]; omega), List.getElem?_replicate] at e
      split at e <;> cases e
  apart := fun i _ a _ e _ ha _ _ => by rw [start_no e] at ha; cases ha
theorem fnP {x qual : Str} {st : Stmt} {f : Addr} {fd : FuncData} {N ps : List Str} {k : Nat} {g : En → Option Out} (Fn : Fun K x qual st f fd) (Sc : FnScope N ps (defScope st))
    (hb : ∀ (cdv : Value) (A : Around) (outer : List Env) (s : Shared) (H : Hp) (E : XK) (F : Hp), Room k (A.deeper (envOfC qual (defScope st) s.heap.objs.size f cdv)) →
      Ss (cxOf CX0 P w K mg base N qual (defScope st) f cdv A outer s H E).nox ⟨F, H⟩ (defBody st) g) :
    FnOk P w K mg base CX0 (k + 1) f fd ps (spP K (runF ps.length N.length g)) := by
  have len : ∀ {F : Hp} {ds : List PyData} {vs : List V} {d : PyData}, RelL K F ds vs → runF ps.length N.length g ds = some d → ds.length = ps.length ∧ vs.length = ps.length := fun {F ds vs d} r e => by
    unfold runF at e
    split at e
    · rename_i hl
      exact ⟨hl, by rw [r.length]; exact hl⟩
    · cases e
  refine Fn.ok Sc (fun vs H Q E h => ?_) (fun cdv A outer s H vs Q E hr h => ?_)
  · obtain ⟨F, ds, d, _, r, e, _⟩ := h
    exact (len r e).2
  · obtain ⟨F, ds, d, sm, r, e, q⟩ := h
    obtain ⟨l1, l2⟩ := len r e
    refine ⟨_, hb cdv A outer s H E F hr, ?_⟩
    unfold runF at e
    rw [if_pos l1] at e
    obtain ⟨o, e1, e2⟩ := bind_some e
    refine ⟨F, _, o, ⟨.refl sm, ?_⟩, e1, ?_⟩
    · have z := EnR.start (K := K) (H := H) (N := N) r
      rw [l1] at z
      exact z
    · cases o with
      | rt d' =>
        cases e2
        exact fun v F' H' g rv => q v F' H' g rv
      | nx η' =>
        cases e2
        exact fun σ' F' H' sr _ => q .non F' H' sr.gr rel_non
      | bk η' => cases e2
      | ct η' => cases e2
theorem fn0 {f : Addr} {fd : FuncData} {ps : List Str} {k : Nat} : FnOk P w K mg base CX0 k f fd ps (spP K (fun _ => none)) :=
  ⟨fun vs H Q E h => (by obtain ⟨_, _, _, _, _, e, _⟩ := h; cases e), fun A outer s H args us vs Q E _ _ _ _ h => (by obtain ⟨_, _, _, _, _, e, _⟩ := h; cases e)⟩
end
section
variable {X : Cx}
mutual
theorem Rel.reads {pins : List (Addr × Obj)} {σ : St} {F H : Hp} {s : Shared} (I : Inv X pins σ H s) (sm : Same F H) : ∀ {d : PyData} {v : V} {u : Value}, PyData.canLay0 d = true → Rel X.K F d v → RelV v u → ∃ as, Reads s.heap u d as
  | .none, v, u, _, h, r => by
    rw [h.non] at r; cases r
    exact ⟨_, .none⟩
  | .bool b, v, u, _, h, r => by
    rw [h.bl] at r; cases r
    exact ⟨_, .bool b⟩
  | .int i, v, u, _, h, r => by
    rw [h.int] at r; obtain ⟨t, rfl⟩ := r
    exact ⟨_, .int i t⟩
  | .str x, v, u, _, h, r => by
    rw [h.str] at r; obtain ⟨t, rfl⟩ := r
    exact ⟨_, .str x t⟩
  | .tuple ds, v, u, c, h, r => by
    unfold PyData.canLay0 at c
    obtain ⟨a, xs, rfl, hq, rs⟩ := h.tup
    cases r
    obtain ⟨its, rv, ⟨o, ho, hc, n, hd⟩, _⟩ := I.tuple (same_seqT sm hq)
    obtain ⟨as, h'⟩ := RelL.reads I sm c rs rv
    exact ⟨as, .tuple ho hc hd (by simpa using h')⟩
  | .list ds, v, u, c, h, r => by
    unfold PyData.canLay0 at c
    obtain ⟨a, xs, rfl, hq, rs⟩ := h.lst
    cases r
    obtain ⟨its, rv, p, _⟩ := I.list (sm.seq hq)
    obtain ⟨o, ho, hc, n, hd⟩ := p.isList
    obtain ⟨as, h'⟩ := RelL.reads I sm c rs rv
    exact ⟨a :: as, .list ho hc hd (by simpa using h')⟩
  | .dict _, v, u, c, h, r => by unfold PyData.canLay0 at c; cases c
theorem RelL.reads {pins : List (Addr × Obj)} {σ : St} {F H : Hp} {s : Shared} (I : Inv X pins σ H s) (sm : Same F H) : ∀ {ds : List PyData} {vs : List V} {us : List Value}, PyData.canLayAll0 ds = true → RelL X.K F ds vs → Vals vs us → ∃ as, ReadsAll s.heap us ds as
  | [], vs, us, _, h, r => by
    rw [h.nil_of] at r; cases r
    exact ⟨_, .nil⟩
  | d :: ds, vs, us, c, h, r => by
    unfold PyData.canLayAll0 at c
    obtain ⟨c1, c2⟩ := Bool.and_eq_true_iff.mp c
    obtain ⟨x, xs, rfl, h1, h2⟩ := h.cons_of
    cases r with
    | cons r1 r2 =>
      obtain ⟨as, e1⟩ := Rel.reads I sm c1 h1 r1
      obtain ⟨bs, e2⟩ := RelL.reads I sm c2 h2 r2
      exact ⟨as ++ bs, .cons e1 e2⟩
end
noncomputable def rEqD (K : PySem.W.Frag) (neg : Bool) : R2 := fun x y H Q => ∃ F dx dy, Same F H ∧ Rel K F dx x ∧ Rel K F dy y ∧ SeqAt.shaped dx = true ∧ SeqAt.shaped dy = true ∧ Q (.bl (if neg then !PyData.eqv dx dy else PyData.eqv dx dy)) H
theorem op_eqD (hu : X.A.units + 64 < cLine) : OpR X (compareOp .Eq) (rEqD X.K false) := by
  intro pins s σ H x y v u Q I rx ry h
  obtain ⟨F, dx, dy, sm, h1, h2, s1, s2, q⟩ := h
  obtain ⟨as, ra⟩ := Rel.reads I sm (SeqAt.canLay_of_shaped s1) h1 rx
  obtain ⟨bs, rb⟩ := Rel.reads I sm (SeqAt.canLay_of_shaped s2) h2 ry
  exact SeqAt.compareEq_shaped ra rb s1 s2 hu ⟨.bl _, H, I, rfl, q⟩
theorem op_neD (hu : X.A.units + 64 < cLine) : OpR X (compareOp .NotEq) (rEqD X.K true) := by
  intro pins s σ H x y v u Q I rx ry h
  obtain ⟨F, dx, dy, sm, h1, h2, s1, s2, q⟩ := h
  obtain ⟨as, ra⟩ := Rel.reads I sm (SeqAt.canLay_of_shaped s1) h1 rx
  obtain ⟨bs, rb⟩ := Rel.reads I sm (SeqAt.canLay_of_shaped s2) h2 ry
  exact SeqAt.compareNe_shaped ra rb s1 s2 hu ⟨.bl _, H, I, rfl, q⟩
noncomputable def pEq (x y : PyData) : Option PyData := if SeqAt.shaped x = true ∧ SeqAt.shaped y = true then some (.bool (PyData.eqv x y)) else none
noncomputable def pNe (x y : PyData) : Option PyData := if SeqAt.shaped x = true ∧ SeqAt.shaped y = true then some (.bool (!PyData.eqv x y)) else none
theorem ad_eq {K : PySem.W.Frag} : Ad2 K (rEqD K false) pEq := fun F H x y dx dy d Q sm rx ry e q => by
  unfold pEq at e
  split at e
  · rename_i hs
    cases e
    exact ⟨F, dx, dy, sm, rx, ry, hs.1, hs.2, q _ F H (.refl sm) rel_bl⟩
  · cases e
theorem ad_ne {K : PySem.W.Frag} : Ad2 K (rEqD K true) pNe := fun F H x y dx dy d Q sm rx ry e q => by
  unfold pNe at e
  split at e
  · rename_i hs
    cases e
    exact ⟨F, dx, dy, sm, rx, ry, hs.1, hs.2, q _ F H (.refl sm) rel_bl⟩
  · cases e
noncomputable def pI (C : Int → Int → Prop) [∀ i j, Decidable (C i j)] (g : Int → Int → PyData) (x y : PyData) : Option PyData := match x, y with
  | .int i, .int j => if C i j then some (g i j) else none
  | _, _ => none
instance : ∀ i j, Decidable (CMul i j) := fun i j => by unfold CMul; infer_instance
instance : ∀ i j, Decidable (CDiv i j) := fun i j => by unfold CDiv; infer_instance
theorem ad_I {K : PySem.W.Frag} {C : Int → Int → Prop} [∀ i j, Decidable (C i j)] {g : Int → Int → PyData} {gv : Int → Int → V} (hg : ∀ F i j, Rel K F (g i j) (gv i j)) : Ad2 K (rI C gv) (pI C g) := fun F H x y dx dy d Q sm rx ry e q => by
  cases dx <;> cases dy <;> simp only [pI, reduceCtorEq] at e
  split at e
  · rename_i hc
    cases e
    exact ⟨_, _, rx.int, ry.int, hc, q _ F H (.refl sm) (hg F _ _)⟩
  · cases e
theorem ad_I0 {K : PySem.W.Frag} {g : Int → Int → PyData} {gv : Int → Int → V} (hg : ∀ F i j, Rel K F (g i j) (gv i j)) : Ad2 K (rI0 gv) (pI (fun _ _ => True) g) := fun F H x y dx dy d Q sm rx ry e q => by
  cases dx <;> cases dy <;> simp only [pI, reduceCtorEq, if_true] at e
  cases e
  exact ⟨_, _, rx.int, ry.int, q _ F H (.refl sm) (hg F _ _)⟩
noncomputable def pSub := pI (fun _ _ => True) fun i j => .int (i - j)
noncomputable def pMul := pI CMul fun i j => .int (i * j)
noncomputable def pFdiv := pI CDiv fun i j => .int (i / j)
noncomputable def pMod := pI (fun _ j => 0 < j) fun i j => .int (i % j)
noncomputable def pLt := pI (fun _ _ => True) fun i j => .bool (decide (i < j))
noncomputable def pLe := pI (fun _ _ => True) fun i j => .bool (decide (i ≤ j))
noncomputable def pGt := pI (fun _ _ => True) fun i j => .bool (decide (j < i))
noncomputable def pGe := pI (fun _ _ => True) fun i j => .bool (decide (j ≤ i))
section
variable {B : Bd} {a b : Expr} {f g : En → Option PyData} {pos : Pos}
theorem E.sub (ha : E X B a f) (hb : E X B b g) : E X B (.BinOp a .Sub b pos) (l2 pSub f g) := E.op op_sub (ad_I0 fun _ _ _ => rel_int) ha hb
theorem E.mul (ha : E X B a f) (hb : E X B b g) : E X B (.BinOp a .Mult b pos) (l2 pMul f g) := E.op op_mul (ad_I fun _ _ _ => rel_int) ha hb
theorem E.fdiv (ha : E X B a f) (hb : E X B b g) : E X B (.BinOp a .FloorDiv b pos) (l2 pFdiv f g) := E.op op_fdiv (ad_I fun _ _ _ => rel_int) ha hb
theorem E.mod (ha : E X B a f) (hb : E X B b g) : E X B (.BinOp a .Mod b pos) (l2 pMod f g) := E.op op_mod (ad_I fun _ _ _ => rel_int) ha hb
theorem E.eq {k : Nat} (hr : Room k X.A) (ha : E X B a f) (hb : E X B b g) : E X B (.Compare a [.Eq] [b] pos) (l2 pEq f g) := E.cmp (op_eqD hr.units) ad_eq (nomark b) ha hb
theorem T.eq {k : Nat} (hr : Room k X.A) (ha : E X B a f) (hb : E X B b g) : T X B (.Compare a [.Eq] [b] pos) (bT (l2 pEq f g)) := T.cmp (op_eqD hr.units) ad_eq (nomark b) ha hb
theorem T.ne {k : Nat} (hr : Room k X.A) (ha : E X B a f) (hb : E X B b g) : T X B (.Compare a [.NotEq] [b] pos) (bT (l2 pNe f g)) := T.cmp (op_neD hr.units) ad_ne (nomark b) ha hb
theorem T.lt (ha : E X B a f) (hb : E X B b g) : T X B (.Compare a [.Lt] [b] pos) (bT (l2 pLt f g)) := T.cmp op_lt (ad_I0 fun _ _ _ => rel_bl) (nomark b) ha hb
theorem T.ge (ha : E X B a f) (hb : E X B b g) : T X B (.Compare a [.GtE] [b] pos) (bT (l2 pGe f g)) := T.cmp op_ge (ad_I0 fun _ _ _ => rel_bl) (nomark b) ha hb
end
noncomputable def rCatS (K : PySem.W.Frag) : R2 := fun x y H Q => ∃ l b xs zs, x = .ref l ∧ y = .ref b ∧ SqL K H l xs ∧ SqL K H b zs ∧ xs.length + zs.length ≤ sizeLine ∧ ∀ p, H p = none → Q (.ref p) (upd H p (.lst (xs ++ zs)))
theorem op_catS : OpR X (binaryOp .Add) (rCatS X.K) := by
  intro pins s σ H x y v u Q I rx ry h
  obtain ⟨l, b, xs, zs, rfl, rfl, hH, hB, hz, q⟩ := h
  cases rx
  cases ry
  obtain ⟨its, r, ⟨⟨c1, d1, t1, sl1⟩, n, e, ec, ed, es⟩, z⟩ := I.list hH
  obtain ⟨its2, r2, ⟨⟨c2, d2, t2, sl2⟩, n2, e2, ec2, ed2, es2⟩, z2⟩ := I.list hB
  have hl := r.length
  have hl2 := r2.length
  simp only at ec ed es ec2 ed2 es2
  subst ec ed es ec2 ed2 es2
  have ea : its.toArray ++ its2.toArray = (its ++ its2).toArray := by simp
  refine concat_meets ⟨_, e, rfl⟩ ⟨_, e2, rfl⟩ PySem.noFill_list_add PySem.seq_list_add PySem.F.slot_list_add PySem.F.entry_list_add (PySem.F.args_list_add_2 _ _)
      (list_addW l b its.toArray its2.toArray n n2 none none sl1 sl2 (by rw [List.size_toArray, List.size_toArray]; omega)) ⟨e, e2, ?_⟩
  rw [ea]
  exact ⟨.ref _, _, I.lnew (t' := s.toks) (r.append r2) (by rw [List.length_append]; omega), rfl, q _ I.fresh⟩
noncomputable def rCatTT (K : PySem.W.Frag) : R2 := fun x y H Q => ∃ a b xs ys, x = .ref a ∧ y = .ref b ∧ SqT K H a xs ∧ SqT K H b ys ∧ xs.length + ys.length ≤ sizeLine ∧
  (xs = [] → Q (.ref b) H) ∧ (xs ≠ [] → ys = [] → Q (.ref a) H) ∧ (∀ p, H p = none → Q (.ref p) (upd H p (.tup (xs ++ ys))))
theorem op_catTT : OpR X (binaryOp .Add) (rCatTT X.K) := by
  intro pins s σ H x y v u Q I rx ry h
  obtain ⟨a, b, xs, ys, rfl, rfl, ha, hb, hz, q0, q1, q2⟩ := h
  cases rx
  cases ry
  obtain ⟨its, r1, p1, _⟩ := I.tuple ha
  obtain ⟨its2, r2, p2, _⟩ := I.tuple hb
  by_cases hx : xs = []
  · have hi : its = [] := r1.nil_iff.mpr hx
    obtain ⟨⟨cls, dd, data, sl⟩, ho, hc, n, hd⟩ := id p1
    obtain ⟨⟨cls2, dd2, data2, sl2⟩, ho2, hc2, n2, hd2⟩ := id p2
    simp only at hc hd hc2 hd2
    subst hc hd hc2 hd2
    exact concat_meets ⟨_, ho, rfl⟩ ⟨_, ho2, rfl⟩ noFill_tuple_add seq_tuple_add PySem.F.slot_tuple_add PySem.F.entry_tuple_add (PySem.F.args_tuple_add_2 _ _)
      (tuple_addW0 a b its.toArray its2.toArray n n2 dd dd2 sl sl2 (by simp [hi])) ⟨ho, ho2, ⟨.ref b, H, I, rfl, q0 hx⟩⟩
  · refine HT.cat_tup p1 p2 (fun z => hx (r1.nil_iff.mp z)) (fun z => ⟨.ref a, H, I, rfl, q1 hx (r2.nil_iff.mp z)⟩) (fun z => ?_) (by rw [← r1.length, ← r2.length]; exact hz)
    refine ⟨.ref s.heap.objs.size, _, I.laid (t' := s.toks) (o := .tup (xs ++ ys)) (fun b ob q => Heap.get?_push_of_some _ q) (Nat.le_refl _) ?_, rfl, q2 _ (I.hok.fresh (Nat.le_refl _))⟩
    exact ⟨by rw [List.length_append]; exact hz, _, r1.append r2, IsTup.new _ _⟩
noncomputable def pAdd (x y : PyData) : Option PyData := match x, y with
  | .int i, .int j => some (.int (i + j))
  | .str i, .str j => if i.length + j.length ≤ sizeLine then some (.str (i ++ j)) else none
  | .list i, .list j => if i.length + j.length ≤ sizeLine then some (.list (i ++ j)) else none
  | .tuple i, .tuple j => if i.length + j.length ≤ sizeLine then some (.tuple (i ++ j)) else none
  | _, _ => none
theorem op_addA : OpR X (binaryOp .Add) (fun x y H Q => (∃ i j, x = .int i ∧ y = .int j ∧ Q (.int (i + j)) H) ∨ (∃ i j, x = .str i ∧ y = .str j ∧ i.length + j.length ≤ sizeLine ∧ Q (.str (i ++ j)) H) ∨ rCatS X.K x y H Q ∨ rCatTT X.K x y H Q) :=
  op_add.or (op_add_str.or (op_catS.or op_catTT))
theorem ad_add {K : PySem.W.Frag} : Ad2 K (fun x y H Q => (∃ i j, x = .int i ∧ y = .int j ∧ Q (.int (i + j)) H) ∨ (∃ i j, x = .str i ∧ y = .str j ∧ i.length + j.length ≤ sizeLine ∧ Q (.str (i ++ j)) H) ∨ rCatS K x y H Q ∨ rCatTT K x y H Q) pAdd := fun F H x y dx dy d Q sm rx ry e q => by
  unfold pAdd at e
  split at e
  · cases e
    exact .inl ⟨_, _, rx.int, ry.int, q _ F H (.refl sm) rel_int⟩
  · split at e
    · rename_i hz
      cases e
      exact .inr (.inl ⟨_, _, rx.str, ry.str, hz, q _ F H (.refl sm) rel_str⟩)
    · cases e
  · split at e
    · rename_i hz
      cases e
      obtain ⟨a, xs, rfl, h1, r1⟩ := rx.lst
      obtain ⟨b, ys, rfl, h2, r2⟩ := ry.lst
      refine .inr (.inr (.inl ⟨a, b, xs, ys, rfl, rfl, sm.seq h1, sm.seq h2, by rw [r1.length, r2.length]; exact hz, fun p hp => ?_⟩))
      have g := Gr.one (o := .lst (xs ++ ys)) sm hp
      exact q _ _ _ g (rel_lst (SqL.of upd_same) ((r1.append r2).mono g.ff))
    · cases e
  · rename_i i j
    split at e
    · rename_i hz
      cases e
      obtain ⟨a, xs, rfl, h1, r1⟩ := rx.tup
      obtain ⟨b, ys, rfl, h2, r2⟩ := ry.tup
      refine .inr (.inr (.inr ⟨a, b, xs, ys, rfl, rfl, same_seqT sm h1, same_seqT sm h2, by rw [r1.length, r2.length]; exact hz, fun z => ?_, fun z1 z2 => ?_, fun p hp => ?_⟩))
      · subst z
        have := List.eq_nil_of_length_eq_zero r1.length.symm
        subst this
        exact q _ F H (.refl sm) (rel_tup h2 (by simpa using r2))
      · subst z2
        have := List.eq_nil_of_length_eq_zero r2.length.symm
        subst this
        exact q _ F H (.refl sm) (rel_tup h1 (by simpa using r1))
      · have g := Gr.one (o := .tup (xs ++ ys)) sm hp
        exact q _ _ _ g (rel_tup (SqT.of upd_same) ((r1.append r2).mono g.ff))
    · cases e
  · cases e
section
variable {B : Bd} {a b e : Expr} {es : List Expr} {f g : En → Option PyData} {fs : En → Option (List PyData)} {pos pp : Pos}
theorem E.add (ha : E X B a f) (hb : E X B b g) : E X B (.BinOp a .Add b pos) (l2 pAdd f g) := E.op op_addA ad_add ha hb
noncomputable def pNeg : PyData → Option PyData
  | .int i => some (.int (-i))
  | _ => none
theorem E.neg (ha : E X B a f) : E X B (.UnaryOp .USub a pos) (l1 pNeg f) := PE.imp (pe_un un_neg ha) fun σ H Q ⟨F, η, d, sr, hd, q⟩ => by
  obtain ⟨x, hx, hd⟩ := bind_some hd
  cases x <;> simp only [pNeg, reduceCtorEq, Option.some.injEq] at hd
  subst hd
  exact ⟨F, η, _, sr, hx, fun v F1 H1 g1 rv => ⟨_, rv.int, q _ F1 H1 g1 rel_int⟩⟩
noncomputable def pIx (x y : PyData) : Option PyData := match x, y with
  | .list ds, .int i => atI ds i
  | .tuple ds, .int i => atI ds i
  | .str z, .int i => if z.length ≤ sizeLine then (atI z.cps.toList i).bind fun c => some (.str ⟨#[c]⟩) else none
  | _, _ => none
theorem atI_rel {K : PySem.W.Frag} {F : Hp} {ds : List PyData} {xs : List V} {i : Int} {d : PyData} (r : RelL K F ds xs) (e : atI ds i = some d) : ∃ x, atI xs i = some x ∧ Rel K F d x := by
  unfold atI at e ⊢
  rw [r.length]
  obtain ⟨j, h1, h2⟩ := bind_some e
  rw [h1]
  obtain ⟨x, h3, h4⟩ := r.get h2
  exact ⟨x, h3, h4⟩
theorem ad_ix {K : PySem.W.Frag} : Ad2 K (rIx K) pIx := fun F H x y dx dy d Q sm rx ry e q => by
  unfold pIx at e
  split at e
  · obtain ⟨a, xs, rfl, h1, r1⟩ := rx.lst
    obtain ⟨v, h2, h3⟩ := atI_rel r1 e
    exact .inl ⟨a, xs, _, v, rfl, ry.int, sm.seq h1, h2, q _ F H (.refl sm) h3⟩
  · obtain ⟨a, xs, rfl, h1, r1⟩ := rx.tup
    obtain ⟨v, h2, h3⟩ := atI_rel r1 e
    exact .inr (.inl ⟨a, xs, _, v, rfl, ry.int, same_seqT sm h1, h2, q _ F H (.refl sm) h3⟩)
  · split at e
    · rename_i hz
      obtain ⟨c, h1, h2⟩ := bind_some e
      cases h2
      exact .inr (.inr ⟨_, _, c, rx.str, ry.int, hz, h1, q _ F H (.refl sm) rel_str⟩)
    · cases e
  · cases e
theorem E.at (ha : E X B a f) (hb : E X B b g) (hs : PlainIx b := by intro _ _; rfl) : E X B (.Subscript a b pos) (l2 pIx f g) := E.ix ix_seq ad_ix ha hb hs
noncomputable def flatD : PyData → Bool
  | .none => true
  | .bool _ => true
  | .int _ => true
  | .str _ => true
  | _ => false
theorem flat_of {K : PySem.W.Frag} {F : Hp} {d : PyData} {v : V} (h : flatD d = true) (r : Rel K F d v) : flatV v = true := by
  cases d <;> simp [flatD] at h
  · rw [r.non]; rfl
  · rw [r.bl]; rfl
  · rw [r.int]; rfl
  · rw [r.str]; rfl
theorem flats_of {K : PySem.W.Frag} {F : Hp} : ∀ {ds : List PyData} {vs : List V}, ds.all flatD = true → RelL K F ds vs → vs.all flatV = true
  | [], vs, _, r => by rw [r.nil_of]; rfl
  | d :: ds, vs, h, r => by
    obtain ⟨x, xs, rfl, r1, r2⟩ := r.cons_of
    rw [List.all_cons, Bool.and_eq_true] at h ⊢
    exact ⟨flat_of h.1 r1, flats_of h.2 r2⟩
theorem eqV_of {K : PySem.W.Frag} {F : Hp} {d e : PyData} {x y : V} (hd : flatD d = true) (he : flatD e = true) (r : Rel K F d x) (s : Rel K F e y) : eqV x y = PyData.eqv d e := by
  cases d <;> simp [flatD] at hd <;> cases e <;> simp [flatD] at he
  all_goals (first | rw [r.non] | rw [r.bl] | rw [r.int] | rw [r.str]) <;> (first | rw [s.non] | rw [s.bl] | rw [s.int] | rw [s.str])
  all_goals first | rfl | simp [eqV, PyData.eqv]
theorem inV_of {K : PySem.W.Frag} {F : Hp} {d : PyData} {x : V} (hd : flatD d = true) (r : Rel K F d x) : ∀ {ds : List PyData} {vs : List V}, ds.all flatD = true → RelL K F ds vs → inV x vs = ds.any fun y => PyData.eqv y d
  | [], vs, _, rs => by rw [rs.nil_of]; rfl
  | e :: ds, vs, h, rs => by
    obtain ⟨y, xs, rfl, r1, r2⟩ := rs.cons_of
    rw [List.all_cons, Bool.and_eq_true] at h
    have ih := inV_of hd r h.2 r2
    unfold inV at ih ⊢
    rw [List.any_cons, List.any_cons, ih, eqV_of h.1 hd r1 r]
noncomputable def pIn (neg : Bool) (x y : PyData) : Option PyData := match y with
  | .list ds => if flatD x = true ∧ ds.all flatD = true then some (.bool (if neg then !(ds.any fun y => PyData.eqv y x) else ds.any fun y => PyData.eqv y x)) else none
  | .tuple ds => if flatD x = true ∧ ds.all flatD = true then some (.bool (if neg then !(ds.any fun y => PyData.eqv y x) else ds.any fun y => PyData.eqv y x)) else none
  | .str j => match x with
    | .str i => some (.bool (if neg then !(!(Builtin.Str.occurrences j i 0 j.length 1).isEmpty) else !(Builtin.Str.occurrences j i 0 j.length 1).isEmpty))
    | _ => none
  | _ => none
noncomputable def rInA (K : PySem.W.Frag) (neg : Bool) : R2 := fun x y H Q => rIn K neg x y H Q ∨ (∃ i j, x = .str i ∧ y = .str j ∧ Q (.bl (if neg then !(!(Builtin.Str.occurrences j i 0 j.length 1).isEmpty) else !(Builtin.Str.occurrences j i 0 j.length 1).isEmpty)) H)
theorem op_inA : OpR X (compareOp .In) (rInA X.K false) := op_in_seq.or op_in_str
theorem op_notInA : OpR X (compareOp .NotIn) (rInA X.K true) := op_notIn_seq.or op_notIn_str
theorem ad_in {K : PySem.W.Frag} {neg : Bool} : Ad2 K (rInA K neg) (pIn neg) := fun F H x y dx dy d Q sm rx ry e q => by
  unfold pIn at e
  split at e
  · split at e
    · rename_i hf
      cases e
      obtain ⟨b, ys, rfl, h2, r2⟩ := ry.lst
      refine .inl ⟨b, ys, rfl, .inl (sm.seq h2), flat_of hf.1 rx, flats_of hf.2 r2, ?_⟩
      rw [inV_of hf.1 rx hf.2 r2]
      exact q _ F H (.refl sm) rel_bl
    · cases e
  · split at e
    · rename_i hf
      cases e
      obtain ⟨b, ys, rfl, h2, r2⟩ := ry.tup
      refine .inl ⟨b, ys, rfl, .inr (same_seqT sm h2), flat_of hf.1 rx, flats_of hf.2 r2, ?_⟩
      rw [inV_of hf.1 rx hf.2 r2]
      exact q _ F H (.refl sm) rel_bl
    · cases e
  · split at e
    · cases e
      exact .inr ⟨_, _, rx.str, ry.str, q _ F H (.refl sm) rel_bl⟩
    · cases e
  · cases e
theorem T.in (ha : E X B a f) (hb : E X B b g) (hm : behindInMarks .In b = false := by with_unfolding_all rfl) : T X B (.Compare a [.In] [b] pos) (bT (l2 (pIn false) f g)) := T.cmp op_inA ad_in hm ha hb
theorem T.notIn (ha : E X B a f) (hb : E X B b g) (hm : behindInMarks .NotIn b = false := by with_unfolding_all rfl) : T X B (.Compare a [.NotIn] [b] pos) (bT (l2 (pIn true) f g)) := T.cmp op_notInA ad_in hm ha hb
noncomputable def AdA (K : PySem.W.Frag) (r : List V → Hp → VK → Prop) (o : List PyData → Option PyData) : Prop :=
  ∀ F H xs ds d Q, Same F H → RelL K F ds xs → o ds = some d → (∀ v F' H', Gr F H F' H' → Rel K F' d v → Q v H') → r xs H Q
theorem tCB_of {K : PySem.W.Frag} {r : List V → Hp → VK → Prop} {o : List PyData → Option PyData} (ad : AdA K r o) : ∀ σ H Q, tE K B (lA o fs) σ H Q → tCB r (tA K B fs) σ H Q := fun σ H Q ⟨F, η, d, sr, hd, q⟩ => by
  obtain ⟨ds, hx, hd⟩ := bind_some hd
  exact ⟨F, η, ds, sr, hx, fun vs F1 H1 g1 rs => ad F1 H1 vs ds d Q g1.fh rs hd fun v F2 H2 g2 rv => q v F2 H2 (g1.trans g2) rv⟩
theorem E.callB {x : Str} {id : String} {r : List V → Hp → VK → Prop} {o : List PyData → Option PyData} (hc : CallR X (.builtin id) r) (ad : AdA X.K r o) (hm : X.mg x = none) (hv : bootBuiltins x = some (.builtin id)) (ha : A X B (e :: es) fs) (hg : Gl X x := by rfl) (hn : x ≠ "__name__" := by decide) (hdb : (x == ("__debug__" : Str)) = false := by decide)
    (he : starEach (e :: es) X.env = (false, eval e X.env) :: starEach es X.env := by exact star_of rfl) (hpl : (backTo pos (starEach es X.env)).any (·.1) = false := by exact plain_of rfl) : E X B (.Call (.Name x pp) (e :: es) [] pos) (lA o fs) :=
  PE.imp (pe_callB hc hg hm hv ha hn hdb he hpl) (tCB_of ad)
theorem E.callTy {x : Str} {id : String} {r : List V → Hp → VK → Prop} {o : List PyData → Option PyData} (hc : CallR X (.type id) r) (ad : AdA X.K r o) (hm : X.mg x = none) (hv : bootBuiltins x = some (.type id)) (ha : A X B (e :: es) fs) (hg : Gl X x := by rfl) (hn : x ≠ "__name__" := by decide) (hdb : (x == ("__debug__" : Str)) = false := by decide)
    (he : starEach (e :: es) X.env = (false, eval e X.env) :: starEach es X.env := by exact star_of rfl) (hpl : (backTo pos (starEach es X.env)).any (·.1) = false := by exact plain_of rfl) : E X B (.Call (.Name x pp) (e :: es) [] pos) (lA o fs) :=
  PE.imp (pe_callTy hc hg hm hv ha hn hdb he hpl) (tCB_of ad)
noncomputable def pLen (ds : List PyData) : Option PyData := match ds with
  | [.list xs] => some (.int xs.length)
  | [.tuple xs] => some (.int xs.length)
  | [.str z] => if z.length ≤ sizeLine then some (.int z.length) else none
  | _ => none
theorem ad_len {K : PySem.W.Frag} : AdA K (fun xs H Q => (∃ p ys, xs = [.ref p] ∧ (SqL K H p ys ∨ SqT K H p ys) ∧ Q (.int ys.length) H) ∨ (∃ z, xs = [.str z] ∧ z.length ≤ sizeLine ∧ Q (.int z.length) H)) pLen := fun F H xs ds d Q sm rs e q => by
  unfold pLen at e
  split at e
  · cases e
    obtain ⟨x, r, rfl, rx, rr⟩ := rs.cons_of
    obtain rfl := rr.nil_of
    obtain ⟨a, ys, rfl, h1, r1⟩ := rx.lst
    exact .inl ⟨a, ys, rfl, .inl (sm.seq h1), by rw [r1.length]; exact q _ F H (.refl sm) rel_int⟩
  · cases e
    obtain ⟨x, r, rfl, rx, rr⟩ := rs.cons_of
    obtain rfl := rr.nil_of
    obtain ⟨a, ys, rfl, h1, r1⟩ := rx.tup
    exact .inl ⟨a, ys, rfl, .inr (same_seqT sm h1), by rw [r1.length]; exact q _ F H (.refl sm) rel_int⟩
  · split at e
    · rename_i hz
      cases e
      obtain ⟨x, r, rfl, rx, rr⟩ := rs.cons_of
      obtain rfl := rr.nil_of
      exact .inr ⟨_, by rw [rx.str], hz, q _ F H (.refl sm) rel_int⟩
    · cases e
  · cases e
theorem E.len (hm : X.mg "len" = none) (ha : A X B [e] fs) (hg : Gl X "len" := by rfl) (he : starEach [e] X.env = (false, eval e X.env) :: starEach [] X.env := by exact star_of rfl) (hpl : (backTo pos (starEach [] X.env)).any (·.1) = false := by rfl) : E X B (.Call (.Name "len" pp) [e] [] pos) (lA pLen fs) :=
  E.callB (call_len_seq.or call_len_str) ad_len hm PySem.boot_len ha hg (by decide) (by decide) he hpl
noncomputable def pTup (ds : List PyData) : Option PyData := match ds with
  | [.list xs] => some (.tuple xs)
  | [.tuple xs] => some (.tuple xs)
  | _ => none
theorem ad_tup {K : PySem.W.Frag} : AdA K (fun xs H Q => ∃ p ys, xs = [.ref p] ∧ ((SqL K H p ys ∧ ∀ l, H l = none → Q (.ref l) (upd H l (.tup ys))) ∨ (SqT K H p ys ∧ Q (.ref p) H))) pTup := fun F H xs ds d Q sm rs e q => by
  unfold pTup at e
  split at e
  · cases e
    obtain ⟨x, r, rfl, rx, rr⟩ := rs.cons_of
    obtain rfl := rr.nil_of
    obtain ⟨a, ys, rfl, h1, r1⟩ := rx.lst
    refine ⟨a, ys, rfl, .inl ⟨sm.seq h1, fun p hp => ?_⟩⟩
    have g := Gr.one (o := .tup ys) sm hp
    exact q _ _ _ g (rel_tup (SqT.of upd_same) (r1.mono g.ff))
  · cases e
    obtain ⟨x, r, rfl, rx, rr⟩ := rs.cons_of
    obtain rfl := rr.nil_of
    obtain ⟨a, ys, rfl, h1, r1⟩ := rx.tup
    exact ⟨a, ys, rfl, .inr ⟨same_seqT sm h1, q _ F H (.refl sm) (rel_tup h1 r1)⟩⟩
  · cases e
theorem E.tuple (hm : X.mg "tuple" = none) (ha : A X B [e] fs) (hg : Gl X "tuple" := by rfl) (he : starEach [e] X.env = (false, eval e X.env) :: starEach [] X.env := by exact star_of rfl) (hpl : (backTo pos (starEach [] X.env)).any (·.1) = false := by rfl) : E X B (.Call (.Name "tuple" pp) [e] [] pos) (lA pTup fs) :=
  E.callTy call_tuple_of ad_tup hm (by decide +kernel) ha hg (by decide) (by decide) he hpl
end
end
noncomputable def cutL {α : Type} (xs : List α) (lo hi : Option Int) : List α := (xs.drop (HT.sIx xs.length 0 lo)).take (HT.sIx xs.length xs.length hi - HT.sIx xs.length 0 lo)
section
variable {X : Cx}
theorem RelL.cut {K : PySem.W.Frag} {F : Hp} {ds : List PyData} {xs : List V} (r : RelL K F ds xs) (lo hi : Option Int) : RelL K F (cutL ds lo hi) (cutV xs lo hi) := by
  unfold cutL cutV
  rw [r.length]
  exact (r.drop _).take _
theorem sl_tupW : SlR X (fun x lo hi H Q => ∃ a xs, x = .ref a ∧ SqT X.K H a xs ∧ (HT.sIx xs.length 0 lo = 0 ∧ HT.sIx xs.length xs.length hi = xs.length) ∧ Q (.ref a) H) := by
  intro pins s σ H x v vl vu lo hi sl Q I rx hs pl pu h
  obtain ⟨a, xs, rfl, hx, hw, q⟩ := h
  cases rx
  obtain ⟨its, r, ht, hz⟩ := I.tuple hx
  have hlen : its.toArray.size = xs.length := by rw [List.size_toArray]; exact r.length.symm
  refine ⟨"tuple", _, PyProof.Rows.slot_tuple_getitem.lookup, ht.typeIs, ?_⟩
  obtain ⟨os, hos, hcs, hds⟩ := id hs
  have hTs : s.TypeIs (.ref sl) "slice" := ⟨os, hos, hcs⟩
  unfold getItem
  try with_reducible refine wpAny_holding ?_
  first | refine wpAny_bind (wpAny_pure ?_) | skip
  refine wpAny_bind (wpAny_sequenceKey ht.typeIs (by decide) ?_)
  refine wpAny_bind (wpAny_callSpecial?_slot (name := Str.ofString "__getitem__") ht.typeIs PyProof.Rows.slot_tuple_getitem
    (wpAny_call_entry PyProof.Rows.slot_tuple_getitem ht.typeIs entry_tuple_getitem ?_ (args_tuple_getitem _ _)))
  show wpAny _ _ (Builtin.Tuple.tupleItemsOf (.ref a) >>= _) _ _ s
  refine wpAny_bind (tupleItemsOf_ ht ?_)
  refine wpAny_bind (wpAny_typeOf hTs ?_)
  rw [if_pos (by decide)]
  refine wpAny_bind (HT.sliceApplied_gen hs pl pu ?_)
  rw [hlen]
  have hyes : ((((HT.sIx xs.length 0 lo : Nat) : Int) == 0 && (1 : Int) == 1 && (HT.sIx xs.length xs.length hi - HT.sIx xs.length 0 lo) == xs.length) = true) := by
    rw [hw.1, hw.2]; simp
  show wpAny _ _ (if (((HT.sIx xs.length 0 lo : Nat) : Int) == 0 && (1 : Int) == 1 && (HT.sIx xs.length xs.length hi - HT.sIx xs.length 0 lo) == xs.length) = true then _ else _) _ _ s
  rw [if_pos hyes]
  have fin : EP X pins σ Q (.ref a) s := ⟨.ref a, H, I, rfl, q⟩
  refine wpAny_bind ?_
  unfold Builtin.Tuple.tupleIsExact
  refine wpAny_bind (wpAny_typeOf ht.typeIs (wpAny_pure ?_))
  rw [if_pos (by decide)]
  exact wpAny_bind (wpAny_rule (wpAny_pure ⟨_, rfl, wpAny_pure fin⟩))
noncomputable def pSl (x : PyData) (lo hi : Option Int) : Option PyData := match x with
  | .list ds => some (.list (cutL ds lo hi))
  | .tuple ds => some (.tuple (cutL ds lo hi))
  | _ => none
noncomputable def rSlA (K : PySem.W.Frag) : V → Option Int → Option Int → Hp → VK → Prop := fun x lo hi H Q => rSlL K x lo hi H Q ∨ rSlT K x lo hi H Q ∨ (∃ a xs, x = .ref a ∧ SqT K H a xs ∧ (HT.sIx xs.length 0 lo = 0 ∧ HT.sIx xs.length xs.length hi = xs.length) ∧ Q (.ref a) H)
theorem sl_A : SlR X (rSlA X.K) := sl_list.or (sl_tup.or sl_tupW)
theorem ad_sl {K : PySem.W.Frag} {F H : Hp} {x : V} {dx d : PyData} {lo hi : Option Int} {Q : VK} (sm : Same F H) (rx : Rel K F dx x) (e : pSl dx lo hi = some d) (q : ∀ v F' H', Gr F H F' H' → Rel K F' d v → Q v H') : rSlA K x lo hi H Q := by
  unfold pSl at e
  split at e
  · cases e
    obtain ⟨a, xs, rfl, h1, r1⟩ := rx.lst
    refine .inl ⟨a, xs, rfl, sm.seq h1, fun p hp => ?_⟩
    have g := Gr.one (o := .lst (cutV xs lo hi)) sm hp
    exact q _ _ _ g (rel_lst (SqL.of upd_same) ((r1.cut lo hi).mono g.ff))
  · cases e
    obtain ⟨a, xs, rfl, h1, r1⟩ := rx.tup
    by_cases hw : HT.sIx xs.length 0 lo = 0 ∧ HT.sIx xs.length xs.length hi = xs.length
    · refine .inr (.inr ⟨a, xs, rfl, same_seqT sm h1, hw, q _ F H (.refl sm) (rel_tup h1 ?_)⟩)
      have := r1.cut lo hi
      have e2 : cutV xs lo hi = xs := by
        unfold cutV
        rw [hw.1, hw.2]
        simp
      rw [e2] at this
      exact this
    · refine .inr (.inl ⟨a, xs, rfl, same_seqT sm h1, hw, fun p hp => ?_⟩)
      have g := Gr.one (o := .tup (cutV xs lo hi)) sm hp
      exact q _ _ _ g (rel_tup (SqT.of upd_same) ((r1.cut lo hi).mono g.ff))
  · cases e
section
variable {B : Bd} {a b e : Expr} {es : List Expr} {f g : En → Option PyData} {fs : En → Option (List PyData)} {pos pp p2 : Pos} {lo hi : Option Expr} {fl fh : En → Option (Option Int)}
noncomputable def tP (K : PySem.W.Frag) (B : Bd) (f : En → Option (Option Int)) : TO := fun σ H Q => ∃ F η o, SR K B F H σ η ∧ f η = some o ∧ ∀ F' H', Gr F H F' H' → Q o H'
noncomputable def P (X : Cx) (B : Bd) (e : Option Expr) (f : En → Option (Option Int)) : Prop := PO X e (tP X.K B f)
noncomputable def pN : En → Option (Option Int) := fun _ => some none
noncomputable def asI : PyData → Option Int
  | .int i => some i
  | _ => none
theorem asI_some {d : PyData} {i : Int} (h : asI d = some i) : d = .int i := by
  cases d <;> simp [asI] at h
  rw [h]
noncomputable def pS (f : En → Option PyData) : En → Option (Option Int) := fun η => (f η).bind fun d => (asI d).bind fun i => some (some i)
theorem PO.imp {X : Cx} {e : Option Expr} {t t' : TO} (h : PO X e t) (i : ∀ σ H Q, t' σ H Q → t σ H Q) : PO X e t' := fun pins s σ H Q I q => h pins s σ H Q I (i σ H Q q)
theorem P.none : P X B none pN := PO.imp po_none fun σ H Q ⟨F, η, d, sr, hd, q⟩ => by
  cases hd
  exact q F H (.refl sr.same)
theorem P.some (h : E X B e f) : P X B (some e) (pS f) := PO.imp (po_some h) fun σ H Q ⟨F, η, d, sr, hd, q⟩ => by
  obtain ⟨x, hx, hd⟩ := bind_some hd
  obtain ⟨i, hi, hd⟩ := bind_some hd
  cases hd
  obtain rfl := asI_some hi
  exact ⟨F, η, _, sr, hx, fun v F1 H1 g1 rv => ⟨i, rv.int, q F1 H1 g1⟩⟩
noncomputable def eSl (f : En → Option PyData) (fl fh : En → Option (Option Int)) : En → Option PyData := fun η => (f η).bind fun x => (fl η).bind fun l => (fh η).bind fun h => pSl x l h
theorem E.sl (he : E X B e f) (hl : P X B lo fl) (hu : P X B hi fh) : E X B (.Subscript e (.Slice lo hi none p2) pos) (eSl f fl fh) := PE.imp (pe_slice sl_A he hl hu) fun σ H Q ⟨F, η, d, sr, hd, q⟩ => by
  obtain ⟨x, hx, hd⟩ := bind_some hd
  obtain ⟨l, hl, hd⟩ := bind_some hd
  obtain ⟨h, hh, hd⟩ := bind_some hd
  refine ⟨F, η, x, sr, hx, fun v F1 H1 g1 rv => ⟨F1, η, l, sr.grow g1, hl, fun F2 H2 g2 => ⟨F2, η, h, (sr.grow g1).grow g2, hh, fun F3 H3 g3 => ?_⟩⟩⟩
  exact ad_sl g3.fh (rv.mono (g2.ff.trans g3.ff)) hd fun w F4 H4 g4 rw' => q w F4 H4 (((g1.trans g2).trans g3).trans g4) rw'
noncomputable def rSum (K : PySem.W.Frag) : List V → Hp → VK → Prop := fun xs H Q => ∃ (p : Addr) (ns : List Int), xs = [.ref p] ∧ SqL K H p (ns.map V.int) ∧ Q (.int ns.sum) H
noncomputable def asIs : List PyData → Option (List Int)
  | [] => some []
  | .int i :: r => (asIs r).bind fun ns => some (i :: ns)
  | _ :: _ => none
noncomputable def pSum (ds : List PyData) : Option PyData := match ds with
  | [.list xs] => (asIs xs).bind fun ns => some (.int ns.sum)
  | _ => none
theorem list_extendW (l b : Addr) (items items2 : Array Value) (n n2 : Nat) (dd2 : Option Addr) (sl2 : Array (Option Value)) (hc0 : ¬(!items.isEmpty && Builtin.List.listTooLong (items.size + items2.size)) = true) (hc1 : items.size ≤ sizeLine) (hs2 : items.size + items2.size ≤ sizeLine + 1) :
    Meets (Builtin.«list.extend» ⟨[.ref l, .ref b], []⟩) (fun _ R s => s.heap.get? l = some { cls := .type "list", dict := none, data := .seq items n, slots := #[] } ∧ s.heap.get? b = some { cls := .type "list", dict := dd2, data := .seq items2 n2, slots := sl2 } ∧ R (.ok (.ret Value.none)) { s with heap := s.heap.update l (Obj.mapSeq fun x => x ++ items2), toks := s.toks }) :=
  .of_wp fun prog w A R s h => by
    obtain ⟨hp, g, d, tk, os⟩ := s; obtain ⟨hl, hb, h⟩ := h; have f1 := AutoSeq1.idx_int; have f2 := AutoSeq1.sub_tuple_tuple; have f3 := AutoSeq1.sub_list_list; have f4 := AutoSeq1.sub_tuple_list; have f5 := AutoSeq1.sub_list_tuple
    have hz' : (items ++ items2).size ≤ sizeLine + 1 := by rw [Array.size_append]; exact hs2
    wp_walk using (wpAny_updateSeq hl rfl (hz := hc1) (_hz' := hz')), AutoSeq1.wpAny_loadPart' hl, AutoSeq1.wpAny_loadPart' hb; exact ⟨_, rfl, h⟩
noncomputable def rExtS (K : PySem.W.Frag) : V → List V → Hp → VK → Prop := fun x vs H Q => ∃ l b xs zs, x = .ref l ∧ vs = [.ref b] ∧ H l = some (.lst xs) ∧ SqL K H b zs ∧ xs.length + zs.length ≤ sizeLine ∧ Q .non (upd H l (.lst (xs ++ zs)))
theorem mt_extS : MtM X "list.extend" (rExtS X.K) := by
  intro pins s σ H x vs v us Q I rx rv h
  obtain ⟨l, b, xs, zs, rfl, rfl, hH, hB, hz, q⟩ := h
  cases rx
  obtain ⟨u, rfl, ru⟩ := rv.one
  cases ru
  obtain ⟨z, its, n, r, hl, e⟩ := I.lstM hH
  obtain ⟨its2, r2, ⟨⟨c2, d2, t2, sl2⟩, n2, e2, ec2, ed2, es2⟩, z2⟩ := I.list hB
  simp only at ec2 ed2 es2
  subst ec2 ed2 es2
  have hl2 := r2.length
  have hsz : its.toArray.size + its2.toArray.size ≤ sizeLine := by rw [List.size_toArray, List.size_toArray]; omega
  have hlong : ¬ (!its.toArray.isEmpty && Builtin.List.listTooLong (its.toArray.size + its2.toArray.size)) = true := by
    rw [notLongL hsz, Bool.and_false]
    exact Bool.false_ne_true
  refine call_meets F.slot_list_extend ⟨_, e, rfl⟩ F.entry_list_extend (F.args_list_extend_2 _ _)
    (list_extendW l b its.toArray its2.toArray n n2 none sl2 hlong (by rw [List.size_toArray]; omega) (by omega)) ⟨e, e2, ?_⟩
  refine ⟨.non, _, I.lset (its' := its ++ its2) hH e (by simp) (r.append r2) ?_, rfl, q⟩
  rw [List.length_append]
  omega
variable {apos cpos : Pos}
theorem S.ext (i : Nat) {x : Str} {npos : Pos} (he : E X B e f) (hN : X.N[i]? = some x := by rfl) (hv : Vis X.env.scope x := by first | exact Or.inl rfl | exact Or.inr (Or.inl rfl) | exact Or.inr (Or.inr rfl)) (hd : (x == ("__debug__" : Str)) = false := by decide) (hcd : (x == ("__classdict__" : Str)) = false := by decide)
    (hbase : attributeBase (.Name x npos) "extend" X.env (eval (.Name x npos) X.env) = eval (.Name x npos) X.env := by rfl)
    (hfew : ((backTo cpos (starEach [e] X.env)).all (fun x => !x.1) && (backToKw cpos (keywordEach [] X.env)).all (fun x => x.1.isSome)
      && decide ([e].length + ([] : List Keyword).length + (if ([] : List Keyword).isEmpty then 0 else 1) < 30)) = true := by rfl)
    (hline : (apos.endLine == cpos.line) = true := by rfl) (hs : starEach [e] X.env = (false, eval e X.env) :: starEach [] X.env := by exact star_of rfl) (hplain : (backTo cpos (starEach [] X.env)).any (·.1) = false := by rfl)
    (hsw : swapsWith (.Call (.Attribute (.Name x npos) "extend" apos) [e] [] cpos) none pos.line X.env = pure false := by rfl) :
    S X B (.Expr (.Call (.Attribute (.Name x npos) "extend" apos) [e] [] cpos) pos) (sExt i (lI asL f)) :=
  PS.imp (ps_expr (pe_bm PySem.F.plainAttrs_list PySem.F.slot_list_extend PySem.F.type_list_extend mt_extS (pe_var hN hv hd hcd) (A.cons he A.nil hs) hbase hfew hline hs hplain) hsw) fun D σ H ⟨F, η, o, sr, hd, q⟩ => by
    obtain ⟨es, h1, hd⟩ := bind_some hd
    split at hd
    · rename_i ds ed
      split at hd
      · rename_i hz
        cases hd
        obtain ⟨dl, h2, h3⟩ := bind_some h1
        cases dl <;> simp only [asL, Option.some.injEq, reduceCtorEq] at h3
        subst h3
        obtain ⟨p, xs, e1, e2, e3, e4, e5⟩ := sr.en.own i ds ed
        refine ⟨_, e1, .inl ⟨rfl, xs, SqL.of e4⟩, F, η, _, sr, (by show (f η).bind _ = _; rw [h2]; rfl), fun vs F1 H1 g1 rs => ?_⟩
        obtain ⟨y, r, rfl, ry, rr⟩ := rs.cons_of
        obtain rfl := rr.nil_of
        obtain ⟨b, zs, rfl, hq, r1⟩ := ry.lst
        have sr1 := sr.grow g1
        obtain ⟨p', xs', q1, q2, q3, q4, q5⟩ := sr1.en.own i ds ed
        rw [e1] at q1
        have ep : p = p' := by injection (Option.some.inj (Option.some.inj q1))
        subst ep
        refine ⟨p, b, xs', zs, rfl, rfl, q4, g1.fh.seq hq, by rw [q5.length, r1.length]; exact hz, ?_⟩
        refine q σ F1 _ ⟨⟨sr1.gr.ff, fun c u z => ?_, fun c u z => ?_, sr1.gr.new⟩, sr1.en.putOwn ed e1 (q5.append r1)⟩ g1.ff
        · have nb : c ≠ p := ne_of_none z q3
          rw [upd_ne nb]; exact sr1.gr.hh c u z
        · have nb : c ≠ p := ne_of_none z q2
          rw [upd_ne nb]; exact sr1.gr.fh c u z
      · cases hd
    · cases hd
end
end
noncomputable def signD (x : Str) : List PyData := x.cps.toList.map fun c => PyData.str ⟨#[c]⟩
noncomputable def enumD (ds : List PyData) (i : Nat) : List PyData := match ds with
  | [] => []
  | d :: r => .tuple [.int i, d] :: enumD r (i + 1)
theorem enumD_get : ∀ (ds : List PyData) (k i : Nat) (d : PyData), (enumD ds k)[i]? = some d → ∃ c, ds[i]? = some c ∧ d = .tuple [.int ((k + i : Nat) : Int), c]
  | [], k, i, d, h => by simp [enumD] at h
  | c :: r, k, 0, d, h => by
    simp [enumD] at h
    exact ⟨c, rfl, h.symm⟩
  | c :: r, k, i + 1, d, h => by
    have h' : (enumD r (k + 1))[i]? = some d := by simpa [enumD] using h
    obtain ⟨c', h1, h2⟩ := enumD_get r (k + 1) i d h'
    exact ⟨c', by simpa using h1, by rw [h2, show k + 1 + i = k + (i + 1) by omega]⟩
theorem enumD_len : ∀ (ds : List PyData) (k : Nat), (enumD ds k).length = ds.length
  | [], _ => rfl
  | _ :: r, k => by rw [enumD, List.length_cons, List.length_cons, enumD_len r]
noncomputable def Ite (x : Str) : It := ⟨fun i _ => i < x.cps.size, fun i H v H' => ∃ T c, H T = none ∧ x.cps[i]? = some c ∧ v = .ref T ∧ H' = upd H T (.tup [.int (i : Nat), .str ⟨#[c]⟩]), fun i _ => i = x.cps.size⟩
section
theorem turn_enum {P : Program} {w : World} {K : PySem.W.Frag} {elts : List Expr} {k : Nat} {tp : Pos} {e it : Addr} {x : Str} {St : Nat → Heap → Prop} (hei : e ≠ it)
    (D : ∀ A : Around, A.handled = none → Draws P w A it [it] x.cps.size (fun i v => ∃ c u, x.cps[i]? = some c ∧ v = .str ⟨#[c]⟩ u) St) (hcell : ∀ i h, St i h → ∃ o, h.get? it = some o ∧ ∀ v, o.data ≠ .cell v) :
    Turn P w K (.Tuple elts k tp) (Ite x) [e, it] e (fun i h => (∃ old, IsEnum h e it i old) ∧ St i h) where
  mem := by simp
  obj := fun i h st b hb => by
    obtain ⟨⟨old, he⟩, hs⟩ := st
    rcases List.mem_cons.mp hb with rfl | hb
    · exact ⟨_, he, fun v z => by cases z⟩
    · rw [List.mem_singleton.mp hb]
      exact hcell i h hs
  keep := fun i h h' st kk => by
    obtain ⟨⟨old, he⟩, hs⟩ := st
    refine ⟨⟨old, kk e (by simp) _ he⟩, ?_⟩
    exact (D { frames := none, units := 0, depth := 0, handled := none } rfl).frame i h h' hs fun b hb o q => kk b (by rw [List.mem_singleton.mp hb]; simp) o q
  item := by
    intro X hP hw hK hc i pins s σ H E I hf st hg
    subst hP hw hK
    have W := WalksT.enumerateD (prog := X.prog) (w := X.w) (A := X.A) (D X.A.in1 (I.ok.hd hc)) e hei (by simpa using hei) (by simp)
    refine W.item i s _ _ hg st fun T vals h' tk Pt hT hIs Md kp => ⟨.ref T, rfl, ?_⟩
    refine W.go elts k tp i T _ _ _ Md fun h'' st'' kp'' => ?_
    obtain ⟨t, xv, ⟨c, u, hcx, rfl⟩, rfl⟩ := Pt
    have nT : H T = none := I.hok.fresh hT
    have aT : T ∉ [e, it] := W.apart i T _ Md
    have kall : ∀ b o, b ∉ [e, it] → s.heap.get? b = some o → h''.get? b = some o := fun b o hb q => kp'' b o hb (kp b o hb q)
    have hIs'' : IsTup h'' T #[.int i t, .str ⟨#[c]⟩ u] := by
      obtain ⟨o, ho, hcl, n, hd⟩ := hIs
      exact ⟨o, kp'' T o aT ho, hcl, n, hd⟩
    have ltT : ∀ b o, s.heap.get? b = some o → b ≠ T := fun b o q => Nat.ne_of_lt (Nat.lt_of_lt_of_le (Heap.lt_size q) hT)
    have nfp : ∀ b o, H b = some o → b ∉ [e, it] := fun b o q hb => by rw [(hf b hb).1] at q; cases q
    have J : Inv X pins σ (upd H T (.tup [.int (i : Nat), .str ⟨#[c]⟩])) { s with heap := h'', toks := tk } := by
      refine I.step (h' := h'') (g' := s.gens) (d' := s.drawn) (t' := tk) (ch := [e, it]) (fun b hb => ⟨(hf b hb).2.2.2.1, (hf b hb).2.1, (hf b hb).2.2.2.2.1, (hf b hb).2.2.2.2.2⟩)
        (fun b o _ _ hb q _ => kall b o hb q) (fun b o _ _ hb q _ => ⟨o.slots, kall b o hb q⟩) (fun b o _ q n => by rw [upd_ne (ltT b o q)]; exact n) (fun b o hb q => ⟨o, kall b o hb q⟩)
        (fun b xs q => by rw [upd_ne (ne_of_none q nT)]; exact q) (fun b o xs q => by rw [upd_ne (ne_of_none q nT)]; exact q) (fun b ps q => ⟨#[], by rw [upd_ne (ne_of_none q nT), q]; simp⟩) (fun m hm => ?_) (fun b o q => ?_) I.bare
      · obtain ⟨o, es, ep, ho, r⟩ := hm
        refine ⟨o, es, ep, kall _ o (fun hb => ?_) ho, r⟩
        exact (hf _ hb).2.1 rfl
      · by_cases hb : b = T
        · subst hb
          rw [upd_same] at q
          cases q
          exact ⟨by show 2 ≤ sizeLine; decide, [.int i t, .str ⟨#[c]⟩ u], .cons ⟨t, rfl⟩ (.cons ⟨u, rfl⟩ .nil), hIs''⟩
        · rw [upd_ne hb] at q
          refine (I.hok b o q).stay (fun c' v hc' z => kall c' v ?_ z) (fun c' z => by rw [upd_ne (ne_of_none z nT)]; exact z) fun c' xs z => by rw [upd_ne (ne_of_none z nT)]; exact z
          rcases hc' with rfl | hc'
          · exact nfp _ _ q
          · exact nfp _ _ hc'
    refine ⟨.ref T, upd H T (.tup [.int (i : Nat), .str ⟨#[c]⟩]), J, rfl, ⟨T, c, nT, hcx, rfl, rfl⟩, st'', fun b hb => ?_⟩
    have nb : b ≠ T := fun z => aT (by rw [← z]; exact hb)
    rw [upd_ne nb]; exact (hf b hb).1
  done := by
    intro X hP hw hK hc i pins s σ H E I hf st hg
    subst hP hw hK
    have W := WalksT.enumerateD (prog := X.prog) (w := X.w) (A := X.A) (D X.A.in1 (I.ok.hd hc)) e hei (by simpa using hei) (by simp)
    have hg' : i = x.cps.size := hg
    rw [hg'] at st
    refine W.done s _ _ st fun h' tk kp => ⟨rfl, ?_⟩
    have nfp : ∀ b o, H b = some o → b ∉ [e, it] := fun b o q hb => by rw [(hf b hb).1] at q; cases q
    refine I.step (h' := h') (g' := s.gens) (d' := s.drawn) (t' := tk) (ch := [e, it]) (fun b hb => ⟨(hf b hb).2.2.2.1, (hf b hb).2.1, (hf b hb).2.2.2.2.1, (hf b hb).2.2.2.2.2⟩)
      (fun b o _ _ hb q _ => kp b o hb q) (fun b o _ _ hb q _ => ⟨o.slots, kp b o hb q⟩) (fun _ _ _ _ n => n) (fun b o hb q => ⟨o, kp b o hb q⟩)
      (fun _ _ q => q) (fun _ _ _ q => q) (fun b ps q => ⟨#[], by rw [q]; simp⟩) (fun m hm => ?_) (fun b o q => ?_) I.bare
    · obtain ⟨o, es, ep, ho, r⟩ := hm
      exact ⟨o, es, ep, kp _ o (fun hb => (hf _ hb).2.1 rfl) ho, r⟩
    · refine (I.hok b o q).stay (fun c' v hc' z => kp c' v ?_ z) (fun _ z => z) fun _ _ z => z
      rcases hc' with rfl | hc'
      · exact nfp _ _ q
      · exact nfp _ _ hc'
  self := fun A i s Q E st h => by
    obtain ⟨⟨old, he⟩, hs⟩ := st
    exact wpAny_pyIter_enum he h
variable {X : Cx} {B : Bd} {a : Expr} {fs : En → Option (List PyData)} {pos pp : Pos}
noncomputable def enS (ds : List PyData) : Option (List PyData) := match ds with
  | [.str x] => some (enumD (signD x) 0)
  | _ => none
theorem itp_enum {K : PySem.W.Frag} {F : Hp} {x : Str} : ItP K (Ite x) F (enumD (signD x) 0) := fun F1 H1 i s1 s2 => by
  have hl : (enumD (signD x) 0).length = x.cps.size := by rw [enumD_len]; unfold signD; rw [List.length_map, Array.length_toList]
  refine ⟨fun d e => ?_, fun e => by show i = _; rw [e, hl]⟩
  have hi : i < x.cps.size := by rw [← hl]; exact (List.getElem?_eq_some_iff.mp e).1
  refine ⟨hi, fun v H2 y => ?_⟩
  obtain ⟨T, c, hT, hc, rfl, rfl⟩ := y
  obtain ⟨cd, h1, h2⟩ := enumD_get _ _ _ _ e
  have : cd = .str ⟨#[c]⟩ := by
    unfold signD at h1
    rw [List.getElem?_map] at h1
    have hc' : x.cps.toList[i]? = some c := by simpa using hc
    rw [hc'] at h1
    exact (Option.some.inj h1).symm
  subst this
  rw [Nat.zero_add] at h2
  subst h2
  have g := Gr.one (o := .tup [.int (i : Nat), .str ⟨#[c]⟩]) s2 hT
  exact ⟨_, g, rel_tup (SqT.of upd_same) (.cons rel_int (.cons rel_str .nil))⟩
theorem I.enum {elts : List Expr} {k : Nat} {tp : Pos} (hc : X.calm = true) (hm : X.mg "enumerate" = none) (ha : A X B [a] fs) (hg : Gl X "enumerate" := by rfl) (hs : starEach [a] X.env = [(false, eval a X.env)] := by exact star_of rfl) :
    I X B (.Tuple elts k tp) (.Call (.Name "enumerate" pp) [a] [] pos) (fun η => (fs η).bind enS) := by
  intro pins s σ H R I ⟨F, η, ds, sr, hd, q⟩
  obtain ⟨es, h1, hd⟩ := bind_some hd
  unfold enS at hd
  split at hd
  · rename_i x
    cases hd
    refine Call_ (ld_blt I hg hm boot_enumerate (PyProof.Rows.callWith_type1 (thn (ha pos pins s σ H (fun vs H1 => ∃ F', Gr F H F' H1 ∧ RelL X.K F' [.str x] vs) I ⟨F, η, _, sr, h1, fun vs F' H' g r => ⟨F', g, r⟩⟩) fun us s1 ⟨vs, H1, I1, r1, F1, g1, rl⟩ => ?_) hs rfl))
    obtain ⟨y, r, rfl, ry, rr⟩ := rl.cons_of
    obtain rfl := rr.nil_of
    obtain ⟨u, rfl, ru⟩ := vals1 r1
    rw [ry.str] at ru
    obtain ⟨t, rfl⟩ := ru
    refine call_enumerate_str fun h' he hit hsz hk => ?_
    refine wpAny_pyIter_enum he ?_
    have I2 : Inv X pins σ H1 { s1 with heap := h' } := I1.kept (t' := s1.toks) hk
    have nw : ∀ b, s1.heap.objs.size ≤ b → FpOk X pins H1 b := fun b hb => I1.fpOk hb (I1.hok.fresh hb)
    have fpo : ∀ b ∈ [s1.heap.objs.size + 1, s1.heap.objs.size], FpOk X pins H1 b := fun b hb => by
      rcases List.mem_cons.mp hb with rfl | hb
      · exact nw _ (Nat.le_succ _)
      · rw [List.mem_singleton.mp hb]; exact nw _ (Nat.le_refl _)
    have cel : ∀ (ty : String) (i : Nat) (h : Heap), h.IsStrIter s1.heap.objs.size ty x t i → ∃ o, h.get? s1.heap.objs.size = some o ∧ ∀ v, o.data ≠ .cell v := fun ty i h st => by
      obtain ⟨o, ho, hcl, hd⟩ := st
      exact ⟨o, ho, fun v z => by rw [hd] at z; cases z⟩
    cases ha' : x.cps.all (· < 128)
    · have hit' : h'.IsStrIter s1.heap.objs.size "str_iterator" x t 0 := by simpa [strIterType, ha'] using hit
      exact ⟨_, _, _, _, H1, rfl, I2, turn_enum (Nat.succ_ne_self _) (fun A hA => Draws.strWide hA _ x t) (cel _), ⟨⟨_, he⟩, hit'⟩, fpo, q _ F1 H1 g1 itp_enum⟩
    · have hit' : h'.IsStrIter s1.heap.objs.size "str_ascii_iterator" x t 0 := by simpa [strIterType, ha'] using hit
      exact ⟨_, _, _, _, H1, rfl, I2, turn_enum (Nat.succ_ne_self _) (fun A hA => Draws.strAscii hA _ x t) (cel _), ⟨⟨_, he⟩, hit'⟩, fpo, q _ F1 H1 g1 itp_enum⟩
  · cases hd
end
noncomputable def leS (a b : Str) : Bool := !ltCps b.cps.toList a.cps.toList
theorem str_ext {a b : Str} (h : a.cps.toList = b.cps.toList) : a = b := by
  obtain ⟨a⟩ := a
  obtain ⟨b⟩ := b
  have : a = b := Array.toList_inj.mp h
  rw [this]
noncomputable def srtS (ss : List Str) : List Str := ss.mergeSort leS
noncomputable def srtI (ns : List Int) : List Int := ns.mergeSort fun a b => decide (a ≤ b)
section
variable {X : Cx}
noncomputable def rSrtS (K : PySem.W.Frag) : List V → Hp → VK → Prop := fun xs H Q => ∃ (p : Addr) (ss : List Str), xs = [.ref p] ∧ SqL K H p (ss.map V.str) ∧ ss.length < 64 ∧ ∀ l, H l = none → Q (.ref l) (upd H l (.lst ((srtS ss).map V.str)))
noncomputable def rSrtI (K : PySem.W.Frag) : List V → Hp → VK → Prop := fun xs H Q => ∃ (p : Addr) (ns : List Int), xs = [.ref p] ∧ SqL K H p (ns.map V.int) ∧ ns.length < 64 ∧ ∀ l, H l = none → Q (.ref l) (upd H l (.lst ((srtI ns).map V.int)))
noncomputable def asSs : List PyData → Option (List Str)
  | [] => some []
  | .str i :: r => (asSs r).bind fun ns => some (i :: ns)
  | _ :: _ => none
noncomputable def pSort (ds : List PyData) : Option PyData := match ds with
  | [.list xs] => if xs.length < 64 then (match asSs xs with
    | some ss => some (.list ((srtS ss).map PyData.str))
    | none => (asIs xs).bind fun ns => some (.list ((srtI ns).map PyData.int))) else none
  | _ => none
variable {B : Bd} {a b e : Expr} {es : List Expr} {f g : En → Option PyData} {fs : En → Option (List PyData)} {pos pp apos cpos : Pos}
noncomputable def rIdx (K : PySem.W.Frag) : V → List V → Hp → VK → Prop := fun x vs H Q => ∃ l xs y j, x = .ref l ∧ vs = [y] ∧ SqL K H l xs ∧ flatV y = true ∧ xs.all flatV = true ∧ xs.findIdx? (fun z => eqV z y) = some j ∧ Q (.int (j : Nat)) H
noncomputable def pIdx (x y : PyData) : Option PyData := match x with
  | .list ds => if flatD y = true ∧ ds.all flatD = true then (ds.findIdx? fun z => PyData.eqv z y).bind fun j => some (.int (j : Nat)) else none
  | _ => none
end
noncomputable def compChk (N : List Str) (sc scope : Scope) (N' : List Str) (mp : List (Option Nat)) : Bool :=
  decide (scope.kind = .function) && decide (sc.kind = .function) && decide (∀ x ∈ scope.names, x.2 ≠ .cell) && decide (∀ x ∈ scope.names, x.2 = .local → scope.names.lookup x.1 = some .local) &&
  decide (∀ x ∈ scope.names, x.2 = .free → sc.names.lookup x.1 = some .cell) && decide (mp.length = N'.length) &&
  (N'.zip mp).all fun p => match p.2 with
    | none => true
    | some j => decide (N[j]? = some p.1) && decide (scope.names.lookup p.1 = some .free)
theorem lookup_relabel_free {env : Env} (hk : env.scope.kind = .function) : ∀ {names : List (Str × NameKind)} {x : Str}, names.lookup x = some .free → env.kindOf x = some .cell →
    (names.map fun (n, k) => if (k == NameKind.free && env.scope.kind == .function && env.kindOf n == some .cell) then (n, NameKind.cell) else (n, k)).lookup x = some .cell
  | [], _, h, _ => by simp at h
  | (n, k) :: r, x, h, hc => by
    have ih := @lookup_relabel_free env hk r x
    show List.lookup x ((if (k == NameKind.free && env.scope.kind == .function && env.kindOf n == some .cell) = true then (n, NameKind.cell) else (n, k)) :: _) = _
    cases hx : x == n with
    | true =>
      have en : x = n := by simpa using hx
      subst en
      simp only [List.lookup_cons, hx] at h
      cases h
      rw [if_pos (by rw [hk, hc]; rfl)]
      simp [List.lookup_cons]
    | false =>
      simp only [List.lookup_cons, hx] at h
      split <;> simp only [List.lookup_cons, hx] <;> exact ih h hc
theorem CompSc.of {X : Cx} {scope : Scope} {N' : List Str} {mp : List (Option Nat)} (h : compChk X.N X.env.scope scope N' mp = true) : CompSc X scope N' mp := by
  unfold compChk at h
  simp only [Bool.and_eq_true, decide_eq_true_eq] at h
  obtain ⟨⟨⟨⟨⟨⟨h1, h0⟩, h2⟩, h3⟩, h4⟩, h5⟩, h6⟩ := h
  refine ⟨h1, h2, h3, fun x hx hf => .inl (h4 x hx hf), h5, fun i x j e1 e2 => ?_⟩
  have hm : (x, some j) ∈ N'.zip mp := by
    have : (N'.zip mp)[i]? = some (x, some j) := by rw [List.getElem?_zip_eq_some]; exact ⟨e1, e2⟩
    exact List.mem_of_getElem? this
  have h7 := List.all_eq_true.mp h6 _ hm
  simp only [Bool.and_eq_true, decide_eq_true_eq] at h7
  have hmem : (x, NameKind.free) ∈ scope.names := PySem.mem_of_lookup h7.2
  exact ⟨h7.1, hmem, .inl (lookup_relabel_free h0 h7.2 (h4 _ hmem rfl))⟩
theorem E.globI {X : Cx} {B : Bd} {x : Str} {i : Int} {t : Tok} {pos : Pos} (hm : X.mg x = some (.int i t)) (hg : Gl X x := by rfl) (hd : (x == ("__debug__" : Str)) = false := by decide) : E X B (.Name x pos) (eC (.int i)) := E.glob hm (v := .int i) ⟨t, rfl⟩ (fun _ => rel_int) hg hd
theorem tg_len1 {t : En → PyData → Option En} : ∀ η ds η', tgCons t tgNil η ds = some η' → ds.length = 1 := fun η ds η' h => by
  match ds, h with
  | [_], _ => rfl
  | _ :: _ :: _, h => obtain ⟨_, _, h⟩ := bind_some h; cases h
theorem tg_len2 {t u : En → PyData → Option En} : ∀ η ds η', tgCons t (tgCons u tgNil) η ds = some η' → ds.length = 2 := fun η ds η' h => by
  match ds, h with
  | d :: r, h =>
    obtain ⟨η1, _, h⟩ := bind_some h
    rw [List.length_cons, tg_len1 _ _ _ h]
theorem CompSc.of' {X : Cx} {scope : Scope} {N' : List Str} {mp : List (Option Nat)} (N : List Str) (sc : Scope) (hN : X.N = N) (hs : X.env.scope = sc) (h : compChk N sc scope N' mp = true) : CompSc X scope N' mp := CompSc.of (by rw [hN, hs]; exact h)
noncomputable def tyD : PyData → String
  | .none => "NoneType"
  | .bool _ => "bool"
  | .int _ => "int"
  | .str _ => "str"
  | .list _ => "list"
  | .tuple _ => "tuple"
  | .dict _ => "dict"
noncomputable def isB (T : String) (d : PyData) : Bool := match d with
  | .bool _ => T == "bool" || T == "int"
  | d => tyD d == T
section
variable {X : Cx}
noncomputable def rIsin (K : PySem.W.Frag) (T : String) : List V → Hp → VK → Prop := fun xs H Q => ∃ x F d, xs = [x, .ty T] ∧ Same F H ∧ Rel K F d x ∧ Q (.bl (isB T d)) H
variable {B : Bd} {a b e : Expr} {es : List Expr} {f g : En → Option PyData} {fs : En → Option (List PyData)} {pos pp tp apos cpos pos' : Pos} {sts : List Stmt} {u : En → Option Out} {p : En → Option Bool}
noncomputable def pIsin (T : String) (d : PyData) : Option PyData := some (.bool (isB T d))
noncomputable def asBs : List PyData → Option (List Bool)
  | [] => some []
  | .bool i :: r => (asBs r).bind fun ns => some (i :: ns)
  | _ :: _ => none
theorem asBs_some : ∀ {ds : List PyData} {ns : List Bool}, asBs ds = some ns → ds = ns.map PyData.bool
  | [], ns, h => by cases h; rfl
  | .bool i :: r, ns, h => by
    obtain ⟨ms, h1, h2⟩ := bind_some h
    cases h2
    rw [asBs_some h1]; rfl
  | .none :: _, _, h => by cases h
  | .str _ :: _, _, h => by cases h
  | .int _ :: _, _, h => by cases h
  | .list _ :: _, _, h => by cases h
  | .tuple _ :: _, _, h => by cases h
  | .dict _ :: _, _, h => by cases h
theorem asBs_bools (ns : List Bool) : asBs (ns.map PyData.bool) = some ns := by
  induction ns with
  | nil => rfl
  | cons n r ih => rw [List.map_cons]; unfold asBs; rw [ih]; rfl
theorem RelL.bools_of {K : PySem.W.Frag} {F : Hp} : ∀ {ns : List Bool} {xs : List V}, RelL K F (ns.map PyData.bool) xs → xs = ns.map V.bl
  | [], xs, h => h.nil_of
  | n :: r, xs, h => by
    obtain ⟨x, ys, rfl, h1, h2⟩ := h.cons_of
    rw [h1.bl, RelL.bools_of h2]; rfl
theorem range_any (bs : List Bool) : (List.range bs.length).any (fun i => bs.getD i false) = bs.any id := by
  rw [Bool.eq_iff_iff, List.any_eq_true, List.any_eq_true]
  constructor
  · rintro ⟨i, hi, h⟩
    have hi := List.mem_range.mp hi
    rw [List.getD_eq_getElem?_getD, List.getElem?_eq_getElem hi] at h
    exact ⟨_, List.getElem_mem hi, h⟩
  · rintro ⟨x, hx, h⟩
    obtain ⟨i, hi, rfl⟩ := List.mem_iff_getElem.mp hx
    exact ⟨i, List.mem_range.mpr hi, by rw [List.getD_eq_getElem?_getD, List.getElem?_eq_getElem hi]; exact h⟩
noncomputable def rBools (K : PySem.W.Frag) (r : List Bool → Bool) : List V → Hp → VK → Prop := fun xs H Q => ∃ (p : Addr) (bs : List Bool), xs = [.ref p] ∧ SqL K H p (bs.map V.bl) ∧ Q (.bl (r bs)) H
theorem bools_walk (hc : X.calm = true) {pins : List (Addr × Obj)} {s : Shared} {σ : St} {H : Hp} {p : Addr} {bs : List Bool} {Q : Bool → Value → Shared → Prop} {r : (Nat → Bool) → Nat → Bool} (I : Inv X pins σ H s) (hq : SqL X.K H p (bs.map V.bl))
    (hQ : ∀ h' tk, (∀ b o, s.heap.get? b = some o → h'.get? b = some o) → Q true (.bool (r (fun i => bs.getD i false) bs.length)) { s with heap := h', toks := tk }) :
    wpAny (model X.prog X.w) X.A.in1 (pyIter (.ref p)) (fun it s₂ => ∃ I fp wr n P St tr, it = .ref I ∧ Walks X.prog X.w X.A.in1 I fp wr n P St ∧ St 0 s₂.heap ∧ TruthOf X.prog X.w X.A.in1 P tr ∧
      ∀ h' tk, (∀ b o, b ∉ wr → s₂.heap.get? b = some o → h'.get? b = some o) → Q true (.bool (r tr n)) { s₂ with heap := h', toks := tk }) X.xe s := by
  obtain ⟨its, rv, pl, hz⟩ := I.list hq
  have hl := rv.length
  rw [List.length_map] at hl
  have hlt : p < s.heap.objs.size := by
    obtain ⟨o, ho, _⟩ := pl.isList
    exact Heap.lt_size ho
  refine wpAny_pyIter_list pl.isList ?_
  refine ⟨s.heap.objs.size, _, _, _, _, _, fun i => bs.getD i false, rfl, Walks.list (A := X.A.in1) (I.ok.hd hc) s.heap.objs.size p (Nat.ne_of_lt hlt) its.toArray, ⟨⟨_, Heap.get?_push_size _ rfl, rfl, rfl⟩, pl.isList.at fun o e => Heap.get?_push_of_some _ e⟩, ?_, fun h' tk hk => ?_⟩
  · intro i v s' Q' E' hv hq'
    have hv' : its[i]? = some v := by simpa using hv
    obtain ⟨hi, _⟩ := List.getElem?_eq_some_iff.mp hv'
    have hn : bs[i]? = some bs[i] := List.getElem?_eq_getElem (by omega)
    obtain ⟨w, hw, rw'⟩ := rv.get (i := i) (x := .bl bs[i]) (by rw [List.getElem?_map, hn]; rfl)
    rw [hv'] at hw
    cases hw
    cases rw'
    have e : bs.getD i false = bs[i] := by rw [List.getD_eq_getElem?_getD, hn]; rfl
    rw [show (fun i => bs.getD i false) i = bs[i] from e] at hq'
    exact wpAny_truthy_bool hq'
  · have e : its.toArray.size = bs.length := by rw [List.size_toArray]; exact hl.symm
    rw [e]
    refine hQ h' tk fun b o eb => hk b o ?_ (Heap.get?_push_of_some _ eb)
    intro hb
    exact absurd (Heap.lt_size eb) (by rw [List.mem_singleton.mp hb]; exact Nat.lt_irrefl _)
theorem call_any (hc : X.calm = true) : CallR X (.builtin "any") (rBools X.K fun bs => bs.any id) := by
  intro pins s σ H xs us Q I r h
  obtain ⟨p, bs, rfl, hq, q⟩ := h
  obtain ⟨u, rfl, rx⟩ := vals1 r
  cases rx
  refine call_any_walk (bools_walk hc (Q := fun _ v s' => EP X pins σ Q v s') (r := fun tr n => (List.range n).any tr) I hq fun h' tk k => ?_)
  rw [range_any]
  exact ⟨.bl _, H, I.kept k, rfl, q⟩
noncomputable def pBools (r : List Bool → Bool) (ds : List PyData) : Option PyData := match ds with
  | [.list xs] => (asBs xs).bind fun bs => some (.bool (r bs))
  | _ => none
theorem ad_bools {K : PySem.W.Frag} {r : List Bool → Bool} : AdA K (rBools K r) (pBools r) := fun F H xs ds d Q sm rs e q => by
  unfold pBools at e
  split at e
  · obtain ⟨bs, h1, h2⟩ := bind_some e
    cases h2
    have := asBs_some h1
    subst this
    obtain ⟨x, r, rfl, rx, rr⟩ := rs.cons_of
    obtain rfl := rr.nil_of
    obtain ⟨a, ys, rfl, hq, r1⟩ := rx.lst
    have := r1.bools_of
    subst this
    exact ⟨a, bs, rfl, sm.seq hq, q _ F H (.refl sm) rel_bl⟩
  · cases e
noncomputable def pAll := pBools fun bs => bs.all id
noncomputable def pAny := pBools fun bs => bs.any id
theorem E.any (hc : X.calm = true) (hm : X.mg "any" = none) (ha : A X B [e] fs) (hg : Gl X "any" := by rfl) (he : starEach [e] X.env = (false, eval e X.env) :: starEach [] X.env := by exact star_of rfl) (hpl : (backTo pos (starEach [] X.env)).any (·.1) = false := by rfl) : E X B (.Call (.Name "any" pp) [e] [] pos) (lA pAny fs) :=
  E.callB (call_any hc) ad_bools hm (by decide +kernel) ha hg (by decide) (by decide) he hpl
noncomputable def pMax (ds : List PyData) : Option PyData := match ds with
  | [.int i, .int j] => some (.int (if j > i then j else i))
  | _ => none
noncomputable def pMin (ds : List PyData) : Option PyData := match ds with
  | [.int i, .int j] => some (.int (if j < i then j else i))
  | _ => none
noncomputable def pInt (ds : List PyData) : Option PyData := match ds with
  | [.int i] => some (.int i)
  | [.bool k] => some (.int (if k then 1 else 0))
  | _ => none
noncomputable def sAug (i : Nat) (f : En → Option PyData) : En → Option Out := fun η => (eV i η).bind fun x => (f η).bind fun y => match x, y with
  | .int n, .int m => some (.nx (η.set i (.val (.int (n + m)))))
  | _, _ => none
noncomputable def sWh (c : En → Option Bool) (body : En → Option Out) : Nat → En → Option Out
  | 0, _ => none
  | n + 1, η => (c η).bind fun b => if b = true then (body η).bind fun o => match o with
    | .nx η' => sWh c body n η'
    | .ct η' => sWh c body n η'
    | .bk η' => some (.nx η')
    | .rt d => some (.rt d) else some (.nx η)
noncomputable def tInO (neg : Bool) (f : En → Option PyData) (i : Nat) : En → Option Bool := fun η => (f η).bind fun x => match η[i]? with
  | some (.own ds) => (pIn neg x (.list ds)).bind asB
  | _ => none
end
noncomputable def Its (x : Str) : It := ⟨fun i _ => i < x.cps.size, fun i H v H' => H' = H ∧ ∃ c, x.cps[i]? = some c ∧ v = .str ⟨#[c]⟩, fun i _ => i = x.cps.size⟩
section
variable {X : Cx} {B : Bd} {e : Expr} {f : En → Option PyData} {tg : Expr}
noncomputable def asSg : PyData → Option (List PyData)
  | .str x => some (signD x)
  | _ => none
end
section
variable {X : Cx} {B : Bd} {a b e : Expr} {f g : En → Option PyData} {apos cpos : Pos}
noncomputable def rJoin (K : PySem.W.Frag) : V → List V → Hp → VK → Prop := fun x vs H Q => ∃ z p ss, x = .str z ∧ vs = [.ref p] ∧ SqL K H p (ss.map V.str) ∧ JoinOk z ss = true ∧ Q (.str (Txt.join z ss)) H
noncomputable def pJoin (x y : PyData) : Option PyData := match x, y with
  | .str z, .list ds => (asSs ds).bind fun ss => if JoinOk z ss = true then some (.str (Txt.join z ss)) else none
  | _, _ => none
end
section
variable {X : Cx} {B : Bd} {a b e : Expr} {f g : En → Option PyData} {pos : Pos}
noncomputable def sUnp (f : En → Option PyData) (t : En → PyData → Option En) : En → Option Out := fun η => (f η).bind fun d => (t η d).bind fun η' => some (.nx η')
noncomputable def isNn : PyData → Bool
  | .none => true
  | _ => false
noncomputable def pIsN (neg : Bool) (x y : PyData) : Option PyData := match y with
  | .none => some (.bool (if neg then !isNn x else isNn x))
  | _ => none
end
noncomputable def Itv (K : PySem.W.Frag) (a : Addr) (n : Nat) : It :=
  ⟨fun i H => i < n ∧ ∃ xs x, SqL K H a xs ∧ xs[n - 1 - i]? = some x, fun i H x H' => H' = H ∧ ∀ xs, SqL K H a xs → xs[n - 1 - i]? = some x, fun i _ => i = n⟩
section
variable {X : Cx} {B : Bd} {a : Expr} {fs : En → Option (List PyData)} {pos pp : Pos}
noncomputable def rvS (ds : List PyData) : Option (List PyData) := match ds with
  | [.list xs] => some xs.reverse
  | _ => none
end
section
variable {X : Cx} {B : Bd} {a b e : Expr} {f g : En → Option PyData} {fs : En → Option (List PyData)} {pos : Pos}
noncomputable def eRep (fs : En → Option (List PyData)) (g : En → Option PyData) : En → Option PyData := fun η => (fs η).bind fun ds => (g η).bind fun y => (asI y).bind fun k =>
  if 0 ≤ k ∧ k < 1000 ∧ ds.length * k.toNat ≤ 1000 then some (.list (List.replicate k.toNat ds).flatten) else none
end
section
variable {X : Cx} {B : Bd} {e st : Expr} {f g : En → Option PyData} {pos p2 : Pos}
noncomputable def pRv (x y : PyData) : Option PyData := match x with
  | .list ds => (asI y).bind fun k => if k = -1 then some (.list ds.reverse) else none
  | _ => none
end
section
variable {X : Cx} {B : Bd} {pos pp : Pos}
noncomputable def eLenO (i : Nat) : En → Option PyData := fun η => match η[i]? with
  | some (.own ds) => some (.int ds.length)
  | _ => none
end
noncomputable def keyOf : PyData → Option Key
  | .int i => some (.inl i)
  | .str x => some (.inr x)
  | _ => none
noncomputable def lookD (es : List (PyData × PyData)) (k : Key) : Option PyData := (es.find? fun e => decide (keyOf e.1 = some k)).map (·.2)
noncomputable def putP (kvs : List (Key × PyData)) (k : Key) (d : PyData) : List (Key × PyData) :=
  if (kvs.any fun kv => decide (kv.1 = k)) = true then kvs.map (fun kv => if kv.1 = k then (kv.1, d) else kv) else kvs ++ [(k, d)]
section
variable {X : Cx} {B : Bd} {o e e2 a b : Expr} {f g h : En → Option PyData} {pos pos' apos cpos npos : Pos}
noncomputable def pGet2 (x y z : PyData) : Option PyData := match x with
  | .dict es => (keyOf y).bind fun k => some ((lookD es k).getD z)
  | _ => none
noncomputable def eGet2 (f g h : En → Option PyData) : En → Option PyData := fun η => (f η).bind fun x => (g η).bind fun y => (h η).bind fun z => pGet2 x y z
noncomputable def pInD (neg : Bool) (x y : PyData) : Option Bool := match y with
  | .dict es => (keyOf x).bind fun k => some (if neg then !(lookD es k).isSome else (lookD es k).isSome)
  | _ => none
noncomputable def tInD (neg : Bool) (f g : En → Option PyData) : En → Option Bool := fun η => (f η).bind fun x => (g η).bind fun y => pInD neg x y
noncomputable def sSetD (i : Nat) : En → Option Out := fun η => some (.nx (η.set i (.odc [])))
noncomputable def eGet2O (i : Nat) (g h : En → Option PyData) : En → Option PyData := fun η => match η[i]? with
  | some (.odc kvs) => (g η).bind fun y => (h η).bind fun z => (keyOf y).bind fun k => some ((lookD (prs kvs) k).getD z)
  | _ => none
noncomputable def sPutD (i : Nat) (g h : En → Option PyData) : En → Option Out := fun η => (h η).bind fun d => (g η).bind fun y => (keyOf y).bind fun k => match η[i]? with
  | some (.odc kvs) => if kvs.length < sizeLine then some (.nx (η.set i (.odc (putP kvs k d)))) else none
  | _ => none
end
section
variable {X : Cx}
open Classical in
noncomputable def eOf (h : Heap) (dx : PyData) (w : Value) : Bool := if q : ∃ d as, Reads h w d as ∧ d.canLay0 = true then PyData.eqv q.choose dx else false
noncomputable def lowD (d : PyData) : Bool := d.canLay0 && decide (d.depth ≤ 8)
noncomputable def rInS (K : PySem.W.Frag) (neg : Bool) : R2 := fun x y H Q => ∃ F dx ds p xs, Same F H ∧ Rel K F dx x ∧ y = .ref p ∧ SqL K H p xs ∧ RelL K F ds xs ∧ dx.canLay0 = true ∧ ds.all lowD = true ∧ Q (.bl (if neg then !(ds.any fun d => PyData.eqv d dx) else ds.any fun d => PyData.eqv d dx)) H
variable {B : Bd} {a : Expr} {f : En → Option PyData} {pos : Pos}
noncomputable def tInS (neg : Bool) (f : En → Option PyData) (i : Nat) : En → Option Bool := fun η => (f η).bind fun x => match η[i]? with
  | some (.own ds) => if x.canLay0 = true ∧ ds.all lowD = true then some (if neg then !(ds.any fun d => PyData.eqv d x) else ds.any fun d => PyData.eqv d x) else none
  | _ => none
end
section
variable {K : PySem.W.Frag} {F F' : Hp}
theorem flat_rel {d : PyData} {v : V} (h : flatD d = true) (r : Rel K F' d v) : Rel K F d v := by
  cases d with
  | none => rw [r.non]; exact rel_non
  | bool b => rw [r.bl]; exact rel_bl
  | int i => rw [r.int]; exact rel_int
  | str x => rw [r.str]; exact rel_str
  | list ds => cases h
  | tuple ds => cases h
  | dict es => cases h
end
theorem Gr.back {F H F1 F' H' : Hp} (sm : Same F H) (g : Gr F1 H F' H') : Gr F H F H' := ⟨.refl _, g.hh, sm.trans g.hh, fun _ z => .inl z⟩
section
variable {X : Cx} {B : Bd} {e : Expr} {f : En → Option PyData} {fs : En → Option (List PyData)} {p : En → Option Bool}
noncomputable def lendE (j : Nat) (f : En → Option PyData) : En → Option PyData := fun η => (f (frz j η)).bind fun d => if flatD d = true then some d else none
noncomputable def lendO (j : Nat) (f : En → Option (List PyData)) : En → Option (List PyData) := fun η => (f (frz j η)).bind fun ds => if ds.all flatD = true then some ds else none
noncomputable def lendT (j : Nat) (f : En → Option Bool) : En → Option Bool := fun η => f (frz j η)
end
section
variable {X : Cx} {B : Bd} {e o : Expr} {f g : En → Option PyData} {fs : En → Option (List PyData)} {pos pp rp rpos : Pos}
noncomputable def pAbs (ds : List PyData) : Option PyData := match ds with
  | [.int i] => some (.int (if i < 0 then -i else i))
  | _ => none
noncomputable def rRng : List V → Hp → VK → Prop := fun xs H Q => ∃ j : Int, xs = [.int j] ∧ ∀ l, H l = none → Q (.ref l) (upd H l (.rng 0 j))
noncomputable def intsV (n : Nat) : List V := (List.range n).map fun (k : Nat) => V.int (0 + (k : Int))
noncomputable def rLRng : List V → Hp → VK → Prop := fun xs H Q => ∃ (p : Addr) (j : Int), xs = [.ref p] ∧ H p = some (.rng 0 j) ∧ -(2 ^ 62) ≤ j ∧ j < 2 ^ 62 ∧ j.toNat ≤ 1000 ∧ ∀ l, H l = none → Q (.ref l) (upd H l (.lst (intsV j.toNat)))
end
end L2.PU
namespace L2.PU
open PySem PySem.Spec PyProof.Rows
noncomputable def Itd (p : Addr) (ob : Obj) (ks : List (Key × V)) : It :=
  ⟨fun i H => i < ks.length ∧ H p = some (.frz ob (.dK ks)), fun i H x H' => H' = H ∧ ∃ k v, ks[i]? = some (k, v) ∧ x = kV k, fun i H => i = ks.length ∧ H p = some (.frz ob (.dK ks))⟩
section
variable {X : Cx} {B : Bd} {pos npos : Pos} {tg : Expr}
noncomputable def iDict (i : Nat) : TI := fun σ H R => ∃ p ob ks, σ[i]? = some (some (.ref p)) ∧ H p = some (.frz ob (.dK ks)) ∧ R (Itd p ob ks) H
noncomputable def keysD (kvs : List (Key × PyData)) : List PyData := kvs.map fun e => kD e.1
noncomputable def sForD (i : Nat) (t : En → PyData → Option En) (body : En → Option Out) : En → Option Out := fun η => match η[i]? with
  | some (.odc kvs) => sGo t body (keysD kvs) (frz i η)
  | _ => none
end
end L2.PU
namespace L2.PU
open PySem PySem.Spec PyProof.Rows
section
variable {X : Cx} {B : Bd} {e o : Expr} {f g : En → Option PyData} {fs : En → Option (List PyData)} {pos pos' pp rp rpos : Pos}
noncomputable def lrS (ds : List PyData) : Option (List PyData) := match ds with
  | [.int j] => if -(2 ^ 62) ≤ j ∧ j < 2 ^ 62 ∧ j.toNat ≤ 1000 then some (rngL 0 j.toNat) else none
  | _ => none
noncomputable def pAtD (x y : PyData) : Option PyData := match x with
  | .dict es => (keyOf y).bind fun k => lookD es k
  | _ => none
end
section
variable {X : Cx} {B : Bd}
noncomputable abbrev PF := (En → Option PyData) × (En → Option PyData)
noncomputable def DP (X : Cx) (B : Bd) (pos : Pos) (keys : List (Option Expr)) (values : List Expr) (ps : List PF) : Prop := PPs X pos keys values (ps.map fun p => (tE X.K B p.1, tE X.K B p.2))
noncomputable def evP : List PF → En → Option (List (PyData × PyData))
  | [], _ => some []
  | (f, g) :: r, η => (f η).bind fun x => (g η).bind fun y => (evP r η).bind fun l => some ((x, y) :: l)
noncomputable def keysOf : List (PyData × PyData) → Option (List (Key × PyData))
  | [] => some []
  | (x, y) :: r => (keyOf x).bind fun k => (keysOf r).bind fun l => some ((k, y) :: l)
noncomputable def RelP (K : PySem.W.Frag) (F : Hp) : List (PyData × PyData) → List (V × V) → Prop
  | [], ps => ps = []
  | (x, y) :: r, ps => ∃ u v t, ps = (u, v) :: t ∧ Rel K F x u ∧ Rel K F y v ∧ RelP K F r t
noncomputable def mergeP (acc more : List (Key × PyData)) : List (Key × PyData) := more.foldl (fun acc kv => putP acc kv.1 kv.2) acc
noncomputable def sSetDL (i : Nat) (ps : List PF) : En → Option Out := fun η => (evP ps η).bind fun es => (keysOf es).bind fun kvs => if kvs.length ≤ 15 then some (.nx (η.set i (.odc (mergeP [] kvs)))) else none
end
end L2.PU
namespace L2.PU
open PySem PySem.Spec PyProof.Rows
noncomputable def Itel (K : PySem.W.Frag) (l : Addr) (n : Nat) : It :=
  ⟨fun i H => i < n ∧ ∃ xs x, SqL K H l xs ∧ xs.length = n ∧ xs[i]? = some x, fun i H v H' => ∃ T x, H T = none ∧ (∀ xs, SqL K H l xs → xs[i]? = some x) ∧ v = .ref T ∧ H' = upd H T (.tup [.int (i : Nat), x]), fun i H => i = n ∧ ∃ xs, SqL K H l xs ∧ xs.length = n⟩
section
variable {X : Cx} {B : Bd} {a : Expr} {fs : En → Option (List PyData)} {pos pp : Pos}
noncomputable def enL (ds : List PyData) : Option (List PyData) := match ds with
  | [.list xs] => some (enumD xs 0)
  | _ => none
end
end L2.PU
namespace L2.PU
open PySem PySem.Spec PyProof.Rows
section
variable {X : Cx} {B : Bd} {e : Expr} {f g : En → Option PyData} {fs : En → Option (List PyData)} {pos pp : Pos}
noncomputable def keysP (es : List (PyData × PyData)) : List PyData := es.map (·.1)
noncomputable def rListD : List V → Hp → VK → Prop := fun xs H Q => ∃ (p : Addr) (ks : List (Key × V)), xs = [.ref p] ∧ Rd H p (.dK ks) ∧ ∀ l, H l = none → Q (.ref l) (upd H l (.lst (ks.map fun kv => kV kv.1)))
noncomputable def pListD (ds : List PyData) : Option PyData := match ds with
  | [.dict es] => some (.list (keysP es))
  | _ => none
noncomputable def rSortDI : List V → Hp → VK → Prop := fun xs H Q => ∃ (p : Addr) (ks : List (Key × V)) (ns : List Int), xs = [.ref p] ∧ Rd H p (.dK ks) ∧ ks.map (·.1) = ns.map Sum.inl ∧ ns.length < 64 ∧ ∀ l, H l = none → Q (.ref l) (upd H l (.lst ((srtI ns).map V.int)))
noncomputable def pSortD (ds : List PyData) : Option PyData := match ds with
  | [.dict es] => (asIs (keysP es)).bind fun ns => if ns.length < 64 then some (.list ((srtI ns).map PyData.int)) else none
  | _ => none
noncomputable def delP (kvs : List (Key × PyData)) (k : Key) : List (Key × PyData) := kvs.filter fun kv => decide (kv.1 ≠ k)
noncomputable def sPopD (i : Nat) (g : En → Option PyData) : En → Option Out := fun η => (g η).bind fun y => (keyOf y).bind fun k => match η[i]? with
  | some (.odc kvs) => if (lookD (prs kvs) k).isSome = true then some (.nx (η.set i (.odc (delP kvs k)))) else none
  | _ => none
end
end L2.PU
namespace L2.PU
open PySem PySem.Spec PyProof.Rows
mutual
noncomputable def cst : Expr → Option PyData
  | .Constant (.int i) _ _ => some (.int i)
  | .Constant (.str x) _ _ => some (.str x)
  | .Constant (.bool b) _ _ => some (.bool b)
  | .Constant .none _ _ => some .none
  | .UnaryOp .USub a _ => (cst a).bind pNeg
  | .Tuple es _ _ => (csts es).bind fun ds => if ds.length ≤ 1000 then some (.tuple ds) else none
  | .List es _ => (csts es).bind fun ds => if ds.length ≤ 1000 then some (.list ds) else none
  | _ => none
noncomputable def csts : List Expr → Option (List PyData)
  | [] => some []
  | e :: r => (cst e).bind fun d => (csts r).bind fun ds => some (d :: ds)
end
theorem cst_nst {e : Expr} {d : PyData} (h : cst e = some d) : nst e = true := by
  cases e <;> first | rfl | (unfold cst at h; cases h)
section
variable {X : Cx} {B : Bd}
theorem big1000 {n : Nat} (h : n ≤ 1000) : n ≤ sizeLine := Nat.le_trans h (by show 1000 ≤ 2 ^ 24; decide)
theorem E.same {e : Expr} {f g : En → Option PyData} (h : E X B e f) (k : ∀ η, g η = f η) : E X B e g := by
  have : g = f := funext k
  rw [this]; exact h
theorem A.same {e : List Expr} {f g : En → Option (List PyData)} (h : A X B e f) (k : ∀ η, g η = f η) : A X B e g := by
  have : g = f := funext k
  rw [this]; exact h
mutual
theorem cst_ok : ∀ {e : Expr} {d : PyData}, cst e = some d → E X B e (eC d)
  | .Constant (.int i) _ _, d, h => by unfold cst at h; cases h; exact E.int
  | .Constant (.str x) _ _, d, h => by unfold cst at h; cases h; exact E.str
  | .Constant (.bool b) _ _, d, h => by unfold cst at h; cases h; exact E.bl
  | .Constant .none _ _, d, h => by unfold cst at h; cases h; exact E.non
  | .UnaryOp .USub a _, d, h => by
    unfold cst at h
    obtain ⟨x, h1, h2⟩ := bind_some h
    exact E.same (E.neg (cst_ok h1)) fun η => h2.symm
  | .Tuple es _ _, d, h => by
    unfold cst at h
    obtain ⟨ds, h1, h2⟩ := bind_some h
    split at h2
    · rename_i hl
      cases h2
      exact E.same (E.tup (csts_ok h1)) fun η => (if_pos (big1000 hl)).symm
    · cases h2
  | .List es _, d, h => by
    unfold cst at h
    obtain ⟨ds, h1, h2⟩ := bind_some h
    split at h2
    · rename_i hl
      cases h2
      refine E.same (EO.toE (EO.lst (csts_ok h1))) fun η => ?_
      show some (PyData.list ds) = ((gL ds).bind fun ds => some (PyData.list ds))
      unfold gL
      rw [if_pos (big1000 hl)]; rfl
    · cases h2
theorem csts_ok : ∀ {es : List Expr} {ds : List PyData}, csts es = some ds → A X B es (fun _ => some ds)
  | [], ds, h => by unfold csts at h; cases h; exact A.nil
  | e :: r, ds, h => by
    unfold csts at h
    obtain ⟨d, h1, h⟩ := bind_some h
    obtain ⟨ds', h2, h⟩ := bind_some h
    cases h
    exact A.same (A.cons (cst_ok h1) (csts_ok h2) (star_of (cst_nst h1))) fun η => rfl
end
theorem E.cst {e : Expr} {d : PyData} (h : PU.cst e = some d) : E X B e (eC d) := cst_ok h
end
end L2.PU
namespace L2.PU
open PySem PySem.Spec PyProof.Rows
noncomputable def Itz (K : PySem.W.Frag) (l1 l2 : Addr) (n : Nat) : It :=
  ⟨fun i H => i < n ∧ ∃ xs ys x y, SqL K H l1 xs ∧ SqL K H l2 ys ∧ min xs.length ys.length = n ∧ xs[i]? = some x ∧ ys[i]? = some y,
   fun i H v H' => ∃ T x y, H T = none ∧ (∀ xs, SqL K H l1 xs → xs[i]? = some x) ∧ (∀ ys, SqL K H l2 ys → ys[i]? = some y) ∧ v = .ref T ∧ H' = upd H T (.tup [x, y]),
   fun i H => i = n ∧ ∃ xs ys, SqL K H l1 xs ∧ SqL K H l2 ys ∧ min xs.length ys.length = n⟩
section
variable {X : Cx} {B : Bd} {a b : Expr} {fs : En → Option (List PyData)} {pos pp : Pos}
noncomputable def zpD : List PyData → List PyData → List PyData
  | x :: xs, y :: ys => .tuple [x, y] :: zpD xs ys
  | _, _ => []
noncomputable def zpL (ds : List PyData) : Option (List PyData) := match ds with
  | [.list xs, .list ys] => some (zpD xs ys)
  | _ => none
end
section
variable {X : Cx} {B : Bd} {e : Expr} {fs : En → Option (List PyData)} {pos pp : Pos}
noncomputable def rListL (K : PySem.W.Frag) : List V → Hp → VK → Prop := fun xs H Q => ∃ (p : Addr) (ys : List V), xs = [.ref p] ∧ SqL K H p ys ∧ ∀ l, H l = none → Q (.ref l) (upd H l (.lst ys))
theorem call_listL : CallR X (.type "list") (rListL X.K) := by
  intro pins s σ H xs us Q I r h
  obtain ⟨p, ys, rfl, hp, q⟩ := h
  obtain ⟨u, rfl, ru⟩ := vals1 r
  cases ru
  obtain ⟨its, rv, pl, hz⟩ := I.list hp
  obtain ⟨o, ho, hc, n, hd⟩ := pl.isList
  have hz' : ys.length ≤ sizeLine := by first | exact hz | (rw [rv.length]; exact hz)
  refine call_list_seq (hsz := by rw [List.size_toArray, ← rv.length]; exact hz') p (.inl rfl) ho hc hd fun h' c' hk hD => ?_
  exact ⟨.ref s.heap.objs.size, _, I.laid (t' := s.toks) hk (Nat.le_refl _) (o := .lst ys) ⟨hz', its, c', rv, hD⟩, rfl, q _ (I.hok.fresh (Nat.le_refl _))⟩
noncomputable def pListL (ds : List PyData) : Option PyData := match ds with
  | [.list xs] => some (.list xs)
  | _ => none
noncomputable def sBk : En → Option Out := fun η => some (.bk η)
end
end L2.PU
namespace L2.PU
open PySem PySem.Spec PyProof.Rows
inductive D where
  | d (x : PyData)
  | r (n : Nat)
inductive Cell where
  | obj (k : Nat) (fs : List (Str × D))
  | lst (ds : List D)
  | dct (kvs : List (Key × D))
  | fz (x : PyData)
noncomputable abbrev Sto := List Cell
noncomputable abbrev MEn := List (Option D)
noncomputable def DR (K : PySem.W.Frag) (θ : List Addr) (F : Hp) : D → V → Prop
  | .d x, v => Rel K F x v
  | .r n, v => ∃ a, θ[n]? = some a ∧ v = .ref a
noncomputable abbrev DRs (K : PySem.W.Frag) (θ : List Addr) (F : Hp) : List D → List V → Prop := Paired (DR K θ F)
noncomputable abbrev DRf (K : PySem.W.Frag) (θ : List Addr) (F : Hp) : List (Str × D) → List (Str × V) → Prop := Paired fun p q => p.1 = q.1 ∧ DR K θ F p.2 q.2
noncomputable abbrev DRk (K : PySem.W.Frag) (θ : List Addr) (F : Hp) : List (Key × D) → List (Key × V) → Prop := Paired fun p q => p.1 = q.1 ∧ DR K θ F p.2 q.2
noncomputable def CelR (K : PySem.W.Frag) (cl : Nat → Addr) (θ : List Addr) (F H : Hp) (a : Addr) : Cell → Prop
  | .obj k fs => F a = none ∧ Cls K (cl k) ∧ (∀ f ∈ fs.map (·.1), NoAttr K (cl k) f) ∧ ∃ dx xs, H a = some (.ins (cl k) dx xs) ∧ DRf K θ F fs xs
  | .lst ds => F a = none ∧ ∃ xs, H a = some (.lst xs) ∧ DRs K θ F ds xs
  | .dct kvs => F a = none ∧ ∃ ks, H a = some (.dK ks) ∧ DRk K θ F kvs ks
  | .fz x => Rel K F x (.ref a) ∧ ∃ o, H a = some o
structure MR (K : PySem.W.Frag) (cl : Nat → Addr) (θ : List Addr) (F H : Hp) (s : Sto) : Prop where
  sm : Same F H
  len : θ.length = s.length
  nd : θ.Nodup
  cel : ∀ (n : Nat) a c, θ[n]? = some a → s[n]? = some c → CelR K cl θ F H a c
structure MV (K : PySem.W.Frag) (θ : List Addr) (F : Hp) (σ : St) (η : MEn) : Prop where
  len : η.length = σ.length
  val : ∀ (i : Nat) d, η[i]? = some (some d) → ∃ v, σ[i]? = some (some v) ∧ DR K θ F d v
section
variable {K : PySem.W.Frag} {cl : Nat → Addr} {θ θ' : List Addr} {F F' H H' : Hp} {s : Sto} {σ : St} {η : MEn}
theorem pre_get {α : Type} {l l' : List α} (h : l <+: l') {n : Nat} {a : α} (e : l[n]? = some a) : l'[n]? = some a := by
  obtain ⟨t, rfl⟩ := h
  rw [List.getElem?_append_left (List.getElem?_eq_some_iff.mp e).1]; exact e
theorem DR.mono (hp : θ <+: θ') (hs : Same F F') : ∀ {d : D} {v : V}, DR K θ F d v → DR K θ' F' d v
  | .d _, _, h => Rel.mono hs h
  | .r _, _, ⟨a, e1, e2⟩ => ⟨a, pre_get hp e1, e2⟩
theorem DRs.mono (hp : θ <+: θ') (hs : Same F F') {ds : List D} {vs : List V} (h : DRs K θ F ds vs) : DRs K θ' F' ds vs := Paired.mapP h fun _ _ r => DR.mono hp hs r
theorem DRf.mono (hp : θ <+: θ') (hs : Same F F') {ds : List (Str × D)} {vs : List (Str × V)} (h : DRf K θ F ds vs) : DRf K θ' F' ds vs := Paired.mapP h fun _ _ r => ⟨r.1, DR.mono hp hs r.2⟩
theorem DRk.mono (hp : θ <+: θ') (hs : Same F F') {ds : List (Key × D)} {vs : List (Key × V)} (h : DRk K θ F ds vs) : DRk K θ' F' ds vs := Paired.mapP h fun _ _ r => ⟨r.1, DR.mono hp hs r.2⟩
theorem MV.mono (hp : θ <+: θ') (hs : Same F F') (h : MV K θ F σ η) : MV K θ' F' σ η := ⟨h.len, fun i d e => let ⟨v, e1, e2⟩ := h.val i d e; ⟨v, e1, e2.mono hp hs⟩⟩
theorem MV.set (h : MV K θ F σ η) (i : Nat) {d : D} {v : V} (r : DR K θ F d v) : MV K θ F (σ.set i (some v)) (η.set i (some d)) := by
  refine ⟨by rw [List.length_set, List.length_set]; exact h.len, fun j d' e => ?_⟩
  by_cases hj : i = j
  · subst hj
    by_cases hl : i < η.length
    · rw [List.getElem?_set_self hl] at e
      have e' : d = d' := Option.some.inj (Option.some.inj e)
      subst e'
      exact ⟨v, by rw [List.getElem?_set_self (by rw [← h.len]; exact hl)], r⟩
    · rw [List.getElem?_eq_none (by rw [List.length_set]; omega)] at e; cases e
  · rw [List.getElem?_set_ne hj] at e ⊢; exact h.val j d' e
theorem DRs.get {ds : List D} {vs : List V} (h : DRs K θ F ds vs) {i : Nat} {d : D} (e : ds[i]? = some d) : ∃ v, vs[i]? = some v ∧ DR K θ F d v := by
  induction h generalizing i with
  | nil => simp at e
  | @cons a b as bs r t ih =>
    cases i with
    | zero => simp at e; subst e; exact ⟨b, rfl, r⟩
    | succ i => exact ih (by simpa using e)
theorem MR.grow (m : MR K cl θ F H s) (g : Gr F H F' H') : MR K cl θ F' H' s where
  sm := g.fh
  len := m.len
  nd := m.nd
  cel := fun n a c e1 e2 => by
    have q := m.cel n a c e1 e2
    have fr : F a = none → ∀ o, H a = some o → F' a = none := fun hF o hH => by
      cases z : F' a with
      | none => rfl
      | some u =>
        rcases g.new a (by rw [z]; simp) with y | y
        · exact absurd hF y
        · rw [hH] at y; cases y
    cases c with
    | obj k fs =>
      obtain ⟨h1, h2, h3, dx, xs, h4, h5⟩ := q
      exact ⟨fr h1 _ h4, h2, h3, dx, xs, g.hh _ _ h4, h5.mono (List.prefix_refl _) g.ff⟩
    | lst ds =>
      obtain ⟨h1, xs, h4, h5⟩ := q
      exact ⟨fr h1 _ h4, xs, g.hh _ _ h4, h5.mono (List.prefix_refl _) g.ff⟩
    | dct kvs =>
      obtain ⟨h1, xs, h4, h5⟩ := q
      exact ⟨fr h1 _ h4, xs, g.hh _ _ h4, h5.mono (List.prefix_refl _) g.ff⟩
    | fz x => exact ⟨Rel.mono g.ff q.1, let ⟨o, e⟩ := q.2; ⟨o, g.hh _ _ e⟩⟩
noncomputable def Mu : Cell → Bool
  | .fz _ => false
  | _ => true
theorem CelR.mut {a : Addr} {c : Cell} (h : CelR K cl θ F H a c) (hm : Mu c = true) : F a = none ∧ ∃ o, H a = some o := by
  cases c with
  | obj k fs => obtain ⟨h1, _, _, dx, xs, h4, _⟩ := h; exact ⟨h1, _, h4⟩
  | lst ds => obtain ⟨h1, xs, h4, _⟩ := h; exact ⟨h1, _, h4⟩
  | dct kvs => obtain ⟨h1, xs, h4, _⟩ := h; exact ⟨h1, _, h4⟩
  | fz x => cases hm
theorem CelR.else {a b : Addr} {o : HO} {c : Cell} (h : CelR K cl θ F H a c) (hne : a ≠ b) : CelR K cl θ F (upd H b o) a c := by
  cases c with
  | obj k fs => obtain ⟨h1, h2, h3, dx, xs, h4, h5⟩ := h; exact ⟨h1, h2, h3, dx, xs, by rw [upd_ne hne]; exact h4, h5⟩
  | lst ds => obtain ⟨h1, xs, h4, h5⟩ := h; exact ⟨h1, xs, by rw [upd_ne hne]; exact h4, h5⟩
  | dct kvs => obtain ⟨h1, xs, h4, h5⟩ := h; exact ⟨h1, xs, by rw [upd_ne hne]; exact h4, h5⟩
  | fz x => exact ⟨h.1, let ⟨o, e⟩ := h.2; ⟨o, by rw [upd_ne hne]; exact e⟩⟩
theorem CelR.pre {a : Addr} {c : Cell} (hp : θ <+: θ') (h : CelR K cl θ F H a c) : CelR K cl θ' F H a c := by
  cases c with
  | obj k fs => obtain ⟨h1, h2, h3, dx, xs, h4, h5⟩ := h; exact ⟨h1, h2, h3, dx, xs, h4, h5.mono hp (.refl _)⟩
  | lst ds => obtain ⟨h1, xs, h4, h5⟩ := h; exact ⟨h1, xs, h4, h5.mono hp (.refl _)⟩
  | dct kvs => obtain ⟨h1, xs, h4, h5⟩ := h; exact ⟨h1, xs, h4, h5.mono hp (.refl _)⟩
  | fz x => exact h
theorem nd_ne {l : List Addr} (h : l.Nodup) {i j : Nat} {a b : Addr} (e1 : l[i]? = some a) (e2 : l[j]? = some b) (hne : i ≠ j) : a ≠ b := fun z => by
  subst z
  obtain ⟨l1, q1⟩ := List.getElem?_eq_some_iff.mp e1
  obtain ⟨l2, q2⟩ := List.getElem?_eq_some_iff.mp e2
  have pw := List.pairwise_iff_getElem.mp h
  rcases Nat.lt_or_gt_of_ne hne with z | z
  · exact pw i j l1 l2 z (q1.trans q2.symm)
  · exact pw j i l2 l1 z (q2.trans q1.symm)
theorem MR.put (m : MR K cl θ F H s) {n : Nat} {a : Addr} {c c' : Cell} {o : HO} (e1 : θ[n]? = some a) (e2 : s[n]? = some c) (hm : Mu c = true) (h : CelR K cl θ F (upd H a o) a c') : MR K cl θ F (upd H a o) (s.set n c') where
  sm := fun b u q => by
    have nb : b ≠ a := ne_of_none q (CelR.mut (m.cel n a c e1 e2) hm).1
    rw [upd_ne nb]; exact m.sm b u q
  len := by rw [List.length_set]; exact m.len
  nd := m.nd
  cel := fun k b c2 f1 f2 => by
    by_cases hk : n = k
    · subst hk
      rw [List.getElem?_set_self (List.getElem?_eq_some_iff.mp e2).1] at f2
      cases f2
      rw [e1] at f1
      cases f1
      exact h
    · rw [List.getElem?_set_ne hk] at f2
      exact (m.cel k b c2 f1 f2).else (nd_ne m.nd f1 e1 (Ne.symm hk))
theorem CelR.there {a : Addr} {c : Cell} (h : CelR K cl θ F H a c) : ∃ o, H a = some o := by
  cases c with
  | obj k fs => obtain ⟨_, _, _, dx, xs, h4, _⟩ := h; exact ⟨_, h4⟩
  | lst ds => obtain ⟨_, xs, h4, _⟩ := h; exact ⟨_, h4⟩
  | dct kvs => obtain ⟨_, xs, h4, _⟩ := h; exact ⟨_, h4⟩
  | fz x => exact h.2
theorem MR.ne (m : MR K cl θ F H s) {a : Addr} (ha : H a = none) {k : Nat} {b : Addr} (e : θ[k]? = some b) : b ≠ a := fun z => by
  subst z
  have hk : k < s.length := by rw [← m.len]; exact (List.getElem?_eq_some_iff.mp e).1
  obtain ⟨o, h⟩ := (m.cel k b _ e (List.getElem?_eq_getElem hk)).there
  rw [ha] at h; cases h
theorem MR.new (m : MR K cl θ F H s) {a : Addr} {c : Cell} {o : HO} (ha : H a = none) (h : CelR K cl (θ ++ [a]) F (upd H a o) a c) : MR K cl (θ ++ [a]) F (upd H a o) (s ++ [c]) where
  sm := fun b u q => by
    have nb : b ≠ a := ne_of_none q (m.sm.free ha)
    rw [upd_ne nb]; exact m.sm b u q
  len := by rw [List.length_append, List.length_append, m.len]; rfl
  nd := by
    rw [List.nodup_append]
    refine ⟨m.nd, by simp, fun b hb b' hb' => ?_⟩
    rw [List.mem_singleton.mp hb']
    obtain ⟨k, hk⟩ := List.getElem?_of_mem hb
    exact m.ne ha hk
  cel := fun k b c2 f1 f2 => by
    by_cases hk : k < θ.length
    · rw [List.getElem?_append_left hk] at f1
      rw [List.getElem?_append_left (by rw [← m.len]; exact hk)] at f2
      exact ((m.cel k b c2 f1 f2).else (m.ne ha f1)).pre (List.prefix_append _ _)
    · have hk1 : k = θ.length := by
        have := (List.getElem?_eq_some_iff.mp f1).1
        rw [List.length_append] at this
        have e1 : [a].length = 1 := rfl
        omega
      subst hk1
      rw [List.getElem?_append_right (Nat.le_refl _), Nat.sub_self] at f1
      rw [List.getElem?_append_right (by rw [m.len]; exact Nat.le_refl _), m.len, Nat.sub_self] at f2
      cases f1
      cases f2
      exact h
theorem MR.more (m : MR K cl θ F H s) {a : Addr} {o : HO} (ha : H a = none) : MR K cl θ F (upd H a o) s where
  sm := fun b u q => by
    have nb : b ≠ a := ne_of_none q (m.sm.free ha)
    rw [upd_ne nb]; exact m.sm b u q
  len := m.len
  nd := m.nd
  cel := fun k b c f1 f2 => (m.cel k b c f1 f2).else (m.ne ha f1)
end
end L2.PU
namespace L2.PU
open PySem PySem.Spec PyProof.Rows
structure Wd where
  η : MEn
  s : Sto
noncomputable def pD (s : Sto) : D → Option PyData
  | .d x => some x
  | .r n => match s[n]? with | some (.fz x) => some x | _ => none
noncomputable def dOnly : D → Option PyData
  | .d x => some x
  | .r _ => none
noncomputable def dAll : List D → Option (List PyData)
  | [] => some []
  | d :: r => (dOnly d).bind fun x => (dAll r).bind fun xs => some (x :: xs)
noncomputable def dKvs : List (Key × D) → Option (List (Key × PyData))
  | [] => some []
  | (k, d) :: r => (dOnly d).bind fun x => (dKvs r).bind fun xs => some ((k, x) :: xs)
noncomputable def lD (s : Sto) : D → Option PyData
  | .d x => some x
  | .r n => match s[n]? with
    | some (.fz x) => some x
    | some (.lst ds) => (dAll ds).bind fun xs => some (.list xs)
    | some (.dct kvs) => (dKvs kvs).bind fun xs => some (.dict (prs xs))
    | _ => none
noncomputable def vwS (g : D → Option PyData) (s : Sto) : Option D → Sl
  | none => .un
  | some (.d x) => .val x
  | some (.r n) => match s[n]? with
    | some (.obj _ fs) => .ob fun f => (fs.lookup f).bind g
    | _ => match g (.r n) with | some x => .val x | none => .un
noncomputable def vw (w : Wd) : En := w.η.map (vwS (pD w.s) w.s)
noncomputable def vwL (w : Wd) : En := w.η.map (vwS (lD w.s) w.s)
section
variable {K : PySem.W.Frag} {cl : Nat → Addr} {θ θ' : List Addr} {F F' H H' : Hp} {s : Sto} {σ : St} {η : MEn} {w : Wd}
theorem DRf.look {fs : List (Str × D)} {xs : List (Str × V)} (h : DRf K θ F fs xs) (f : Str) : (∀ d, fs.lookup f = some d → ∃ v, xs.lookup f = some v ∧ DR K θ F d v) ∧ (fs.lookup f = none → xs.lookup f = none) := by
  induction h with
  | nil => exact ⟨fun d e => (by cases e), fun _ => rfl⟩
  | @cons a b as bs r t ih =>
    obtain ⟨ka, da⟩ := a
    obtain ⟨kb, vb⟩ := b
    have e : ka = kb := r.1
    subst e
    by_cases hk : f = ka
    · subst hk
      simp only [List.lookup_cons_self]
      exact ⟨fun d e => (by cases e; exact ⟨vb, rfl, r.2⟩), fun e => (by cases e)⟩
    · have hb : (f == ka) = false := by simpa using hk
      simp only [List.lookup_cons, hb]
      exact ih
theorem look_mem {fs : List (Str × D)} {f : Str} {d : D} (h : fs.lookup f = some d) : f ∈ fs.map (·.1) := by
  induction fs with
  | nil => cases h
  | cons a r ih =>
    obtain ⟨k, x⟩ := a
    by_cases hk : f = k
    · subst hk; simp
    · have hb : (f == k) = false := by simpa using hk
      simp only [List.lookup_cons, hb] at h
      exact List.mem_cons_of_mem _ (ih h)
noncomputable def Sees (K : PySem.W.Frag) (θ : List Addr) (F Fv : Hp) (g : D → Option PyData) : Prop := ∀ d x v, g d = some x → DR K θ F d v → Rel K Fv x v
theorem vw_sr {g : D → Option PyData} {Fv : Hp} (m : MR K cl θ F H s) (e : MV K θ F σ η) (hs : Same Fv H) (hg : Sees K θ F Fv g) (hd : ∀ x, g (.d x) = some x) : SR K ⟨Fv, H⟩ Fv H σ (η.map (vwS g s)) := by
  have no : ∀ (i : Nat) a, (η.map (vwS g s))[i]? = some a → isOwn a = false := fun i a q => by
    rw [List.getElem?_map] at q
    cases h : η[i]? with
    | none => rw [h] at q; cases q
    | some o =>
      rw [h] at q
      have q' : vwS g s o = a := Option.some.inj q
      subst q'
      unfold vwS
      split
      · rfl
      · rfl
      · split
        · rfl
        · split <;> rfl
  refine ⟨.refl hs, ⟨by rw [List.length_map]; exact e.len, fun i x q => ?_, fun i a q ha => (by rw [no i a q] at ha; cases ha), fun i _ a _ q _ ha _ _ => (by rw [no i a q] at ha; cases ha), fun i fs q => ?_⟩⟩
  · rw [List.getElem?_map] at q
    cases h : η[i]? with
    | none => rw [h] at q; cases q
    | some o =>
      rw [h] at q
      have q' : vwS g s o = .val x := Option.some.inj q
      unfold vwS at q'
      split at q'
      · cases q'
      · rename_i y
        have : y = x := by injection q'
        subst this
        obtain ⟨v, e1, e2⟩ := e.val i _ h
        exact ⟨v, e1, hg _ _ _ (hd y) e2⟩
      · rename_i n
        split at q'
        · cases q'
        · split at q'
          · rename_i y hy
            have : y = x := by injection q'
            subst this
            obtain ⟨v, e1, e2⟩ := e.val i _ h
            exact ⟨v, e1, hg _ _ _ hy e2⟩
          · cases q'
  · rw [List.getElem?_map] at q
    cases h : η[i]? with
    | none => rw [h] at q; cases q
    | some o =>
      rw [h] at q
      have q' : vwS g s o = .ob fs := Option.some.inj q
      unfold vwS at q'
      split at q'
      · cases q'
      · cases q'
      · rename_i n
        split at q'
        · rename_i k fs0 hc
          have : (fun f => (fs0.lookup f).bind g) = fs := by injection q'
          subst this
          obtain ⟨v, e1, a, e2, e3⟩ := e.val i _ h
          subst e3
          obtain ⟨h1, h2, h3, dx, xs, h4, h5⟩ := m.cel n a _ e2 hc
          refine ⟨a, cl k, dx, xs, e1, h4, h2, fun f d hf => ?_⟩
          obtain ⟨D', hl, hx⟩ := bind_some hf
          obtain ⟨v, e5, e6⟩ := (h5.look f).1 D' hl
          exact ⟨h3 f (look_mem hl), v, e5, hg _ _ _ hx e6⟩
        · split at q' <;> cases q'
theorem sees_p (m : MR K cl θ F H s) : Sees K θ F F (pD s) := fun d x v h r => by
  cases d with
  | d y => cases h; exact r
  | r n =>
    have h : (match s[n]? with | some (.fz x) => some x | _ => none) = some x := h
    split at h
    · rename_i y hy
      cases h
      obtain ⟨a, e1, e2⟩ := r
      subst e2
      exact (m.cel n a _ e1 hy).1
    · cases h
theorem MR.vw (m : MR K cl θ F H w.s) (e : MV K θ F σ w.η) : SR K ⟨F, H⟩ F H σ (vw w) := vw_sr m e m.sm (sees_p m) fun _ => rfl
noncomputable def lentH (θ : List Addr) (F H : Hp) : Hp := fun b => match F b with | some o => some o | none => if b ∈ θ then H b else none
theorem lent_of (θ : List Addr) (F H : Hp) : Same F (lentH θ F H) := fun b u q => by unfold lentH; rw [q]
theorem lent_in {θ : List Addr} {F H : Hp} (h : Same F H) : Same (lentH θ F H) H := fun b u q => by
  unfold lentH at q
  split at q
  · rename_i o ho; rw [← q]; exact h _ _ ho
  · split at q
    · exact q
    · cases q
theorem lent_at {θ : List Addr} {F H : Hp} {n : Nat} {a : Addr} {o : HO} (e : θ[n]? = some a) (hF : F a = none) (hH : H a = some o) : lentH θ F H a = some o := by
  unfold lentH
  rw [hF]
  dsimp only
  rw [if_pos (List.mem_of_getElem? e)]; exact hH
theorem dAll_rel {ds : List D} {xs : List V} (h : DRs K θ F ds xs) : ∀ {ys : List PyData}, dAll ds = some ys → RelL K F ys xs := by
  induction h with
  | nil => intro ys e; cases e; exact .nil
  | @cons a b as bs r t ih =>
    intro ys e
    unfold dAll at e
    obtain ⟨x, h1, e⟩ := bind_some e
    obtain ⟨zs, h2, e⟩ := bind_some e
    cases e
    cases a with
    | d y => cases h1; exact .cons r (ih h2)
    | r n => cases h1
theorem dKvs_rel {ds : List (Key × D)} {xs : List (Key × V)} (h : DRk K θ F ds xs) : ∀ {ys : List (Key × PyData)}, dKvs ds = some ys → RelD K F (prs ys) xs := by
  induction h with
  | nil => intro ys e; cases e; exact .nil
  | @cons a b as bs r t ih =>
    intro ys e
    obtain ⟨ka, da⟩ := a
    obtain ⟨kb, vb⟩ := b
    have hk : ka = kb := r.1
    subst hk
    unfold dKvs at e
    obtain ⟨x, h1, e⟩ := bind_some e
    obtain ⟨zs, h2, e⟩ := bind_some e
    cases e
    cases da with
    | d y => cases h1; exact RelD.cons r.2 (ih h2)
    | r n => cases h1
theorem sees_l (m : MR K cl θ F H s) : Sees K θ F (lentH θ F H) (lD s) := fun d x v h r => by
  have sm := lent_of θ F H
  cases d with
  | d y => cases h; exact Rel.mono sm r
  | r n =>
    have h : (match s[n]? with | some (.fz x) => some x | some (.lst ds) => (dAll ds).bind fun xs => some (.list xs) | some (.dct kvs) => (dKvs kvs).bind fun xs => some (.dict (prs xs)) | _ => none) = some x := h
    obtain ⟨a, e1, e2⟩ := r
    subst e2
    split at h
    · rename_i y hy
      cases h
      exact Rel.mono sm (m.cel n a _ e1 hy).1
    · rename_i ds hy
      obtain ⟨ys, h1, h2⟩ := bind_some h
      cases h2
      obtain ⟨q1, xs, q2, q3⟩ := m.cel n a _ e1 hy
      exact rel_lst (SqL.of (lent_at e1 q1 q2)) ((dAll_rel q3 h1).mono sm)
    · rename_i kvs hy
      obtain ⟨ys, h1, h2⟩ := bind_some h
      cases h2
      obtain ⟨q1, ks, q2, q3⟩ := m.cel n a _ e1 hy
      exact rel_dct (.inl (lent_at e1 q1 q2)) ((dKvs_rel q3 h1).mono sm)
    · cases h
end
end L2.PU
namespace L2.PU
open PySem PySem.Spec PyProof.Rows
noncomputable abbrev MF := Wd → Option (D × Sto)
noncomputable abbrev MFs := Wd → Option (List D × Sto)
section
variable (K : PySem.W.Frag) (cl : Nat → Addr)
noncomputable def tM (f : MF) : TE := fun σ H Q => ∃ θ F w d s', MR K cl θ F H w.s ∧ MV K θ F σ w.η ∧ f w = some (d, s') ∧ ∀ v θ' F' H', θ <+: θ' → Same F F' → MR K cl θ' F' H' s' → DR K θ' F' d v → Q v H'
noncomputable def tMT (f : Wd → Option (Bool × Sto)) : TT := fun σ H Q => ∃ θ F w b s', MR K cl θ F H w.s ∧ MV K θ F σ w.η ∧ f w = some (b, s') ∧ ∀ θ' F' H', θ <+: θ' → Same F F' → MR K cl θ' F' H' s' → Q b H'
noncomputable def tMA (f : MFs) : TA := fun σ H Q => ∃ θ F w ds s', MR K cl θ F H w.s ∧ MV K θ F σ w.η ∧ f w = some (ds, s') ∧ ∀ vs θ' F' H', θ <+: θ' → Same F F' → MR K cl θ' F' H' s' → DRs K θ' F' ds vs → Q vs H'
end
noncomputable def ME (X : Cx) (cl : Nat → Addr) (e : Expr) (f : MF) : Prop := PE X e (tM X.K cl f)
noncomputable abbrev MTF := Wd → Option (Bool × Sto)
noncomputable def MT (X : Cx) (cl : Nat → Addr) (e : Expr) (f : MTF) : Prop := PT X e (tMT X.K cl f)
noncomputable def MTW (X : Cx) (cl : Nat → Addr) (e : Expr) (f : MTF) : Prop := PW X e (tMT X.K cl f)
noncomputable def MA (X : Cx) (cl : Nat → Addr) (es : List Expr) (f : MFs) : Prop := PA X es (tMA X.K cl f)
noncomputable def mP (f : En → Option PyData) : MF := fun w => (f (vw w)).bind fun x => some (.d x, w.s)
noncomputable def mL (f : En → Option PyData) : MF := fun w => (f (vwL w)).bind fun x => if flatD x = true then some (.d x, w.s) else none
noncomputable def mLO (f : En → Option (List PyData)) : MF := fun w => (f (vwL w)).bind fun xs => if xs.all flatD = true then some (.d (.list xs), w.s) else none
noncomputable def mN (f : En → Option (List PyData)) : MF := fun w => (f (vw w)).bind fun xs => some (.r w.s.length, w.s ++ [.lst (xs.map .d)])
noncomputable def mV (i : Nat) : MF := fun w => match w.η[i]? with | some (some d) => some (d, w.s) | _ => none
noncomputable def tPv (f : En → Option Bool) : MTF := fun w => (f (vw w)).bind fun b => some (b, w.s)
noncomputable def tPl (f : En → Option Bool) : MTF := fun w => (f (vwL w)).bind fun b => some (b, w.s)
section
variable {X : Cx} {cl : Nat → Addr} {a b c e o : Expr} {es : List Expr} {f g : MF} {fs : MFs} {p : En → Option PyData} {ps : En → Option (List PyData)} {pt : En → Option Bool} {pos : Pos}
theorem ME.pu (h : ∀ B, E X B e p) : ME X cl e (mP p) := fun pins s σ H Q I ⟨θ, F, w, d, s', m, v, hf, q⟩ => by
  obtain ⟨x, hx, hf⟩ := bind_some hf
  cases hf
  exact h ⟨F, H⟩ pins s σ H Q I ⟨F, vw w, x, m.vw v, hx, fun u F' H' g r => q u θ F' H' (List.prefix_refl _) g.ff (m.grow g) r⟩
theorem list_in {K : PySem.W.Frag} {F H F' H' : Hp} {p : Addr} {xs : List V} {ds : List PyData} (sm : Same F H) (g : Gr F H F' H') (hp : H p = none) (fp : F' p = none) (hp' : H' p = some (.lst xs)) (rs : RelL K F' ds xs) : Gr F H (upd F' p (.lst xs)) H' ∧ Rel K (upd F' p (.lst xs)) (.list ds) (.ref p) := by
  have sn := same_new (H := F') fp (.lst xs)
  refine ⟨⟨g.ff.trans sn, g.hh, fun b u z => ?_, fun b z => ?_⟩, rel_lst (SqL.of upd_same) (rs.mono sn)⟩
  · by_cases e : b = p
    · subst e; rw [upd_same] at z; rw [← z]; exact hp'
    · rw [upd_ne e] at z; exact g.fh _ _ z
  · by_cases e : b = p
    · subst e; exact .inr hp
    · rw [upd_ne e] at z; exact g.new b z
theorem rel_ds {K : PySem.W.Frag} {θ : List Addr} {F : Hp} : ∀ {xs : List PyData} {vs : List V}, RelL K F xs vs → DRs K θ F (xs.map .d) vs
  | [], _, h => by rw [h.nil_of]; exact .nil
  | x :: xs, vs, h => by
    obtain ⟨v, r, rfl, h1, h2⟩ := h.cons_of
    exact .cons h1 (rel_ds h2)
theorem ME.nw (h : ∀ B, EO X B e ps) : ME X cl e (mN ps) := fun pins s σ H Q I ⟨θ, F, w, d, s', m, v, hf, q⟩ => by
  obtain ⟨x, hx, hf⟩ := bind_some hf
  cases hf
  refine h ⟨F, H⟩ pins s σ H Q I ⟨F, vw w, x, m.vw v, hx, fun p xs F' H' g hp fp hp' rs => ?_⟩
  have m1 := m.grow g
  have na : ∀ (k : Nat) b, θ[k]? = some b → b ≠ p := fun k b e => m.ne hp e
  have pre : θ <+: θ ++ [p] := List.prefix_append _ _
  refine q _ (θ ++ [p]) F' H' pre g.ff ⟨m1.sm, by rw [List.length_append, List.length_append, m1.len]; rfl, ?_, fun k b c2 f1 f2 => ?_⟩ ⟨p, by rw [← m.len, List.getElem?_append_right (Nat.le_refl _), Nat.sub_self]; rfl, rfl⟩
  · rw [List.nodup_append]
    refine ⟨m.nd, by simp, fun b hb b' hb' => ?_⟩
    rw [List.mem_singleton.mp hb']
    obtain ⟨k, hk⟩ := List.getElem?_of_mem hb
    exact na k b hk
  · by_cases hk : k < θ.length
    · rw [List.getElem?_append_left hk] at f1
      rw [List.getElem?_append_left (by rw [← m.len]; exact hk)] at f2
      exact (m1.cel k b c2 f1 f2).pre pre
    · have hk1 : k = θ.length := by
        have := (List.getElem?_eq_some_iff.mp f1).1
        rw [List.length_append] at this
        have e1 : [p].length = 1 := rfl
        omega
      subst hk1
      rw [List.getElem?_append_right (Nat.le_refl _), Nat.sub_self] at f1
      rw [List.getElem?_append_right (by rw [m.len]; exact Nat.le_refl _), m.len, Nat.sub_self] at f2
      cases f1
      cases f2
      exact ⟨fp, xs, hp', rel_ds rs⟩
theorem ME.v (i : Nat) {x : Str} (hN : X.N[i]? = some x := by rfl) (hv : Vis X.env.scope x := by first | exact Or.inl rfl | exact Or.inr (Or.inl rfl) | exact Or.inr (Or.inr rfl)) (hd : (x == ("__debug__" : Str)) = false := by decide)
    (hcd : (x == ("__classdict__" : Str)) = false := by decide) : ME X cl (.Name x pos) (mV i) :=
  PE.imp (pe_var hN hv hd hcd) fun σ H Q ⟨θ, F, w, d, s', m, v, hf, q⟩ => by
    unfold mV at hf
    split at hf
    · rename_i d' e
      cases hf
      obtain ⟨u, e1, e2⟩ := v.val i _ e
      exact ⟨u, e1, q u θ F H (List.prefix_refl _) (.refl _) m e2⟩
    · cases hf
theorem MT.pu (h : ∀ B, T X B e pt) : MT X cl e (tPv pt) := fun pins s σ H Q I ⟨θ, F, w, b, s', m, v, hf, q⟩ => by
  obtain ⟨c, hx, hf⟩ := bind_some hf
  cases hf
  exact h ⟨F, H⟩ pins s σ H Q I ⟨F, vw w, _, m.vw v, hx, fun F' H' g => q θ F' H' (List.prefix_refl _) g.ff (m.grow g)⟩
noncomputable def tmNot (f : MTF) : MTF := fun w => (f w).bind fun r => some (!r.1, r.2)
noncomputable def tmAnd (f g : MTF) : MTF := fun w => (f w).bind fun r => if r.1 = true then g ⟨w.η, r.2⟩ else some (false, r.2)
noncomputable def tmOr (f g : MTF) : MTF := fun w => (f w).bind fun r => if r.1 = true then some (true, r.2) else g ⟨w.η, r.2⟩
variable {ta tb : MTF} {rest : List Expr}
theorem MT.not (ha : MT X cl a ta) : MT X cl (.UnaryOp .Not a pos) (tmNot ta) := PT.imp (pt_not ha) fun σ H Q ⟨θ, F, w, b, s', m, v, hf, q⟩ => by
  obtain ⟨⟨c, s1⟩, hx, hf⟩ := bind_some hf
  cases hf
  exact ⟨θ, F, w, c, _, m, v, hx, q⟩
theorem MTW.t (h : MTW X cl a ta) : MT X cl a ta := PW.pt h
theorem MTW.or1 (ha : MT X cl a ta) : MTW X cl (.BoolOp .Or [a] pos) ta := pw_or1 ha
theorem MTW.or (ha : MT X cl a ta) (hb : MTW X cl (.BoolOp .Or (b :: rest) pos) tb) : MTW X cl (.BoolOp .Or (a :: b :: rest) pos) (tmOr ta tb) := PW.imp (pw_or ha hb) fun σ H Q ⟨θ, F, w, b, s', m, v, hf, q⟩ => by
  obtain ⟨⟨c, s1⟩, hx, hf⟩ := bind_some hf
  refine ⟨θ, F, w, c, s1, m, v, hx, fun θ1 F1 H1 p1 q1 m1 => ?_⟩
  cases c with
  | true =>
    rw [if_pos rfl] at hf ⊢
    cases hf
    exact q θ1 F1 H1 p1 q1 m1
  | false =>
    rw [if_neg Bool.false_ne_true] at hf ⊢
    exact ⟨θ1, F1, ⟨w.η, s1⟩, b, s', m1, v.mono p1 q1, hf, fun θ2 F2 H2 p2 q2 m2 => q θ2 F2 H2 (p1.trans p2) (q1.trans q2) m2⟩
noncomputable def mOp (o : PyData → PyData → Option PyData) (f g : MF) : MF := fun w => (f w).bind fun r => (g ⟨w.η, r.2⟩).bind fun q => (pD q.2 r.1).bind fun x => (pD q.2 q.1).bind fun y => (o x y).bind fun z => some (.d z, q.2)
noncomputable def mOpL (o : PyData → PyData → Option PyData) (f g : MF) : MF := fun w => (f w).bind fun r => (g ⟨w.η, r.2⟩).bind fun q => (lD q.2 r.1).bind fun x => (lD q.2 q.1).bind fun y => (o x y).bind fun z => if flatD z = true then some (.d z, q.2) else none
theorem op_of {r : R2} {o : PyData → PyData → Option PyData} (ad : Ad2 X.K r o) : ∀ σ H Q, tM X.K cl (mOp o f g) σ H Q → tOp r (tM X.K cl f) (tM X.K cl g) σ H Q := fun σ H Q ⟨θ, F, w, d, s', m, v, hf, q⟩ => by
  obtain ⟨⟨d1, s1⟩, h1, hf⟩ := bind_some hf
  obtain ⟨⟨d2, s2⟩, h2, hf⟩ := bind_some hf
  obtain ⟨x, hx, hf⟩ := bind_some hf
  obtain ⟨y, hy, hf⟩ := bind_some hf
  obtain ⟨z, hz, hf⟩ := bind_some hf
  cases hf
  refine ⟨θ, F, w, d1, s1, m, v, h1, fun u θ1 F1 H1 p1 q1 m1 r1 => ⟨θ1, F1, ⟨w.η, s1⟩, d2, _, m1, v.mono p1 q1, h2, fun u2 θ2 F2 H2 p2 q2 m2 r2 => ?_⟩⟩
  exact ad F2 H2 u u2 x y z Q m2.sm (sees_p m2 _ _ _ hx (r1.mono p2 q2)) (sees_p m2 _ _ _ hy r2) hz fun t F3 H3 g3 rt => q t θ2 F3 H3 (p1.trans p2) (q1.trans (q2.trans g3.ff)) (m2.grow g3) rt
theorem opL_of {r : R2} {o : PyData → PyData → Option PyData} (ad : Ad2 X.K r o) : ∀ σ H Q, tM X.K cl (mOpL o f g) σ H Q → tOp r (tM X.K cl f) (tM X.K cl g) σ H Q := fun σ H Q ⟨θ, F, w, d, s', m, v, hf, q⟩ => by
  obtain ⟨⟨d1, s1⟩, h1, hf⟩ := bind_some hf
  obtain ⟨⟨d2, s2⟩, h2, hf⟩ := bind_some hf
  obtain ⟨x, hx, hf⟩ := bind_some hf
  obtain ⟨y, hy, hf⟩ := bind_some hf
  obtain ⟨z, hz, hf⟩ := bind_some hf
  split at hf
  · rename_i hfl
    cases hf
    refine ⟨θ, F, w, d1, s1, m, v, h1, fun u θ1 F1 H1 p1 q1 m1 r1 => ⟨θ1, F1, ⟨w.η, s1⟩, d2, _, m1, v.mono p1 q1, h2, fun u2 θ2 F2 H2 p2 q2 m2 r2 => ?_⟩⟩
    exact ad (lentH θ2 F2 H2) H2 u u2 x y z Q (lent_in m2.sm) (sees_l m2 _ _ _ hx (r1.mono p2 q2)) (sees_l m2 _ _ _ hy r2) hz fun t F3 H3 g3 rt => q t θ2 F2 H3 (p1.trans p2) (q1.trans q2) (m2.grow (Gr.back m2.sm g3)) (flat_rel hfl rt)
  · cases hf
theorem ME.op {op : Operator} {r : R2} {oo : PyData → PyData → Option PyData} (ho : OpR X (binaryOp op) r) (ad : Ad2 X.K r oo) (ha : ME X cl a f) (hb : ME X cl b g) : ME X cl (.BinOp a op b pos) (mOp oo f g) := PE.imp (pe_op ho ha hb) (op_of ad)
theorem ME.cmp {op : CmpOp} {r : R2} {oo : PyData → PyData → Option PyData} (ho : OpR X (compareOp op) r) (ad : Ad2 X.K r oo) (hm : behindInMarks op b = false) (ha : ME X cl a f) (hb : ME X cl b g) : ME X cl (.Compare a [op] [b] pos) (mOpL oo f g) := PE.imp (pe_cmpR ho ha hb hm) (opL_of ad)
theorem ME.ix {r : R2} {oo : PyData → PyData → Option PyData} (hr : IxR X r) (ad : Ad2 X.K r oo) (ha : ME X cl a f) (hb : ME X cl b g) (hs : PlainIx b := by intro _ _; rfl) : ME X cl (.Subscript a b pos) (mOp oo f g) := PE.imp (pe_ix hr ha hb hs) (op_of ad)
noncomputable def mB (f : MF) : MTF := fun w => (f w).bind fun r => match r.1 with | .d x => (asB x).bind fun b => some (b, r.2) | _ => none
theorem MT.cmp {op : CmpOp} {r : R2} {oo : PyData → PyData → Option PyData} (ho : OpR X (compareOp op) r) (ad : Ad2 X.K r oo) (hm : behindInMarks op b = false) (ha : ME X cl a f) (hb : ME X cl b g) : MT X cl (.Compare a [op] [b] pos) (mB (mOpL oo f g)) :=
  PT.imp (pt_cmpR ho ha hb hm) fun σ H Q ⟨θ, F, w, c, s', m, v, hf, q⟩ => by
    obtain ⟨⟨d, s1⟩, h1, hf⟩ := bind_some hf
    cases d with
    | r n => cases hf
    | d x =>
      dsimp only at hf
      obtain ⟨b, hb, hf⟩ := bind_some hf
      cases hf
      obtain rfl := asB_some hb
      exact opL_of ad σ H _ ⟨θ, F, w, _, _, m, v, h1, fun u θ1 F1 H1 p1 q1 m1 r1 => ⟨c, (show Rel X.K F1 (.bool c) u from r1).bl, q θ1 F1 H1 p1 q1 m1⟩⟩
theorem MT.val (he : ME X cl e f) (hi : ∀ whole, isTrue e X.env whole = (do let v ← whole; standAt e.pos; holding [v] (truthy v)) := by intro _; rfl) : MT X cl e (mB f) := PT.imp (pt_val he hi) fun σ H Q ⟨θ, F, w, c, s', m, v, hf, q⟩ => by
  obtain ⟨⟨d, s1⟩, h1, hf⟩ := bind_some hf
  cases d with
  | r n => cases hf
  | d x =>
    dsimp only at hf
    obtain ⟨b, hb, hf⟩ := bind_some hf
    cases hf
    obtain rfl := asB_some hb
    exact ⟨θ, F, w, _, _, m, v, h1, fun u θ1 F1 H1 p1 q1 m1 r1 => ⟨c, (show Rel X.K F1 (.bool c) u from r1).bl, q θ1 F1 H1 p1 q1 m1⟩⟩
noncomputable def maN : MFs := fun w => some ([], w.s)
noncomputable def maC (f : MF) (fs : MFs) : MFs := fun w => (f w).bind fun r => (fs ⟨w.η, r.2⟩).bind fun rs => some (r.1 :: rs.1, rs.2)
theorem MA.nil : MA X cl [] maN := PA.imp pa_nil fun σ H Q ⟨θ, F, w, ds, s', m, v, hf, q⟩ => by
  cases hf
  exact q [] θ F H (List.prefix_refl _) (.refl _) m .nil
theorem MA.cons (ha : ME X cl e f) (hr : MA X cl es fs) (hs : starEach (e :: es) X.env = (false, eval e X.env) :: starEach es X.env := by exact star_of rfl) : MA X cl (e :: es) (maC f fs) := PA.imp (pa_cons ha hr hs) fun σ H Q ⟨θ, F, w, ds, s', m, v, hf, q⟩ => by
  obtain ⟨⟨d, s1⟩, h1, hf⟩ := bind_some hf
  obtain ⟨⟨ds2, s2⟩, h2, hf⟩ := bind_some hf
  cases hf
  refine ⟨θ, F, w, d, s1, m, v, h1, fun u θ1 F1 H1 p1 q1 m1 r1 => ⟨θ1, F1, ⟨w.η, s1⟩, ds2, s2, m1, v.mono p1 q1, h2, fun us θ2 F2 H2 p2 q2 m2 r2 => ?_⟩⟩
  exact q (u :: us) θ2 F2 H2 (p1.trans p2) (q1.trans q2) m2 (.cons (r1.mono p2 q2) r2)
noncomputable def mFld (o : MF) (f : Str) : MF := fun w => (o w).bind fun r => match r.1 with
  | .r n => (match r.2[n]? with | some (.obj _ fs) => (fs.lookup f).bind fun d => some (d, r.2) | _ => none)
  | _ => none
theorem ME.fld {f : Str} {g : MF} (ho : ME X cl o g) (hb : attributeBase o f X.env (eval o X.env) = eval o X.env := by rfl) : ME X cl (.Attribute o f pos) (mFld g f) :=
  PE.imp (pe_fld ho hb) fun σ H Q ⟨θ, F, w, d, s', m, v, hf, q⟩ => by
    obtain ⟨⟨d0, s0⟩, h0, hf⟩ := bind_some hf
    cases d0 with
    | d x => cases hf
    | r n =>
      dsimp only at hf
      split at hf
      · rename_i k fs hc
        obtain ⟨d1, hl, hf⟩ := bind_some hf
        cases hf
        refine ⟨θ, F, w, .r n, _, m, v, h0, fun u θ1 F1 H1 p1 q1 m1 r1 => ?_⟩
        obtain ⟨a, e1, rfl⟩ := r1
        obtain ⟨h1, h2, h3, dx, xs, h4, h5⟩ := m1.cel n a _ e1 hc
        obtain ⟨u, e5, e6⟩ := (h5.look f).1 _ hl
        exact ⟨a, cl k, dx, xs, u, rfl, h4, h2, h3 f (look_mem hl), e5, q u θ1 F1 H1 p1 q1 m1 e6⟩
      · cases hf
end
noncomputable def eFld (i : Nat) (f : Str) : En → Option PyData := fun η => match η[i]? with | some (.ob fs) => fs f | _ => none
theorem E.fld (i : Nat) {X : Cx} {B : Bd} {x f : Str} {npos pos : Pos} (hN : X.N[i]? = some x := by rfl) (hv : Vis X.env.scope x := by first | exact Or.inl rfl | exact Or.inr (Or.inl rfl) | exact Or.inr (Or.inr rfl)) (hd : (x == ("__debug__" : Str)) = false := by decide)
    (hcd : (x == ("__classdict__" : Str)) = false := by decide) (hb : attributeBase (.Name x npos) f X.env (eval (.Name x npos) X.env) = eval (.Name x npos) X.env := by rfl) : E X B (.Attribute (.Name x npos) f pos) (eFld i f) :=
  PE.imp (pe_fld (pe_var hN hv hd hcd) hb) fun σ H Q ⟨F, η, d, sr, hd, q⟩ => by
    unfold eFld at hd
    split at hd
    · rename_i fs e
      obtain ⟨p, C, dx, xs, e1, e2, e3, e4⟩ := sr.en.obs i fs e
      obtain ⟨n, v, h1, h2⟩ := e4 f d hd
      exact ⟨_, e1, p, C, dx, xs, v, rfl, e2, e3, n, h1, q v F H (.refl sr.same) h2⟩
    · cases hd
end L2.PU
namespace L2.PU
open PySem PySem.Spec PyProof.Rows
noncomputable def spM (K : PySem.W.Frag) (cl : Nat → Addr) (fn : List D → Sto → Option (D × Sto)) : Sp := fun vs H Q _ => ∃ θ F s ds d s', MR K cl θ F H s ∧ DRs K θ F ds vs ∧ fn ds s = some (d, s') ∧ ∀ v θ' F' H', θ <+: θ' → Same F F' → MR K cl θ' F' H' s' → DR K θ' F' d v → Q v H'
noncomputable def mCall (fn : List D → Sto → Option (D × Sto)) (fs : MFs) : MF := fun w => (fs w).bind fun r => fn r.1 r.2
noncomputable def upP (fn : List PyData → Option PyData) : List D → Sto → Option (D × Sto) := fun ds s => (dAll ds).bind fun xs => (fn xs).bind fun x => some (.d x, s)
section
variable {X : Cx} {cl : Nat → Addr} {e o : Expr} {es : List Expr} {g : MF} {fs : MFs} {pos : Pos}
theorem ME.call {k k' : Nat} {fa : Addr} {fd : FuncData} {ps : List Str} {x : Str} {ppos : Pos} {fn : List D → Sto → Option (D × Sto)} (G : FnOk X.prog X.w X.K X.mg X.base CX0 k fa fd ps (spM X.K cl fn)) (hr : Room k' X.A) (hkk : k ≤ k') (hm : X.mg x = some (.ref fa)) (hk : PySem.W.keepIn X.K (.ref fa) = true) (hb : Binds X.K fd ps [])
    (ha : MA X cl (e :: es) fs) (hg : Gl X x := by rfl) (hdb : (x == ("__debug__" : Str)) = false := by decide) (he : starEach (e :: es) X.env = (false, eval e X.env) :: starEach es X.env := by exact star_of rfl) (hpl : (backTo pos (starEach es X.env)).any (·.1) = false := by exact plain_of rfl) :
    ME X cl (.Call (.Name x ppos) (e :: es) [] pos) (mCall fn fs) := PE.imp (pe_call G (hr.mono hkk) hg hm hk hb .nil pass0 ha hdb he hpl) fun σ H Q ⟨θ, F, w, d, s', m, v, hf, q⟩ => by
  obtain ⟨⟨ds, s1⟩, h1, hf⟩ := bind_some hf
  refine ⟨θ, F, w, ds, s1, m, v, h1, fun vs θ1 F1 H1 p1 q1 m1 r1 => ?_⟩
  show spM X.K cl fn (vs ++ []) H1 Q E0
  rw [List.append_nil]
  exact ⟨θ1, F1, s1, ds, d, s', m1, r1, hf, fun u θ2 F2 H2 p2 q2 m2 r2 => q u θ2 F2 H2 (p1.trans p2) (q1.trans q2) m2 r2⟩
noncomputable def mMeth (k : Nat) (nm : Str) (fn : List D → Sto → Option (D × Sto)) (o : MF) (fs : MFs) : MF := fun w => (o w).bind fun r => match r.1 with
  | .r n => (match r.2[n]? with
    | some (.obj k' as) => if k' = k ∧ as.lookup nm = none then (fs ⟨w.η, r.2⟩).bind fun rs => fn (.r n :: rs.1) rs.2 else none
    | _ => none)
  | _ => none
theorem meth_of {nm : Str} {k : Nat} {fn : List D → Sto → Option (D × Sto)} : ∀ σ H Q, tM X.K cl (mMeth k nm fn g fs) σ H Q → tMeth (cl k) nm (spM X.K cl fn) [] E0 (tM X.K cl g) (tMA X.K cl fs) σ H Q := fun σ H Q ⟨θ, F, w, d, s', m, v, hf, q⟩ => by
  obtain ⟨⟨d0, s0⟩, h0, hf⟩ := bind_some hf
  cases d0 with
  | d x => cases hf
  | r n =>
    dsimp only at hf
    split at hf
    · rename_i k' as hc
      split at hf
      · rename_i hk
        obtain ⟨⟨ds, s1⟩, h1, hf⟩ := bind_some hf
        obtain ⟨hk1, hk2⟩ := hk
        rw [hk1] at hc
        refine ⟨θ, F, w, .r n, s0, m, v, h0, fun u θ1 F1 H1 p1 q1 m1 r1 => ?_⟩
        obtain ⟨a, e1, rfl⟩ := id r1
        obtain ⟨c1, c2, c3, dx, xs, c4, c5⟩ := m1.cel n a _ e1 hc
        refine ⟨a, dx, xs, rfl, c4, (c5.look nm).2 hk2, θ1, F1, ⟨w.η, s0⟩, ds, s1, m1, v.mono p1 q1, h1, fun vs θ2 F2 H2 p2 q2 m2 r2 => ?_⟩
        show spM X.K cl fn (.ref a :: (vs ++ [])) H2 Q E0
        rw [List.append_nil]
        exact ⟨θ2, F2, s1, .r n :: ds, d, s', m2, .cons (DR.mono p2 q2 r1) r2, hf, fun u θ3 F3 H3 p3 q3 m3 r3 => q u θ3 F3 H3 (p1.trans (p2.trans p3)) (q1.trans (q2.trans q3)) m3 r3⟩
      · cases hf
    · cases hf
theorem ME.meth {pl : Sem Bool} {k k' kc : Nat} {fa : Addr} {fd : FuncData} {ps : List Str} {nm : Str} {apos : Pos} {fn : List D → Sto → Option (D × Sto)} (ho : ME X cl o g) (c : Cls X.K (cl kc)) (hm : Meth X.K (cl kc) nm fa) (G : FnOk X.prog X.w X.K X.mg X.base CX0 k fa fd ps (spM X.K cl fn)) (hr : Room k' X.A) (hkk : k ≤ k') (hb : Binds X.K fd ps [])
    (ha : MA X cl (e :: es) fs) (hst : starEach (e :: es) X.env = (false, eval e X.env) :: starEach es X.env := by exact star_of rfl) (hpl : (backTo pos (starEach es X.env)).any (·.1) = false := by exact plain_of rfl)
    (ht : eval (.Call (.Attribute o nm apos) (e :: es) [] pos) X.env = (do
      let ov ← eval o X.env
      standAt apos.atName
      let (f, first) ← holding [ov] (getMethod ov nm pl)
      callWith pos f first (backTo pos (starEach (e :: es) X.env)) (backToKw pos (keywordEach [] X.env))) := by rfl) : ME X cl (.Call (.Attribute o nm apos) (e :: es) [] pos) (mMeth kc nm fn g fs) :=
  PE.imp (pe_meth (pl := pl) ho c hm G (hr.mono hkk) hb .nil pass0 ha hst hpl ht) meth_of
theorem ME.meth0 {pl : Sem Bool} {k k' kc : Nat} {fa : Addr} {fd : FuncData} {ps : List Str} {nm : Str} {apos : Pos} {fn : List D → Sto → Option (D × Sto)} (ho : ME X cl o g) (c : Cls X.K (cl kc)) (hm : Meth X.K (cl kc) nm fa) (G : FnOk X.prog X.w X.K X.mg X.base CX0 k fa fd ps (spM X.K cl fn)) (hr : Room k' X.A) (hkk : k ≤ k') (hb : Binds X.K fd ps [])
    (ht : eval (.Call (.Attribute o nm apos) [] [] pos) X.env = (do
      let ov ← eval o X.env
      standAt apos.atName
      let (f, first) ← holding [ov] (getMethod ov nm pl)
      callWith pos f first (backTo pos (starEach [] X.env)) (backToKw pos (keywordEach [] X.env))) := by rfl) : ME X cl (.Call (.Attribute o nm apos) [] [] pos) (mMeth kc nm fn g maN) :=
  PE.imp (pe_meth0 (pl := pl) ho c hm G (hr.mono hkk) hb .nil pass0 ht) fun σ H Q h => by
    obtain ⟨θ, F, w, d, s', m, v, hf, q⟩ := h
    obtain ⟨⟨d0, s0⟩, h0, hf⟩ := bind_some hf
    cases d0 with
    | d x => cases hf
    | r n =>
      dsimp only at hf
      split at hf
      · rename_i k' as hc
        split at hf
        · rename_i hk
          obtain ⟨⟨ds, s1⟩, h1, hf⟩ := bind_some hf
          obtain ⟨hk1, hk2⟩ := hk
          rw [hk1] at hc
          cases h1
          refine ⟨θ, F, w, .r n, s0, m, v, h0, fun u θ1 F1 H1 p1 q1 m1 r1 => ?_⟩
          obtain ⟨a, e1, rfl⟩ := id r1
          obtain ⟨c1, c2, c3, dx, xs, c4, c5⟩ := m1.cel n a _ e1 hc
          exact ⟨a, dx, xs, rfl, c4, (c5.look nm).2 hk2, θ1, F1, s0, [.r n], d, s', m1, .cons r1 .nil, hf, fun u θ3 F3 H3 p3 q3 m3 r3 => q u θ3 F3 H3 (p1.trans p3) (q1.trans q3) m3 r3⟩
        · cases hf
      · cases hf
noncomputable def mMake (k : Nat) (fn : List D → Sto → Option (D × Sto)) (fs : MFs) : MF := fun w => (fs w).bind fun r => (fn (.r r.2.length :: r.1) (r.2 ++ [.obj k []])).bind fun q => match q.1 with
  | .d .none => some (.r r.2.length, q.2)
  | _ => none
theorem made_of {K : PySem.W.Frag} {θ : List Addr} {F H : Hp} {s : Sto} {kc : Nat} (c : Cls K (cl kc)) (m : MR K cl θ F H s) {x dx : Addr} (hx : H x = none) (hdx : H dx = none) (hne : dx ≠ x) :
    MR K cl (θ ++ [x]) F (upd (upd H dx (.own x)) x (.ins (cl kc) dx [])) (s ++ [.obj kc []]) := by
  have m1 := m.more (o := .own x) hdx
  have hx1 : upd H dx (.own x) x = none := by rw [upd_ne (Ne.symm hne)]; exact hx
  exact m1.new hx1 ⟨m1.sm.free hx1, c, fun f hf => (by cases hf), dx, [], upd_same, .nil⟩
theorem make_of {kc : Nat} {fn : List D → Sto → Option (D × Sto)} (c : Cls X.K (cl kc)) {θ : List Addr} {F H : Hp} {s s' : Sto} {ds : List D} {d : D} {vs : List V} {Q : VK} (m : MR X.K cl θ F H s) (r : DRs X.K θ F ds vs)
    (hf : ((fn (.r s.length :: ds) (s ++ [.obj kc []])).bind fun q => match q.1 with | .d .none => some (D.r s.length, q.2) | _ => none) = some (d, s'))
    (q : ∀ v θ' F' H', θ <+: θ' → Same F F' → MR X.K cl θ' F' H' s' → DR X.K θ' F' d v → Q v H') (x dx : Addr) (hx : H x = none) (hdx : H dx = none) (hne : dx ≠ x) :
    spM X.K cl fn (.ref x :: vs) (upd (upd H dx (.own x)) x (.ins (cl kc) dx [])) (fun v H2 => v = .non ∧ Q (.ref x) H2) E0 := by
  obtain ⟨⟨d1, s1⟩, h1, hf⟩ := bind_some hf
  have pre : θ <+: θ ++ [x] := List.prefix_append _ _
  have hix : (θ ++ [x])[s.length]? = some x := by rw [← m.len, List.getElem?_append_right (Nat.le_refl _), Nat.sub_self]; rfl
  refine ⟨θ ++ [x], F, s ++ [.obj kc []], .r s.length :: ds, d1, s1, made_of c m hx hdx hne, .cons ⟨x, hix, rfl⟩ (r.mono pre (.refl _)), h1, fun v θ2 F2 H2 p2 q2 m2 r2 => ?_⟩
  dsimp only at hf
  split at hf
  · rename_i hd
    cases hf
    have r2' : Rel X.K F2 .none v := r2
    exact ⟨r2'.non, q _ θ2 F2 H2 (pre.trans p2) q2 m2 ⟨x, pre_get p2 hix, rfl⟩⟩
  · cases hf
theorem ME.make {k k' kc : Nat} {fa : Addr} {fd : FuncData} {ps : List Str} {x : Str} {ppos : Pos} {fn : List D → Sto → Option (D × Sto)} (c : Cls X.K (cl kc)) (M : Mk X.K (cl kc) fa) (G : FnOk X.prog X.w X.K X.mg X.base CX0 k fa fd ps (spM X.K cl fn)) (hr : Room k' X.A) (hkk : k + 1 ≤ k') (hm : X.mg x = some (.ref (cl kc))) (hb : Binds X.K fd ps [])
    (ha : MA X cl (e :: es) fs) (hg : Gl X x := by rfl) (hdb : (x == ("__debug__" : Str)) = false := by decide) (he : starEach (e :: es) X.env = (false, eval e X.env) :: starEach es X.env := by exact star_of rfl) (hpl : (backTo pos (starEach es X.env)).any (·.1) = false := by exact plain_of rfl) :
    ME X cl (.Call (.Name x ppos) (e :: es) [] pos) (mMake kc fn fs) := PE.imp (pe_make M G (hr.mono hkk) hg hm hb .nil pass0 ha hdb he hpl) fun σ H Q ⟨θ, F, w, d, s', m, v, hf, q⟩ => by
  obtain ⟨⟨ds, s1⟩, h1, hf⟩ := bind_some hf
  refine ⟨θ, F, w, ds, s1, m, v, h1, fun vs θ1 F1 H1 p1 q1 m1 r1 => fun x dx hx hdx hne => ?_⟩
  show spM X.K cl fn (.ref x :: (vs ++ [])) _ _ E0
  rw [List.append_nil]
  exact make_of c m1 r1 hf (fun u θ2 F2 H2 p2 q2 m2 r2 => q u θ2 F2 H2 (p1.trans p2) (q1.trans q2) m2 r2) x dx hx hdx hne
end
end L2.PU
namespace L2.PU
open PySem PySem.Spec PyProof.Rows
inductive MOut where
  | nx (w : Wd)
  | rt (d : D) (s : Sto)
  | bk (w : Wd)
  | ct (w : Wd)
section
variable (K : PySem.W.Frag) (cl : Nat → Addr)
noncomputable def MNx (θ : List Addr) (F : Hp) (N : St → Hp → Prop) (w : Wd) : Prop := ∀ σ' θ' F' H', θ <+: θ' → Same F F' → MR K cl θ' F' H' w.s → MV K θ' F' σ' w.η → N σ' H'
noncomputable def MOk (θ : List Addr) (F : Hp) (Z : Ends) : MOut → Prop
  | .nx w => MNx K cl θ F Z.nx w
  | .rt d s => ∀ v θ' F' H', θ <+: θ' → Same F F' → MR K cl θ' F' H' s → DR K θ' F' d v → Z.rt v H'
  | .bk w => MNx K cl θ F Z.bk w
  | .ct w => MNx K cl θ F Z.ct w
noncomputable def tMS (f : Wd → Option MOut) : TS := fun Z σ H => ∃ θ F w o, MR K cl θ F H w.s ∧ MV K θ F σ w.η ∧ f w = some o ∧ MOk K cl θ F Z o
end
noncomputable def MS (X : Cx) (cl : Nat → Addr) (st : Stmt) (f : Wd → Option MOut) : Prop := PS X st (tMS X.K cl f)
noncomputable def MSs (X : Cx) (cl : Nat → Addr) (st : List Stmt) (f : Wd → Option MOut) : Prop := PSs X st (tMS X.K cl f)
theorem MNx.up {K : PySem.W.Frag} {cl : Nat → Addr} {θ θ1 : List Addr} {F F1 : Hp} {N : St → Hp → Prop} {w : Wd} (h : MNx K cl θ F N w) (p : θ <+: θ1) (s : Same F F1) : MNx K cl θ1 F1 N w := fun σ' θ' F' H' p' s' => h σ' θ' F' H' (p.trans p') (s.trans s')
theorem MOk.up {K : PySem.W.Frag} {cl : Nat → Addr} {θ θ1 : List Addr} {F F1 : Hp} {Z : Ends} {o : MOut} (h : MOk K cl θ F Z o) (p : θ <+: θ1) (s : Same F F1) : MOk K cl θ1 F1 Z o := by
  cases o with
  | nx w => exact MNx.up h p s
  | rt d s2 => exact fun v θ' F' H' p' s' => h v θ' F' H' (p.trans p') (s.trans s')
  | bk w => exact MNx.up h p s
  | ct w => exact MNx.up h p s
noncomputable def mNx : Wd → Option MOut := fun w => some (.nx w)
noncomputable def mSeq (f g : Wd → Option MOut) : Wd → Option MOut := fun w => (f w).bind fun o => match o with
  | .nx w' => g w'
  | o => some o
noncomputable def mRet (f : MF) : Wd → Option MOut := fun w => (f w).bind fun r => some (.rt r.1 r.2)
noncomputable def mIf (c : MTF) (f g : Wd → Option MOut) : Wd → Option MOut := fun w => (c w).bind fun r => if r.1 = true then f ⟨w.η, r.2⟩ else g ⟨w.η, r.2⟩
noncomputable def mSet (i : Nat) (f : MF) : Wd → Option MOut := fun w => (f w).bind fun r => some (.nx ⟨w.η.set i (some r.1), r.2⟩)
noncomputable def mExp (f : MF) : Wd → Option MOut := fun w => (f w).bind fun r => some (.nx ⟨w.η, r.2⟩)
noncomputable def putA (f : Str) (v : D) : List (Str × D) → List (Str × D)
  | [] => [(f, v)]
  | (g, x) :: r => if g = f then (g, v) :: r else (g, x) :: putA f v r
noncomputable def mPut (k : Nat) (nm : Str) (o e : MF) : Wd → Option MOut := fun w => (e w).bind fun r => (o ⟨w.η, r.2⟩).bind fun q => match q.1 with
  | .r n => (match q.2[n]? with
    | some (.obj k' fs) => if k' = k ∧ fs.length < 999 then some (.nx ⟨w.η, q.2.set n (.obj k (putA nm r.1 fs))⟩) else none
    | _ => none)
  | _ => none
section
variable {X : Cx} {cl : Nat → Addr} {st : Stmt} {sts sts' : List Stmt} {u v : Wd → Option MOut} {a b c e o : Expr} {f g : MF} {p : MTF} {pos pos' : Pos}
theorem MSs.nil : MSs X cl [] mNx := PSs.imp pss_nil fun Z σ H ⟨θ, F, w, o, m, v, hf, q⟩ => by
  cases hf
  exact q σ θ F H (List.prefix_refl _) (.refl _) m v
theorem MSs.one (h : MS X cl st u) : MSs X cl [st] u := pss_one h
theorem MSs.cons (h : MS X cl st u) (k : MSs X cl sts v) : MSs X cl (st :: sts) (mSeq u v) := PSs.imp (pss_cons h k) fun Z σ H ⟨θ, F, w, o, m, v, hf, q⟩ => by
  obtain ⟨o1, h1, hf⟩ := bind_some hf
  refine ⟨θ, F, w, o1, m, v, h1, ?_⟩
  cases o1 with
  | nx w' => exact fun σ' θ' F' H' p s m' v' => ⟨θ', F', w', o, m', v', hf, q.up p s⟩
  | rt d s => cases hf; exact q
  | bk w' => cases hf; exact q
  | ct w' => cases hf; exact q
theorem MS.never : MS X cl st (fun _ => none) := PS.imp ps_never fun Z σ H ⟨θ, F, w, o, m, v, hf, q⟩ => by cases hf
theorem MS.ret (he : ME X cl e f) : MS X cl (.Return (some e) pos) (mRet f) := PS.imp (ps_ret he) fun Z σ H ⟨θ, F, w, o, m, v, hf, q⟩ => by
  obtain ⟨⟨d, s⟩, h1, hf⟩ := bind_some hf
  cases hf
  exact ⟨θ, F, w, d, s, m, v, h1, q⟩
theorem MS.exp (he : ME X cl e f) (hs : swapsWith e none pos.line X.env = pure false := by rfl) : MS X cl (.Expr e pos) (mExp f) := PS.imp (ps_expr he hs) fun Z σ H ⟨θ, F, w, o, m, v, hf, q⟩ => by
  obtain ⟨⟨d, s⟩, h1, hf⟩ := bind_some hf
  cases hf
  exact ⟨θ, F, w, d, s, m, v, h1, fun u θ' F' H' p' s' m' _ => q σ θ' F' H' p' s' m' (v.mono p' s')⟩
theorem MS.ifS (hc : MT X cl c p) (ha : MSs X cl sts u) (hb : MSs X cl sts' v) : MS X cl (.If c sts sts' pos) (mIf p u v) := PS.imp (ps_if hc ha hb) fun Z σ H ⟨θ, F, w, o, m, v, hf, q⟩ => by
  obtain ⟨⟨b, s1⟩, h1, hf⟩ := bind_some hf
  refine ⟨θ, F, w, b, s1, m, v, h1, fun θ' F' H' p' s' m' => ?_⟩
  cases b with
  | false =>
    rw [if_neg Bool.false_ne_true] at hf ⊢
    exact ⟨θ', F', ⟨w.η, s1⟩, o, m', v.mono p' s', hf, q.up p' s'⟩
  | true =>
    rw [if_pos rfl] at hf ⊢
    exact ⟨θ', F', ⟨w.η, s1⟩, o, m', v.mono p' s', hf, q.up p' s'⟩
theorem MS.set (i : Nat) {x : Str} (hN : X.N.Nodup) (he : ME X cl e f) (hi : X.N[i]? = some x := by rfl) (hx : Loc X.env.scope x := by first | exact Or.inl rfl | exact Or.inr rfl) (hs : swapsWith e (some (.Name x pos')) pos.line X.env = pure false := by rfl)
    (hf : X.fn x = true ∨ X.env.scope.names.lookup x = some .local := by first | exact .inl rfl | exact .inr rfl) : MS X cl (.Assign [.Name x pos'] e pos) (mSet i f) := PS.imp (ps_set hN hi hx he hs hf) fun Z σ H ⟨θ, F, w, o, m, v, hf, q⟩ => by
  obtain ⟨⟨d, s⟩, h1, hf⟩ := bind_some hf
  cases hf
  exact ⟨θ, F, w, d, s, m, v, h1, fun u θ' F' H' p' s' m' r' => q _ θ' F' H' p' s' m' ((v.mono p' s').set i r')⟩
theorem DRf.put {K : PySem.W.Frag} {θ : List Addr} {F : Hp} {fs : List (Str × D)} {xs : List (Str × V)} (h : DRf K θ F fs xs) (f : Str) {d : D} {v : V} (r : DR K θ F d v) : DRf K θ F (putA f d fs) (putF f v xs) := by
  induction h with
  | nil => exact .cons ⟨rfl, r⟩ .nil
  | @cons a b as bs q t ih =>
    obtain ⟨ka, da⟩ := a
    obtain ⟨kb, vb⟩ := b
    have e : ka = kb := q.1
    subst e
    unfold putA putF
    by_cases hk : ka = f
    · rw [if_pos hk, if_pos hk]; exact .cons ⟨rfl, r⟩ t
    · rw [if_neg hk, if_neg hk]; exact .cons q ih
theorem putA_keys {f : Str} {d : D} : ∀ {fs : List (Str × D)} {g : Str}, g ∈ (putA f d fs).map (·.1) → g = f ∨ g ∈ fs.map (·.1)
  | [], g, h => .inl (by simpa [putA] using h)
  | (k, x) :: r, g, h => by
    unfold putA at h
    by_cases hk : k = f
    · rw [if_pos hk] at h
      rcases List.mem_cons.mp h with z | z
      · exact .inr (by rw [z]; exact List.mem_cons_self)
      · exact .inr (List.mem_cons_of_mem _ z)
    · rw [if_neg hk] at h
      rcases List.mem_cons.mp h with z | z
      · exact .inr (by rw [z]; exact List.mem_cons_self)
      · rcases putA_keys z with y | y
        · exact .inl y
        · exact .inr (List.mem_cons_of_mem _ y)
theorem MS.put {k : Nat} {nm : Str} (ho : ME X cl o g) (he : ME X cl e f) (hn : NoAttr X.K (cl k) nm) (hs : swapsWith e (some (.Attribute o nm pos')) pos.line X.env = pure false := by rfl) : MS X cl (.Assign [.Attribute o nm pos'] e pos) (mPut k nm g f) :=
  PS.imp (ps_fld ho he hs) fun Z σ H ⟨θ, F, w, o, m, v, hf, q⟩ => by
    obtain ⟨⟨d, s1⟩, h1, hf⟩ := bind_some hf
    obtain ⟨⟨d2, s2⟩, h2, hf⟩ := bind_some hf
    cases d2 with
    | d x => cases hf
    | r n =>
      dsimp only at hf h2
      split at hf
      · rename_i k' fs hc
        split at hf
        · rename_i hk
          cases hf
          obtain ⟨hk1, hk2⟩ := hk
          rw [hk1] at hc
          refine ⟨θ, F, w, d, s1, m, v, h1, fun y θ1 F1 H1 p1 q1 m1 r1 => ⟨θ1, F1, ⟨w.η, s1⟩, .r n, s2, m1, v.mono p1 q1, h2, fun x θ2 F2 H2 p2 q2 m2 r2 => ?_⟩⟩
          obtain ⟨a, e1, rfl⟩ := r2
          obtain ⟨c1, c2, c3, dx, xs, c4, c5⟩ := m2.cel n a _ e1 hc
          have hl : xs.length < 1000 := by
            have := Paired.length c5
            omega
          refine ⟨a, cl k, dx, xs, rfl, c4, c2, hn, hl, q _ θ2 F2 _ (p1.trans p2) (q1.trans q2) (m2.put e1 hc rfl ⟨c1, c2, fun f hf => ?_, dx, _, upd_same, c5.put nm (r1.mono p2 q2)⟩) ((v.mono p1 q1).mono p2 q2)⟩
          rcases putA_keys hf with z | z
          · rw [z]; exact hn
          · exact c3 f z
        · cases hf
      · cases hf
end
noncomputable def runM (n m : Nat) (g : Wd → Option MOut) : List D → Sto → Option (D × Sto) := fun ds s => if ds.length = n then (g ⟨ds.map some ++ List.replicate (m - n) none, s⟩).bind fun o => match o with
  | .rt d s' => some (d, s')
  | .nx w => some (.d .none, w.s)
  | _ => none else none
section
variable {P : Program} {w : World} {K : PySem.W.Frag} {mg : Str → Option Value} {base : Heap} {cl : Nat → Addr}
theorem MV.start {θ : List Addr} {F : Hp} {N : List Str} {ds : List D} {vs : List V} (r : DRs K θ F ds vs) : MV K θ F (L2.start N vs) (ds.map some ++ List.replicate (N.length - ds.length) none) where
  len := by unfold L2.start; rw [List.length_append, List.length_append, List.length_map, List.length_map, List.length_replicate, List.length_replicate, Paired.length r]
  val := fun i d e => by
    unfold L2.start
    by_cases hi : i < ds.length
    · rw [List.getElem?_append_left (by rw [List.length_map]; exact hi), List.getElem?_map] at e
      rw [List.getElem?_append_left (by rw [List.length_map, ← Paired.length r]; exact hi), List.getElem?_map]
      cases q : ds[i]? with
      | none => rw [q] at e; cases e
      | some d' =>
        rw [q] at e
        have : d' = d := Option.some.inj (Option.some.inj e)
        subst this
        obtain ⟨x, e1, e2⟩ := r.get q
        exact ⟨x, by rw [e1]; rfl, e2⟩
    · rw [List.getElem?_append_right (by rw [List.length_map]; omega), List.getElem?_replicate] at e
      split at e <;> cases e
theorem fnM {x qual : Str} {st : Stmt} {f : Addr} {fd : FuncData} {N ps : List Str} {k : Nat} {g : Wd → Option MOut} (Fn : Fun K x qual st f fd) (Sc : FnScope N ps (defScope st))
    (hb : ∀ (cdv : Value) (A : Around) (outer : List Env) (s : Shared) (H : Hp) (E : XK), Room k (A.deeper (envOfC qual (defScope st) s.heap.objs.size f cdv)) →
      MSs (cxOf CX0 P w K mg base N qual (defScope st) f cdv A outer s H E).nox cl (defBody st) g) :
    FnOk P w K mg base CX0 (k + 1) f fd ps (spM K cl (runM ps.length N.length g)) := by
  refine Fn.ok Sc (fun vs H Q E h => ?_) (fun cdv A outer s H vs Q E hr h => ?_)
  · obtain ⟨θ, F, s, ds, d, s', _, r, e, _⟩ := h
    unfold runM at e
    split at e
    · rename_i hl
      rw [← Paired.length r]; exact hl
    · cases e
  · obtain ⟨θ, F, s0, ds, d, s', m, r, e, q⟩ := h
    refine ⟨_, hb cdv A outer s H E hr, ?_⟩
    unfold runM at e
    split at e
    · rename_i hl
      obtain ⟨o, h1, e⟩ := bind_some e
      have z := MV.start (K := K) (N := N) r
      rw [hl] at z
      refine ⟨θ, F, ⟨_, s0⟩, o, m, z, h1, ?_⟩
      cases o with
      | rt d' s2 =>
        cases e
        exact q
      | nx w' =>
        cases e
        exact fun σ' θ' F' H' p' s' m' _ => q .non θ' F' H' p' s' m' (show Rel K F' .none .non from rel_non)
      | bk w' => cases e
      | ct w' => cases e
    · cases e
end
end L2.PU
namespace L2.PU
open PySem PySem.Spec PyProof.Rows
noncomputable def tMI (K : PySem.W.Frag) (cl : Nat → Addr) (f : Wd → Option (List PyData × Sto)) : TI := fun σ H R => ∃ θ F w ds s', MR K cl θ F H w.s ∧ MV K θ F σ w.η ∧ f w = some (ds, s') ∧ ∀ J θ' F' H', θ <+: θ' → Same F F' → MR K cl θ' F' H' s' → ItP K J F' ds → R J H'
noncomputable def MI (X : Cx) (cl : Nat → Addr) (tg iter : Expr) (f : Wd → Option (List PyData × Sto)) : Prop := PI X tg iter (tMI X.K cl f)
noncomputable def iPu (f : En → Option (List PyData)) : Wd → Option (List PyData × Sto) := fun w => (f (vw w)).bind fun ds => some (ds, w.s)
noncomputable def iM (f : MF) : Wd → Option (List PyData × Sto) := fun w => (f w).bind fun r => match r.1 with | .d (.list ds) => some (ds, r.2) | _ => none
noncomputable def back : List Nat → MEn → En → Option MEn
  | [], η, _ => some η
  | k :: ks, η, ζ => match ζ[k]? with | some (.val x) => back ks (η.set k (some (.d x))) ζ | _ => none
noncomputable def mTg (ks : List Nat) (t : En → PyData → Option En) (w : Wd) (d : PyData) : Option Wd := (t (vw w) d).bind fun ζ => (back ks w.η ζ).bind fun η => some ⟨η, w.s⟩
noncomputable def mGo (ks : List Nat) (t : En → PyData → Option En) (body : Wd → Option MOut) : List PyData → Wd → Option MOut
  | [], w => some (.nx w)
  | d :: ds, w => (mTg ks t w d).bind fun w1 => (body w1).bind fun o => match o with
    | .nx w2 => mGo ks t body ds w2
    | .ct w2 => mGo ks t body ds w2
    | .bk w2 => some (.nx w2)
    | .rt d s => some (.rt d s)
noncomputable def mFor (ks : List Nat) (it : Wd → Option (List PyData × Sto)) (t : En → PyData → Option En) (body : Wd → Option MOut) : Wd → Option MOut := fun w => (it w).bind fun r => mGo ks t body r.1 ⟨w.η, r.2⟩
section
variable {X : Cx} {cl : Nat → Addr} {tg iter e : Expr} {f : MF} {fi : En → Option (List PyData)} {pos : Pos}
theorem MI.pu (h : ∀ B, I X B tg iter fi) : MI X cl tg iter (iPu fi) := fun pins s σ H R I ⟨θ, F, w, ds, s', m, v, hf, q⟩ => by
  obtain ⟨x, hx, hf⟩ := bind_some hf
  cases hf
  exact h ⟨F, H⟩ pins s σ H R I ⟨F, vw w, _, m.vw v, hx, fun J F' H' g ip => q J θ F' H' (List.prefix_refl _) g.ff (m.grow g) ip⟩
theorem MI.list (h : ME X cl e f) : MI X cl tg e (iM f) := PI.imp (pi_list h) fun σ H R ⟨θ, F, w, ds, s', m, v, hf, q⟩ => by
  obtain ⟨⟨d, s1⟩, h1, hf⟩ := bind_some hf
  dsimp only at hf
  split at hf
  · rename_i ys hd
    cases hf
    refine ⟨θ, F, w, _, _, m, v, h1, fun u θ' F' H' p' s' m' r' => ?_⟩
    have r2 : Rel X.K F' (.list ds) u := r'
    obtain ⟨a, xs, rfl, hq, rs⟩ := r2.lst
    exact ⟨a, rfl, ⟨xs, m'.sm.seq hq⟩, q _ θ' F' H' p' s' m' (itp_list hq rs)⟩
  · cases hf
theorem back_ok {K : PySem.W.Frag} {θ : List Addr} {B : Bd} {F H : Hp} {σ' : St} {ζ : En} (sr : SR K B F H σ' ζ) : ∀ (ks : List Nat) {η η' : MEn}, back ks η ζ = some η' → η.length = σ'.length →
    (∀ (i : Nat) d, η[i]? = some (some d) → i ∈ ks ∨ ∃ v, σ'[i]? = some (some v) ∧ DR K θ F d v) → MV K θ F σ' η'
  | [], η, η', h, hl, hv => by
    cases h
    exact ⟨hl, fun i d e => (hv i d e).elim (fun z => (by cases z)) id⟩
  | k :: ks, η, η', h, hl, hv => by
    unfold back at h
    split at h
    · rename_i x hx
      refine back_ok sr ks h (by rw [List.length_set]; exact hl) fun i d e => ?_
      by_cases hk : k = i
      · subst hk
        by_cases hlt : k < η.length
        · rw [List.getElem?_set_self hlt] at e
          have e' : D.d x = d := Option.some.inj (Option.some.inj e)
          subst e'
          exact .inr (sr.en.val k x hx)
        · rw [List.getElem?_eq_none (by rw [List.length_set]; omega)] at e; cases e
      · rw [List.getElem?_set_ne hk] at e
        rcases hv i d e with z | z
        · rcases List.mem_cons.mp z with y | y
          · exact absurd y.symm hk
          · exact .inl y
        · exact .inr z
    · cases h
theorem tg_ok {K : PySem.W.Frag} {cl : Nat → Addr} {ks : List Nat} {gt : TG} {t : En → PyData → Option En} (ht : TgP K ks gt t) {θ : List Addr} {F H : Hp} {σ : St} {w w1 : Wd} {d : PyData} {x : V} (m : MR K cl θ F H w.s) (v : MV K θ F σ w.η) (rx : Rel K F d x) (h : mTg ks t w d = some w1) {Q : St → Hp → Prop}
    (q : ∀ σ' F' H', Same F F' → MR K cl θ F' H' w1.s → MV K θ F' σ' w1.η → Q σ' H') : gt x σ H Q := by
  obtain ⟨ζ, h1, h⟩ := bind_some h
  obtain ⟨η, h2, h⟩ := bind_some h
  cases h
  refine ht ⟨F, H⟩ F H σ (vw w) d x ζ (m.vw v) rx h1 Q fun σ' F' H' sr g hl hn => q σ' F' H' g.ff (m.grow g) (back_ok sr ks h2 (by rw [v.len, hl]) fun i d' e => ?_)
  by_cases hi : i ∈ ks
  · exact .inl hi
  · obtain ⟨u, e1, e2⟩ := v.val i d' e
    exact .inr ⟨u, by rw [hn i hi]; exact e1, e2.mono (List.prefix_refl _) g.ff⟩
theorem MS.for {body : List Stmt} {gt : TG} {ks : List Nat} {t : En → PyData → Option En} {fi : Wd → Option (List PyData × Sto)} {u : Wd → Option MOut} (hp : PassesOwn (model X.prog X.w) X.A X.env X.xe) (hc : X.calm = true) (hi : MI X cl tg iter fi) (hg : PG X tg gt) (ht : TgP X.K ks gt t) (hb : MSs X cl body u)
    (hs : ∀ x, foldedSetIterable iter X.env x = pure x := by intro _; rfl) : MS X cl (.For tg iter body [] pos) (mFor ks fi t u) := PS.imp (ps_for hp hc hi hg hb hs) fun Z σ H ⟨θ, F, w, o, m, v, hf, q⟩ => by
  obtain ⟨⟨ds, s1⟩, h1, hd⟩ := bind_some hf
  refine ⟨θ, F, w, ds, s1, m, v, h1, fun J θ1 F1 H1 p1 q1 m1 ip => ?_⟩
  refine ⟨fun i n σ H => n = ds.length - i ∧ i ≤ ds.length ∧ ∃ θc Fc wc, θ1 <+: θc ∧ Same F1 Fc ∧ MR X.K cl θc Fc H wc.s ∧ MV X.K θc Fc σ wc.η ∧ mGo ks t u (ds.drop i) wc = some o, ⟨_, rfl, Nat.zero_le _, θ1, F1, ⟨w.η, s1⟩, List.prefix_refl _, .refl _, m1, v.mono p1 q1, by simpa using hd⟩, ?_⟩
  rintro i n σc Hc ⟨rfl, hi, θc, Fc, wc, pc, sc, mc, vc, hgo⟩
  obtain ⟨ip1, ip2⟩ := ip Fc Hc i sc mc.sm
  by_cases hlt : i < ds.length
  · have e : ds[i]? = some ds[i] := List.getElem?_eq_getElem hlt
    obtain ⟨go, yl⟩ := ip1 _ e
    rw [List.drop_eq_getElem_cons hlt] at hgo
    unfold mGo at hgo
    obtain ⟨w1, e1, hgo⟩ := bind_some hgo
    obtain ⟨o1, e2, hgo⟩ := bind_some hgo
    have cont : ∀ (w2 : Wd), mGo ks t u (ds.drop (i + 1)) w2 = some o → ∀ σ' θ' F' H', θ1 <+: θ' → Same F1 F' → MR X.K cl θ' F' H' w2.s → MV X.K θ' F' σ' w2.η →
        ∃ n', n' < ds.length - i ∧ (fun i n σ H => n = ds.length - i ∧ i ≤ ds.length ∧ ∃ θc Fc wc, θ1 <+: θc ∧ Same F1 Fc ∧ MR X.K cl θc Fc H wc.s ∧ MV X.K θc Fc σ wc.η ∧ mGo ks t u (ds.drop i) wc = some o) (i + 1) n' σ' H' := fun w2 h2 σ' θ' F' H' p s m v =>
      ⟨ds.length - (i + 1), by omega, rfl, hlt, θ', F', w2, p, s, m, v, h2⟩
    refine .inr ⟨go, fun σ' H' => ∃ n', n' < ds.length - i ∧ (fun i n σ H => n = ds.length - i ∧ i ≤ ds.length ∧ ∃ θc Fc wc, θ1 <+: θc ∧ Same F1 Fc ∧ MR X.K cl θc Fc H wc.s ∧ MV X.K θc Fc σ wc.η ∧ mGo ks t u (ds.drop i) wc = some o) (i + 1) n' σ' H', fun σ' H' n => n, fun x H' y => ?_⟩
    obtain ⟨F2, g2, rx⟩ := yl x H' y
    refine tg_ok ht (mc.grow g2) (vc.mono (List.prefix_refl _) g2.ff) rx e1 fun σ3 F3 H3 s3 m3 v3 => ?_
    refine ⟨θc, F3, w1, o1, m3, v3, e2, ?_⟩
    have s4 : Same F1 F3 := sc.trans (g2.ff.trans s3)
    cases o1 with
    | nx w2 => exact fun σ' θ' F' H' p' s' m' v' => cont w2 hgo σ' θ' F' H' (pc.trans p') (s4.trans s') m' v'
    | ct w2 => exact fun σ' θ' F' H' p' s' m' v' => cont w2 hgo σ' θ' F' H' (pc.trans p') (s4.trans s') m' v'
    | bk w2 =>
      cases hgo
      exact fun σ' θ' F' H' p' s' m' v' => q σ' θ' F' H' (p1.trans (pc.trans p')) (q1.trans (s4.trans s')) m' v'
    | rt d s2 =>
      cases hgo
      exact fun u θ' F' H' p' s' m' r' => q u θ' F' H' (p1.trans (pc.trans p')) (q1.trans (s4.trans s')) m' r'
  · have ei : i = ds.length := by omega
    subst ei
    rw [List.drop_length] at hgo
    cases hgo
    exact .inl ⟨ip2 rfl, q σc θc Fc Hc (p1.trans pc) (q1.trans sc) mc vc⟩
end
section
variable {X : Cx} {cl : Nat → Addr} {tg iter elt : Expr} {ifs : List Expr} {scope : Scope} {N' : List Str} {mp : List (Option Nat)} {ks : List Nat} {gt : TG} {t : En → PyData → Option En} {fi : En → Option (List PyData)} {p : En → Option Bool} {f : En → Option PyData} {pos : Pos}
noncomputable def mC (fs : En → Option (List PyData)) : MF := fun w => (fs (vw w)).bind fun xs => some (.d (.list xs), w.s)
theorem MS.setC (i : Nat) {y : Str} {py spos : Pos} (hc : X.calm = true) (hN : X.N.Nodup) (ck : CompSc X scope N' mp) (ht : TgP X.K ks gt t) (hks : ∀ k ∈ ks, mp[k]? = some none) (hi : ∀ B, I X B tg iter fi)
    (hb : ∀ B s H fp, PG (compCx X scope N' s H fp) tg gt ∧ Ts (compCx X scope N' s H fp) B ifs p ∧ E (compCx X scope N' s H fp) B elt f)
    (hiy : X.N[i]? = some y := by rfl) (hy : X.env.scope.names.lookup y = some .local := by rfl) (hsw : swapsWith (.ListComp elt [⟨tg, iter, ifs, 0⟩] scope pos) (some (.Name y py)) spos.line X.env = pure true := by rfl)
    (hs : ∀ x, foldedSetIterable iter X.env x = pure x := by intro _; rfl) : MS X cl (.Assign [.Name y py] (.ListComp elt [⟨tg, iter, ifs, 0⟩] scope pos) spos) (mSet i (mC (sComp mp fi t p f))) := fun pins s σ H Z I ⟨θ, F, w, o, m, v, hf, q⟩ => by
  obtain ⟨⟨d, s1⟩, h1, hf⟩ := bind_some hf
  cases hf
  obtain ⟨xs, hx, h1⟩ := bind_some h1
  cases h1
  refine ps_setComp (g := gt) (tt := tT X.K ⟨F, H⟩ p) (te := tE X.K ⟨F, H⟩ f) hc hN hiy hy ck (hi ⟨F, H⟩) (hb ⟨F, H⟩) hsw hs pins s σ H Z I ?_
  refine comp_of ht hks σ H _ ⟨F, vw w, xs, m.vw v, hx, fun p zs F' H' g hp fp hp' rs => ?_⟩
  obtain ⟨g2, r2⟩ := list_in m.sm g hp fp hp' rs
  exact q _ θ _ H' (List.prefix_refl _) g2.ff (m.grow g2) ((v.mono (List.prefix_refl _) g2.ff).set i r2)
end
end L2.PU
namespace L2.PU
open PySem PySem.Spec PyProof.Rows
noncomputable def truD : PyData → Option Bool
  | .none => some false
  | .bool b => some b
  | .int i => some (i != 0)
  | .list ds => some (!ds.isEmpty)
  | .tuple ds => some (!ds.isEmpty)
  | _ => none
noncomputable def bTr (f : En → Option PyData) : En → Option Bool := fun η => (f η).bind truD
noncomputable def pDs (s : Sto) : List D → Option (List PyData)
  | [] => some []
  | d :: r => (pD s d).bind fun x => (pDs s r).bind fun xs => some (x :: xs)
noncomputable def mCB (o : List PyData → Option PyData) (fs : MFs) : MF := fun w => (fs w).bind fun r => (pDs r.2 r.1).bind fun xs => (o xs).bind fun x => some (.d x, r.2)
section
variable {X : Cx} {cl : Nat → Addr} {e : Expr} {es : List Expr} {fs : MFs} {pos pp : Pos}
theorem pDs_rel {K : PySem.W.Frag} {θ : List Addr} {F H : Hp} {s : Sto} (m : MR K cl θ F H s) {ds : List D} {vs : List V} (h : DRs K θ F ds vs) : ∀ {xs : List PyData}, pDs s ds = some xs → RelL K F xs vs := by
  induction h with
  | nil => intro xs e; cases e; exact .nil
  | @cons a b as bs r t ih =>
    intro xs e
    unfold pDs at e
    obtain ⟨x, h1, e⟩ := bind_some e
    obtain ⟨zs, h2, e⟩ := bind_some e
    cases e
    exact .cons (sees_p m _ _ _ h1 r) (ih h2)
theorem cb_of {r : List V → Hp → VK → Prop} {o : List PyData → Option PyData} (ad : AdA X.K r o) : ∀ σ H Q, tM X.K cl (mCB o fs) σ H Q → tCB r (tMA X.K cl fs) σ H Q := fun σ H Q ⟨θ, F, w, d, s', m, v, hf, q⟩ => by
  obtain ⟨⟨ds, s1⟩, h1, hf⟩ := bind_some hf
  obtain ⟨xs, h2, hf⟩ := bind_some hf
  obtain ⟨x, h3, hf⟩ := bind_some hf
  cases hf
  exact ⟨θ, F, w, ds, _, m, v, h1, fun vs θ1 F1 H1 p1 q1 m1 r1 => ad F1 H1 vs xs x Q m1.sm (pDs_rel m1 r1 h2) h3 fun u F2 H2 g2 r2 => q u θ1 F2 H2 p1 (q1.trans g2.ff) (m1.grow g2) r2⟩
theorem ME.callB {x : Str} {id : String} {r : List V → Hp → VK → Prop} {o : List PyData → Option PyData} (hc : CallR X (.builtin id) r) (ad : AdA X.K r o) (hm : X.mg x = none) (hv : bootBuiltins x = some (.builtin id)) (ha : MA X cl (e :: es) fs) (hg : Gl X x := by rfl) (hn : x ≠ "__name__" := by decide) (hdb : (x == ("__debug__" : Str)) = false := by decide)
    (he : starEach (e :: es) X.env = (false, eval e X.env) :: starEach es X.env := by exact star_of rfl) (hpl : (backTo pos (starEach es X.env)).any (·.1) = false := by exact plain_of rfl) : ME X cl (.Call (.Name x pp) (e :: es) [] pos) (mCB o fs) :=
  PE.imp (pe_callB hc hg hm hv ha hn hdb he hpl) (cb_of ad)
theorem ME.len (hm : X.mg "len" = none) (ha : MA X cl [e] fs) (hg : Gl X "len" := by rfl) (he : starEach [e] X.env = (false, eval e X.env) :: starEach [] X.env := by exact star_of rfl) : ME X cl (.Call (.Name "len" pp) [e] [] pos) (mCB pLen fs) :=
  ME.callB (call_len_seq.or call_len_str) ad_len hm PySem.boot_len ha hg (by decide) (by decide) he (plain_of rfl)
end
section
variable {X : Cx} {cl : Nat → Addr} {a b : Expr} {f g : MF} {pos : Pos}
theorem ME.eq {k : Nat} (hr : Room k X.A) (ha : ME X cl a f) (hb : ME X cl b g) : ME X cl (.Compare a [.Eq] [b] pos) (mOpL pEq f g) := ME.cmp (op_eqD hr.units) ad_eq (nomark b) ha hb
theorem MT.ne {k : Nat} (hr : Room k X.A) (ha : ME X cl a f) (hb : ME X cl b g) : MT X cl (.Compare a [.NotEq] [b] pos) (mB (mOpL pNe f g)) := MT.cmp (op_neD hr.units) ad_ne (nomark b) ha hb
theorem ME.at (ha : ME X cl a f) (hb : ME X cl b g) (hs : PlainIx b := by intro _ _; rfl) : ME X cl (.Subscript a b pos) (mOp pIx f g) := ME.ix ix_seq ad_ix ha hb hs
end
noncomputable def spL (K : PySem.W.Frag) : Sp := fun vs H Q _ => ∃ (a : Addr) (ns : List Int), vs = [.ref a] ∧ SqL K H a (ns.map V.int) ∧ ns.length ≤ 63 ∧ ∀ H', Q (.bl true) H'
theorem spM_law {K : PySem.W.Frag} {cl : Nat → Addr} {fn : List D → Sto → Option (D × Sto)} (main : ∀ ns : List Int, ns.length ≤ 63 → ∃ s', fn [.d (.list (ns.map PyData.int))] [] = some (.d (.bool true), s')) : ∀ vs H Q E, spL K vs H Q E → spM K cl fn vs H Q E := fun vs H Q E ⟨a, ns, e, hS, hl, q⟩ => by
  subst e
  obtain ⟨s', hm⟩ := main ns hl
  exact ⟨[], H, [], [.d (.list (ns.map PyData.int))], .d (.bool true), s', ⟨.refl _, rfl, by simp, fun n a c h => by simp at h⟩, .cons (show Rel K H (.list (ns.map PyData.int)) (.ref a) from rel_lst hS (RelL.ints ns)) .nil, hm, fun v θ' F' H' _ _ _ r => by rw [(show Rel K F' (.bool true) v from r).bl]; exact q H'⟩
end L2.PU
namespace L2.PU
open PySem PySem.Spec PyProof.Rows
section
variable {w w1 : Wd} {s s1 s2 : Sto} {d d1 d2 : D} {ds : List D} {n i k : Nat} {nm : Str}
theorem mSeq_of {f g : Wd → Option MOut} {r : Option MOut} (h1 : f w = some (.nx w1)) (h2 : g w1 = r) : mSeq f g w = r := by
  unfold mSeq
  rw [h1]; exact h2
theorem mSet_of {f : MF} (h : f w = some (d, s)) : mSet i f w = some (.nx ⟨w.η.set i (some d), s⟩) := by
  unfold mSet
  rw [h]; rfl
theorem mRet_of {f : MF} (h : f w = some (d, s)) : mRet f w = some (.rt d s) := by
  unfold mRet
  rw [h]; rfl
theorem mExp_of {f : MF} (h : f w = some (d, s)) : mExp f w = some (.nx ⟨w.η, s⟩) := by
  unfold mExp
  rw [h]; rfl
theorem mP_of {f : En → Option PyData} {x : PyData} (h : f (vw w) = some x) : mP f w = some (.d x, w.s) := by
  unfold mP
  rw [h]; rfl
theorem mC_of {f : En → Option (List PyData)} {x : List PyData} (h : f (vw w) = some x) : mC f w = some (.d (.list x), w.s) := by
  unfold mC
  rw [h]; rfl
theorem tPv_of {f : En → Option Bool} {b : Bool} (h : f (vw w) = some b) : tPv f w = some (b, w.s) := by
  unfold tPv
  rw [h]; rfl
theorem mIfT {c : MTF} {f g : Wd → Option MOut} {r : Option MOut} (h : c w = some (true, s)) (h2 : f ⟨w.η, s⟩ = r) : mIf c f g w = r := by
  unfold mIf
  rw [h]; exact h2
theorem mIfF {c : MTF} {f g : Wd → Option MOut} {r : Option MOut} (h : c w = some (false, s)) (h2 : g ⟨w.η, s⟩ = r) : mIf c f g w = r := by
  unfold mIf
  rw [h]; exact h2
theorem mIfN {c : MTF} {f : Wd → Option MOut} (h : c w = some (false, s)) : mIf c f mNx w = some (.nx ⟨w.η, s⟩) := mIfF h rfl
theorem maN_of : maN w = some ([], w.s) := rfl
theorem maC_of {f : MF} {fs : MFs} (h1 : f w = some (d, s1)) (h2 : fs ⟨w.η, s1⟩ = some (ds, s2)) : maC f fs w = some (d :: ds, s2) := by
  unfold maC
  rw [h1, Option.bind_some, h2]; rfl
theorem mMeth_of {fn : List D → Sto → Option (D × Sto)} {o : MF} {fs : MFs} {as : List (Str × D)} (h0 : o w = some (.r n, s)) (hc : s[n]? = some (.obj k as)) (hl : as.lookup nm = none) (h1 : fs ⟨w.η, s⟩ = some (ds, s1)) (h2 : fn (.r n :: ds) s1 = some (d, s2)) : mMeth k nm fn o fs w = some (d, s2) := by
  unfold mMeth
  rw [h0, Option.bind_some]
  dsimp only
  rw [hc]
  dsimp only
  rw [if_pos ⟨rfl, hl⟩, h1]; exact h2
theorem mMake_of {fn : List D → Sto → Option (D × Sto)} {fs : MFs} (h1 : fs w = some (ds, s)) (h2 : fn (.r s.length :: ds) (s ++ [.obj k []]) = some (.d .none, s2)) : mMake k fn fs w = some (.r s.length, s2) := by
  unfold mMake
  rw [h1, Option.bind_some, h2]; rfl
theorem mPut_of {o e : MF} {fs : List (Str × D)} (h1 : e w = some (d, s1)) (h2 : o ⟨w.η, s1⟩ = some (.r n, s2)) (hc : s2[n]? = some (.obj k fs)) (hl : fs.length < 999) : mPut k nm o e w = some (.nx ⟨w.η, s2.set n (.obj k (putA nm d fs))⟩) := by
  unfold mPut
  rw [h1, Option.bind_some, h2, Option.bind_some]
  dsimp only
  rw [hc]
  dsimp only
  rw [if_pos ⟨rfl, hl⟩]
theorem mB_of {f : MF} {b : Bool} (h : f w = some (.d (.bool b), s)) : mB f w = some (b, s) := by
  unfold mB
  rw [h]; rfl
theorem mOpL_of {o : PyData → PyData → Option PyData} {f g : MF} {x y z : PyData} (h1 : f w = some (d1, s1)) (h2 : g ⟨w.η, s1⟩ = some (d2, s2)) (hx : lD s2 d1 = some x) (hy : lD s2 d2 = some y) (ho : o x y = some z) (hf : flatD z = true) : mOpL o f g w = some (.d z, s2) := by
  unfold mOpL
  rw [h1, Option.bind_some, h2, Option.bind_some, hx, Option.bind_some, hy, Option.bind_some, ho, Option.bind_some, if_pos hf]
theorem mOp_of {o : PyData → PyData → Option PyData} {f g : MF} {x y z : PyData} (h1 : f w = some (d1, s1)) (h2 : g ⟨w.η, s1⟩ = some (d2, s2)) (hx : pD s2 d1 = some x) (hy : pD s2 d2 = some y) (ho : o x y = some z) : mOp o f g w = some (.d z, s2) := by
  unfold mOp
  rw [h1, Option.bind_some, h2, Option.bind_some, hx, Option.bind_some, hy, Option.bind_some, ho, Option.bind_some]
theorem mCB_of {o : List PyData → Option PyData} {fs : MFs} {xs : List PyData} {x : PyData} (h1 : fs w = some (ds, s)) (h2 : pDs s ds = some xs) (h3 : o xs = some x) : mCB o fs w = some (.d x, s) := by
  unfold mCB
  rw [h1, Option.bind_some, h2, Option.bind_some, h3]; rfl
theorem mRun_of {a b : Nat} {g : Wd → Option MOut} (hl : ds.length = a) (h : g ⟨ds.map some ++ List.replicate (b - a) none, s⟩ = some (.rt d s1)) : runM a b g ds s = some (d, s1) := by
  unfold runM
  rw [if_pos hl, h]; rfl
theorem mRunN {a b : Nat} {g : Wd → Option MOut} (hl : ds.length = a) (h : g ⟨ds.map some ++ List.replicate (b - a) none, s⟩ = some (.nx w1)) : runM a b g ds s = some (.d .none, w1.s) := by
  unfold runM
  rw [if_pos hl, h]; rfl
theorem mFor_of {ks : List Nat} {it : Wd → Option (List PyData × Sto)} {t : En → PyData → Option En} {body : Wd → Option MOut} {xs : List PyData} {r : Option MOut} (h : it w = some (xs, s)) (h2 : mGo ks t body xs ⟨w.η, s⟩ = r) : mFor ks it t body w = r := by
  unfold mFor
  rw [h]; exact h2
theorem iPu_of {f : En → Option (List PyData)} {xs : List PyData} (h : f (vw w) = some xs) : iPu f w = some (xs, w.s) := by
  unfold iPu
  rw [h]; rfl
theorem mTg_name {x : PyData} (h : i < w.η.length) : mTg [i] (tgN i) w x = some ⟨w.η.set i (some (.d x)), w.s⟩ := by
  have e : ((vw w).set i (.val x))[i]? = some (.val x) := List.getElem?_set_self (by unfold vw; rw [List.length_map]; exact h)
  show (some ((vw w).set i (.val x))).bind _ = _
  rw [Option.bind_some]
  unfold back
  rw [e]
  rfl
theorem vwS_obj {g : D → Option PyData} {fs : List (Str × D)} (hc : s[n]? = some (.obj k fs)) : vwS g s (some (.r n)) = .ob fun f => (fs.lookup f).bind g := by
  unfold vwS
  dsimp only
  rw [hc]
end
end L2.PU
namespace L2.PU
open PySem PySem.Spec PyProof.Rows
noncomputable def mcIn (mp : List (Option Nat)) (η : MEn) : MEn := mp.map fun o => o.bind fun j => (η[j]?).join
noncomputable def mcGo (ks : List Nat) (t : En → PyData → Option En) (p : MTF) (f : MF) (n : Nat) (η : MEn) : List PyData → Sto → Option Sto
  | [], s => some s
  | d :: ds, s => (mTg ks t ⟨η, s⟩ d).bind fun w1 => (p w1).bind fun r => if r.1 = true then
      (f ⟨w1.η, r.2⟩).bind fun q => match q.2[n]? with
        | some (.lst acc) => if acc.length < sizeLine then mcGo ks t p f n η ds (q.2.set n (.lst (acc ++ [q.1]))) else none
        | _ => none
    else mcGo ks t p f n η ds r.2
noncomputable def mcL (mp : List (Option Nat)) (it : Wd → Option (List PyData × Sto)) (ks : List Nat) (t : En → PyData → Option En) (p : MTF) (f : MF) : MF := fun w => (it w).bind fun r =>
  (mcGo ks t p f r.2.length (mcIn mp w.η) r.1 (r.2 ++ [.lst []])).bind fun s => some (.r r.2.length, s)
noncomputable def MTs (X : Cx) (cl : Nat → Addr) (ifs : List Expr) (f : MTF) : Prop := PTs X ifs (tMT X.K cl f)
noncomputable def tmTrue : MTF := fun w => some (true, w.s)
section
variable {X : Cx} {cl : Nat → Addr} {tg iter elt c : Expr} {ifs : List Expr} {scope : Scope} {N' : List Str} {mp : List (Option Nat)} {ks : List Nat} {gt : TG} {t : En → PyData → Option En} {fi : Wd → Option (List PyData × Sto)} {p : MTF} {f : MF} {pos : Pos}
theorem MTs.nil : MTs X cl [] tmTrue := fun pins s σ H Q I ⟨θ, F, w, b, s', m, v, hf, q⟩ => by
  cases hf
  exact pts_nil pins s σ H Q I (q θ F H (List.prefix_refl _) (.refl _) m)
theorem MTs.one (h : MT X cl c p) : MTs X cl [c] p := pts_one h
theorem paired_app {α β : Type} {R : α → β → Prop} {as : List α} {bs : List β} (h : Paired R as bs) {a : α} {b : β} (r : R a b) : Paired R (as ++ [a]) (bs ++ [b]) := by
  induction h with
  | nil => exact .cons r .nil
  | cons q _ ih => exact .cons q ih
theorem paired_len {α β : Type} {R : α → β → Prop} {as : List α} {bs : List β} (h : Paired R as bs) : as.length = bs.length := by
  induction h with
  | nil => rfl
  | cons q _ ih => rw [List.length_cons, List.length_cons, ih]
theorem mcIn_ok {K : PySem.W.Frag} {θ : List Addr} {F : Hp} {σ : St} {η : MEn} (v : MV K θ F σ η) (mp : List (Option Nat)) : MV K θ F (inSt mp σ) (mcIn mp η) := by
  refine ⟨by unfold mcIn inSt; rw [List.length_map, List.length_map], fun i d e => ?_⟩
  unfold mcIn at e
  unfold inSt
  rw [List.getElem?_map] at e ⊢
  cases hm : mp[i]? with
  | none => rw [hm] at e; cases e
  | some o =>
    rw [hm] at e
    have e' : (o.bind fun j => (η[j]?).join) = some d := Option.some.inj e
    cases o with
    | none => cases e'
    | some j =>
      have e2 : (η[j]?).join = some d := e'
      cases hj : η[j]? with
      | none => rw [hj] at e2; cases e2
      | some y =>
        rw [hj] at e2
        have e3 : y = some d := e2
        subst e3
        obtain ⟨u, h1, h2⟩ := v.val j d hj
        refine ⟨u, ?_, h2⟩
        show some ((σ[j]?).join) = some (some u)
        rw [h1]; rfl
theorem lcomp_of (ht : TgP X.K ks gt t) (hks : ∀ k ∈ ks, mp[k]? = some none) : ∀ σ H Q, tM X.K cl (mcL mp fi ks t p f) σ H Q → tComp mp (tMI X.K cl fi) gt (tMT X.K cl p) (tM X.K cl f) σ H Q := fun σ H Q ⟨θ, F, w, d, s', m, v, hf, q⟩ => by
  obtain ⟨⟨ds, s1⟩, h1, hf⟩ := bind_some hf
  obtain ⟨s2, h2, hf⟩ := bind_some hf
  cases hf
  dsimp only at h2
  refine ⟨θ, F, w, ds, s1, m, v, h1, fun J θ1 F1 H1 p1 q1 m1 ip D hD => ?_⟩
  have kept : ∀ {σ2 : St}, σ2.length = (inSt mp σ).length → (∀ i, i ∉ ks → σ2[i]? = (inSt mp σ)[i]?) → KeepsSt (inSt mp σ) σ2 := fun {σ2} hl hn => ⟨hl, fun i v e => by
    by_cases hi : i ∈ ks
    · have z := hks i hi
      unfold inSt at e
      rw [List.getElem?_map, z] at e
      cases e
    · rw [hn i hi]; exact e⟩
  have v1 : MV X.K θ1 F1 (inSt mp σ) (mcIn mp w.η) := mcIn_ok (v.mono p1 q1) mp
  have pD : θ1 <+: θ1 ++ [D] := List.prefix_append _ _
  have mD : MR X.K cl (θ1 ++ [D]) F1 (upd H1 D (.lst [])) (s1 ++ [.lst []]) := m1.new hD ⟨m1.sm.free hD, [], upd_same, .nil⟩
  have hDn : ∀ {θ'}, (θ1 ++ [D]) <+: θ' → θ'[s1.length]? = some D := fun {θ'} hp => pre_get hp (by rw [← m1.len, List.getElem?_append_right (Nat.le_refl _), Nat.sub_self]; rfl)
  refine ⟨fun i k Hc => k = ds.length - i ∧ i ≤ ds.length ∧ ∃ θc Fc sc, (θ1 ++ [D]) <+: θc ∧ Same F1 Fc ∧ MR X.K cl θc Fc Hc sc ∧ mcGo ks t p f s1.length (mcIn mp w.η) (ds.drop i) sc = some s', ⟨_, rfl, Nat.zero_le _, θ1 ++ [D], F1, _, List.prefix_refl _, .refl _, mD, by simpa using h2⟩, ?_⟩
  rintro i k Hc ⟨rfl, hi, θc, Fc, sc, pc, fc, mc, hgo⟩
  obtain ⟨ip1, ip2⟩ := ip Fc Hc i fc mc.sm
  by_cases hlt : i < ds.length
  · have e : ds[i]? = some ds[i] := List.getElem?_eq_getElem hlt
    obtain ⟨go, yl⟩ := ip1 _ e
    rw [List.drop_eq_getElem_cons hlt] at hgo
    unfold mcGo at hgo
    obtain ⟨w1, e1, hgo⟩ := bind_some hgo
    obtain ⟨⟨ok, s3⟩, e2, hgo⟩ := bind_some hgo
    dsimp only at hgo
    refine .inr ⟨go, fun H' => ∃ m', m' < ds.length - i ∧ (m' = ds.length - (i + 1) ∧ i + 1 ≤ ds.length ∧ ∃ θc Fc sc, (θ1 ++ [D]) <+: θc ∧ Same F1 Fc ∧ MR X.K cl θc Fc H' sc ∧ mcGo ks t p f s1.length (mcIn mp w.η) (ds.drop (i + 1)) sc = some s'), fun H' n => n, fun x H' y => ?_⟩
    obtain ⟨F2, g2, rx⟩ := yl x H' y
    have m2 := mc.grow g2
    have v2 : MV X.K θc F2 (inSt mp σ) (mcIn mp w.η) := v1.mono (pD.trans pc) (fc.trans g2.ff)
    obtain ⟨ζ, e3, e1⟩ := bind_some e1
    obtain ⟨η1, e4, e1⟩ := bind_some e1
    cases e1
    refine ht ⟨F2, H'⟩ F2 H' (inSt mp σ) _ _ x ζ (MR.vw (w := ⟨mcIn mp w.η, sc⟩) m2 v2) rx e3 _ fun σ3 F3 H3 sr3 g3 l3 n3 => ⟨kept l3 n3, ?_⟩
    have m3 := m2.grow g3
    have v3 : MV X.K θc F3 σ3 η1 := back_ok sr3 ks e4 (by rw [v2.len, l3]) fun i d' e => by
      by_cases hi : i ∈ ks
      · exact .inl hi
      · obtain ⟨u, e1, e2⟩ := v2.val i d' e
        exact .inr ⟨u, by rw [n3 i hi]; exact e1, e2.mono (List.prefix_refl _) g3.ff⟩
    have f3 : Same F1 F3 := fc.trans (g2.ff.trans g3.ff)
    refine ⟨θc, F3, ⟨η1, sc⟩, ok, s3, m3, v3, e2, fun θ4 F4 H4 p4 q4 m4 => ?_⟩
    cases ok with
    | false =>
      rw [if_neg Bool.false_ne_true] at hgo
      rw [if_neg Bool.false_ne_true]
      exact ⟨_, by omega, rfl, hlt, θ4, F4, s3, pc.trans p4, f3.trans q4, m4, hgo⟩
    | true =>
      rw [if_pos rfl] at hgo
      rw [if_pos rfl]
      obtain ⟨⟨d5, s5⟩, e5, hgo⟩ := bind_some hgo
      refine ⟨θ4, F4, ⟨η1, s3⟩, d5, s5, m4, v3.mono p4 q4, e5, fun u θ5 F5 H5 p5 q5 m5 r5 => ?_⟩
      dsimp only at hgo
      split at hgo
      · rename_i acc hacc
        split at hgo
        · rename_i hlen
          have hp5 : (θ1 ++ [D]) <+: θ5 := pc.trans (p4.trans p5)
          obtain ⟨z1, xs, z2, z3⟩ := m5.cel _ D _ (hDn hp5) hacc
          refine ⟨xs, z2, by rw [← paired_len z3]; exact hlen, _, by omega, rfl, hlt, θ5, F5, _, hp5, f3.trans (q4.trans q5), m5.put (c' := .lst (acc ++ [d5])) (hDn hp5) hacc rfl ⟨z1, xs ++ [u], upd_same, paired_app z3 r5⟩, hgo⟩
        · cases hgo
      · cases hgo
  · have ei : i = ds.length := by omega
    subst ei
    rw [List.drop_length] at hgo
    cases hgo
    exact .inl ⟨ip2 rfl, q _ θc Fc Hc (p1.trans (pD.trans pc)) (q1.trans fc) mc ⟨D, hDn pc, rfl⟩⟩
theorem ME.lcomp (hc : X.calm = true) (ck : CompSc X scope N' mp) (ht : TgP X.K ks gt t) (hks : ∀ k ∈ ks, mp[k]? = some none) (hi : MI X cl tg iter fi)
    (hb : ∀ s H fp, PG (compCx X scope N' s H fp) tg gt ∧ MTs (compCx X scope N' s H fp) cl ifs p ∧ ME (compCx X scope N' s H fp) cl elt f)
    (hs : ∀ x, foldedSetIterable iter X.env x = pure x := by intro _; rfl) : ME X cl (.ListComp elt [⟨tg, iter, ifs, 0⟩] scope pos) (mcL mp fi ks t p f) := PE.imp (pe_comp hc ck hi hb hs) (lcomp_of ht hks)
end
end L2.PU
namespace L2.PU
open PySem PySem.Spec PyProof.Rows
noncomputable def tPM (K : PySem.W.Frag) (cl : Nat → Addr) (f : En → Option (Option Int)) : TO := fun σ H Q => ∃ θ F w o, MR K cl θ F H w.s ∧ MV K θ F σ w.η ∧ f (vw w) = some o ∧ ∀ F' H', Same F F' → MR K cl θ F' H' w.s → Q o H'
noncomputable def mSl (f : MF) (fl fh : En → Option (Option Int)) : MF := fun w => (f w).bind fun r => (pD r.2 r.1).bind fun x => (fl (vw ⟨w.η, r.2⟩)).bind fun l => (fh (vw ⟨w.η, r.2⟩)).bind fun h => (pSl x l h).bind fun z => some (.d z, r.2)
end L2.PU
namespace L2.PU
open PySem PySem.Spec PyProof.Rows
noncomputable def mFz (f : MF) : MF := fun w => (f w).bind fun r => match r.1 with
  | .d x => some (.d x, r.2)
  | .r n => match r.2[n]? with
    | some (.lst ds) => (dAll ds).bind fun xs => some (.d (.list xs), r.2.set n (.fz (.list xs)))
    | some (.fz x) => some (.d x, r.2)
    | _ => none
noncomputable def mIfx (c : MTF) (f g : MF) : MF := fun w => (c w).bind fun r => if r.1 = true then f ⟨w.η, r.2⟩ else g ⟨w.η, r.2⟩
noncomputable def mLst (fs : MFs) : MF := fun w => (fs w).bind fun r => if r.1.length ≤ sizeLine then some (.r r.2.length, r.2 ++ [.lst r.1]) else none
noncomputable def mIxL (f g : MF) : MF := fun w => (f w).bind fun r => (g ⟨w.η, r.2⟩).bind fun q => match r.1, q.1 with
  | .r n, .d (.int i) => (match q.2[n]? with | some (.lst ds) => (atI ds i).bind fun d => some (d, q.2) | _ => none)
  | _, _ => none
noncomputable def mNewD : MF := fun w => some (.r w.s.length, w.s ++ [.dct []])
section
variable {X : Cx} {cl : Nat → Addr} {a b c e o : Expr} {es : List Expr} {f g : MF} {fs : MFs} {tc : MTF} {pos : Pos}
theorem CelR.frz {K : PySem.W.Frag} {θ : List Addr} {F H : Hp} {a b : Addr} {o : HO} {c : Cell} (h : CelR K cl θ F H b c) (hne : b ≠ a) (hF : F a = none) : CelR K cl θ (upd F a o) H b c := by
  have sn : Same F (upd F a o) := same_new hF o
  cases c with
  | obj k fs => obtain ⟨h1, h2, h3, dx, xs, h4, h5⟩ := h; exact ⟨by rw [upd_ne hne]; exact h1, h2, h3, dx, xs, h4, h5.mono (List.prefix_refl _) sn⟩
  | lst ds => obtain ⟨h1, xs, h4, h5⟩ := h; exact ⟨by rw [upd_ne hne]; exact h1, xs, h4, h5.mono (List.prefix_refl _) sn⟩
  | dct kvs => obtain ⟨h1, xs, h4, h5⟩ := h; exact ⟨by rw [upd_ne hne]; exact h1, xs, h4, h5.mono (List.prefix_refl _) sn⟩
  | fz x => exact ⟨Rel.mono sn h.1, h.2⟩
theorem MR.frz {K : PySem.W.Frag} {θ : List Addr} {F H : Hp} {s : Sto} (m : MR K cl θ F H s) {n : Nat} {ad : Addr} {ds : List D} {xs : List PyData} (e1 : θ[n]? = some ad) (e2 : s[n]? = some (.lst ds)) (hx : dAll ds = some xs) :
    ∃ F', Same F F' ∧ MR K cl θ F' H (s.set n (.fz (.list xs))) ∧ Rel K F' (.list xs) (.ref ad) := by
  obtain ⟨h1, vs, h4, h5⟩ := m.cel n ad _ e1 e2
  have sn : Same F (upd F ad (.lst vs)) := same_new h1 _
  have rl : Rel K (upd F ad (.lst vs)) (.list xs) (.ref ad) := rel_lst (SqL.of upd_same) ((dAll_rel h5 hx).mono sn)
  refine ⟨upd F ad (.lst vs), sn, ⟨fun b u q => ?_, by rw [List.length_set]; exact m.len, m.nd, fun k b c f1 f2 => ?_⟩, rl⟩
  · by_cases hb : b = ad
    · subst hb; rw [upd_same] at q; rw [← q]; exact h4
    · rw [upd_ne hb] at q; exact m.sm b u q
  · by_cases hk : n = k
    · subst hk
      rw [List.getElem?_set_self (List.getElem?_eq_some_iff.mp e2).1] at f2
      cases f2
      rw [e1] at f1
      cases f1
      exact ⟨rl, _, h4⟩
    · rw [List.getElem?_set_ne hk] at f2
      exact (m.cel k b c f1 f2).frz (nd_ne m.nd f1 e1 (Ne.symm hk)) h1
theorem fz_of : ∀ σ H Q, tM X.K cl (mFz f) σ H Q → tM X.K cl f σ H Q := fun σ H Q ⟨θ, F, w, d, s', m, v, hf, q⟩ => by
  obtain ⟨⟨d1, s1⟩, h1, hf⟩ := bind_some hf
  refine ⟨θ, F, w, d1, s1, m, v, h1, fun u θ1 F1 H1 p1 q1 m1 r1 => ?_⟩
  cases d1 with
  | d x => cases hf; exact q u θ1 F1 H1 p1 q1 m1 r1
  | r n =>
    dsimp only at hf
    obtain ⟨ad, e1, rfl⟩ := r1
    split at hf
    · rename_i ds e2
      obtain ⟨xs, hx, hf⟩ := bind_some hf
      cases hf
      obtain ⟨F2, sn, m2, rl⟩ := m1.frz e1 e2 hx
      exact q _ θ1 F2 H1 p1 (q1.trans sn) m2 rl
    · rename_i x e2
      cases hf
      exact q _ θ1 F1 H1 p1 q1 m1 (m1.cel n ad _ e1 e2).1
    · cases hf
theorem ME.fz (h : ME X cl e f) : ME X cl e (mFz f) := PE.imp h fz_of
theorem new_last {θ : List Addr} {s : Sto} {p : Addr} (h : θ.length = s.length) : (θ ++ [p])[s.length]? = some p := by rw [← h, List.getElem?_append_right (Nat.le_refl _), Nat.sub_self]; rfl
theorem ME.lstM (h : MA X cl es fs) : ME X cl (.List es pos) (mLst fs) := PE.imp (pe_lst h) fun σ H Q ⟨θ, F, w, d, s', m, v, hf, q⟩ => by
  obtain ⟨⟨ds, s1⟩, h1, hf⟩ := bind_some hf
  dsimp only at hf
  split at hf
  · rename_i hl
    cases hf
    refine ⟨θ, F, w, ds, s1, m, v, h1, fun vs θ1 F1 H1 p1 q1 m1 r1 => ⟨by rw [← paired_len r1]; exact hl, fun p hp => ?_⟩⟩
    have pp : θ1 <+: θ1 ++ [p] := List.prefix_append _ _
    exact q _ (θ1 ++ [p]) F1 _ (p1.trans pp) q1 (m1.new hp ⟨m1.sm.free hp, vs, upd_same, r1.mono pp (.refl _)⟩) ⟨p, new_last m1.len, rfl⟩
  · cases hf
end
noncomputable def mExtC (o g : MF) : MF := fun w => (o w).bind fun r => match r.1 with
  | .r n => (match r.2[n]? with
    | some (.lst _) => (g ⟨w.η, r.2⟩).bind fun q => (pD q.2 q.1).bind fun x => match x, q.2[n]? with
      | .list ys, some (.lst ds) => if ds.length + ys.length ≤ sizeLine then some (.d .none, q.2.set n (.lst (ds ++ ys.map .d))) else none
      | _, _ => none
    | _ => none)
  | _ => none
noncomputable def mAppC (o g : MF) : MF := fun w => (o w).bind fun r => match r.1 with
  | .r n => (match r.2[n]? with
    | some (.lst _) => (g ⟨w.η, r.2⟩).bind fun q => match q.2[n]? with
      | some (.lst ds) => if ds.length < sizeLine then some (.d .none, q.2.set n (.lst (ds ++ [q.1]))) else none
      | _ => none
    | _ => none)
  | _ => none
section
variable {X : Cx} {cl : Nat → Addr} {o e : Expr} {f g : MF} {apos cpos : Pos}
theorem ME.appC (ho : ME X cl o f) (he : ME X cl e g) (hbase : attributeBase o "append" X.env (eval o X.env) = eval o X.env := by rfl)
    (hfew : ((backTo cpos (starEach [e] X.env)).all (fun x => !x.1) && (backToKw cpos (keywordEach [] X.env)).all (fun x => x.1.isSome)
      && decide ([e].length + ([] : List Keyword).length + (if ([] : List Keyword).isEmpty then 0 else 1) < 30)) = true := by rfl)
    (hline : (apos.endLine == cpos.line) = true := by rfl) (hs : starEach [e] X.env = (false, eval e X.env) :: starEach [] X.env := by exact star_of rfl) (hplain : (backTo cpos (starEach [] X.env)).any (·.1) = false := by rfl) :
    ME X cl (.Call (.Attribute o "append" apos) [e] [] cpos) (mAppC f g) :=
  PE.imp (pe_bm PySem.F.plainAttrs_list PySem.F.slot_list_append PySem.F.type_list_append mt_append ho (MA.cons he MA.nil hs) hbase hfew hline hs hplain) fun σ H Q ⟨θ, F, w, d, s', m, v, hf, q⟩ => by
    obtain ⟨⟨d1, s1⟩, h1, hf⟩ := bind_some hf
    cases d1 with
    | d x => cases hf
    | r n =>
      dsimp only at hf
      split at hf
      · rename_i ds0 hc0
        obtain ⟨⟨d2, s2⟩, h2, hf⟩ := bind_some hf
        dsimp only at hf
        split at hf
        · rename_i ds hc
          split at hf
          · rename_i hl
            cases hf
            refine ⟨θ, F, w, _, s1, m, v, h1, fun u θ1 F1 H1 p1 q1 m1 r1 => ?_⟩
            obtain ⟨ad, z1, rfl⟩ := r1
            obtain ⟨w1, xs0, w3, w4⟩ := m1.cel n ad _ z1 hc0
            refine ⟨.inl ⟨rfl, xs0, SqL.of w3⟩, θ1, F1, ⟨w.η, s1⟩, [d2], s2, m1, v.mono p1 q1, maC_of h2 maN_of, fun vs θ2 F2 H2 p2 q2 m2 r2 => ?_⟩
            cases r2 with
            | @cons _ y _ _ ra rn =>
              cases rn
              have z2 := pre_get p2 z1
              obtain ⟨w5, xs, w6, w7⟩ := m2.cel n ad _ z2 hc
              have hlx := paired_len w7
              refine ⟨ad, xs, y, rfl, rfl, w6, by rw [← hlx]; exact hl, ?_⟩
              exact q _ θ2 F2 _ (p1.trans p2) (q1.trans q2) (m2.put (c' := .lst (ds ++ [d2])) z2 hc rfl ⟨w5, xs ++ [y], upd_same, paired_app w7 ra⟩) (show Rel X.K F2 .none .non from rel_non)
          · cases hf
        · cases hf
      · cases hf
end
end L2.PU
namespace L2.PU
open PySem PySem.Spec PyProof.Rows
noncomputable def tDSd (td ty tx : TE) : TE := fun σ H Q => td σ H fun x H1 => ∃ a, x = .ref a ∧ IsD H1 a ∧ ty σ H1 fun y H2 => tx σ H2 fun z H3 => ∃ kvs k, H3 a = some (.dK kvs) ∧ y = kV k ∧
  (∀ v, valV kvs k = some v → Q v H3) ∧ (valV kvs k = none → kvs.length < sizeLine ∧ Q z (upd H3 a (.dK (putK kvs k z))))
noncomputable def keyP : PyData → Option Key
  | .int i => some (.inl i)
  | .str x => some (.inr x)
  | _ => none
noncomputable def lookK (kvs : List (Key × D)) (k : Key) : Option D := (kvs.find? fun kv => decide (kv.1 = k)).map (·.2)
noncomputable def mSetD (o g f : MF) : MF := fun w => (o w).bind fun r => match r.1 with
  | .r n => (match r.2[n]? with
    | some (.dct _) => (g ⟨w.η, r.2⟩).bind fun q => match q.1 with
      | .d x => (keyP x).bind fun k => (f ⟨w.η, q.2⟩).bind fun z => match z.2[n]? with
        | some (.dct kvs) => (match lookK kvs k with
          | some d => some (d, z.2)
          | none => if kvs.length < sizeLine then some (z.1, z.2.set n (.dct (kvs ++ [(k, z.1)]))) else none)
        | _ => none
      | _ => none
    | _ => none)
  | _ => none
end L2.PU
namespace L2.PU
open PySem PySem.Spec PyProof.Rows
noncomputable def mAnd (f g : MF) : MF := fun w => (f w).bind fun r => match r.1 with | .d x => (asB x).bind fun c => if c = true then g ⟨w.η, r.2⟩ else some (.d (.bool false), r.2) | _ => none
noncomputable def mOr (f g : MF) : MF := fun w => (f w).bind fun r => match r.1 with | .d x => (asB x).bind fun c => if c = true then some (.d (.bool true), r.2) else g ⟨w.η, r.2⟩ | _ => none
section
variable {X : Cx} {cl : Nat → Addr} {a b e : Expr} {rest es : List Expr} {f g : MF} {fs : MFs} {pos pp : Pos}
theorem ME.one {op} (ha : ME X cl a f) : ME X cl (.BoolOp op [a] pos) f := pe_one ha
theorem ME.and (ha : ME X cl a f) (hb : ME X cl (.BoolOp .And (b :: rest) pos) g) : ME X cl (.BoolOp .And (a :: b :: rest) pos) (mAnd f g) := PE.imp (pe_and ha hb) fun σ H Q ⟨θ, F, w, d, s', m, v, hf, q⟩ => by
  obtain ⟨⟨d1, s1⟩, h1, hf⟩ := bind_some hf
  cases d1 with
  | r n => cases hf
  | d x =>
    dsimp only at hf
    obtain ⟨c, hc, hf2⟩ := bind_some hf
    clear hf
    obtain rfl := asB_some hc
    have hf := hf2
    clear hf2
    refine ⟨θ, F, w, _, s1, m, v, h1, fun u θ1 F1 H1 p1 q1 m1 r1 => ⟨c, (show Rel X.K F1 (.bool c) u from r1).bl, ?_⟩⟩
    cases c with
    | false =>
      rw [if_neg Bool.false_ne_true] at hf ⊢
      cases hf
      exact q _ θ1 F1 H1 p1 q1 m1 (show Rel X.K F1 (.bool false) _ from rel_bl)
    | true =>
      rw [if_pos rfl] at hf ⊢
      exact ⟨θ1, F1, ⟨w.η, s1⟩, d, s', m1, v.mono p1 q1, hf, fun u θ2 F2 H2 p2 q2 m2 r2 => q u θ2 F2 H2 (p1.trans p2) (q1.trans q2) m2 r2⟩
end
end L2.PU
namespace L2.PU
open PySem PySem.Spec PyProof.Rows
section
variable {X : Cx} {cl : Nat → Addr} {tg e : Expr} {f : MF} {pos : Pos}
noncomputable def mUnp (ks : List Nat) (f : MF) (t : En → PyData → Option En) : Wd → Option MOut := fun w => (f w).bind fun r => match r.1 with | .d d => (mTg ks t ⟨w.η, r.2⟩ d).bind fun w' => some (.nx w') | _ => none
end
end L2.PU
namespace L2.PU
open PySem PySem.Spec PyProof.Rows
noncomputable def mTruL (f : MF) : MTF := fun w => (f w).bind fun r => match r.1 with
  | .r n => (match r.2[n]? with
    | some (.lst ds) => some (!ds.isEmpty, r.2)
    | _ => none)
  | _ => none
noncomputable def mLenL (f : MF) : MF := fun w => (f w).bind fun r => match r.1 with
  | .r n => (match r.2[n]? with
    | some (.lst ds) => some (.d (.int ds.length), r.2)
    | _ => none)
  | _ => none
noncomputable def mPopL (f : MF) : MF := fun w => (f w).bind fun r => match r.1 with
  | .r n => (match r.2[n]? with
    | some (.lst ds) => (ds[ds.length - 1]?).bind fun d => some (d, r.2.set n (.lst ds.dropLast))
    | _ => none)
  | _ => none
noncomputable def mCopyL (f : MF) : MF := fun w => (f w).bind fun r => match r.1 with
  | .r n => (match r.2[n]? with
    | some (.lst ds) => some (.r r.2.length, r.2 ++ [.lst ds])
    | _ => none)
  | _ => none
noncomputable def mTupD (fs : MFs) : MF := fun w => (fs w).bind fun r => (pDs r.2 r.1).bind fun xs => if xs.length ≤ sizeLine then some (.d (.tuple xs), r.2) else none
theorem paired_drop {α β : Type} {R : α → β → Prop} {as : List α} {bs : List β} (h : Paired R as bs) : Paired R as.dropLast bs.dropLast := by
  induction h with
  | nil => exact .nil
  | @cons a b as bs q t ih =>
    cases t with
    | nil => exact .nil
    | cons q2 t2 => exact .cons q ih
section
variable {X : Cx} {cl : Nat → Addr} {o e : Expr} {f : MF} {apos cpos pos pp : Pos}
theorem MT.truL (he : ME X cl e f) (hi : ∀ whole, isTrue e X.env whole = (do let v ← whole; standAt e.pos; holding [v] (truthy v)) := by intro _; rfl) : MT X cl e (mTruL f) := PT.imp (pt_truth he hi) fun σ H Q ⟨θ, F, w, b, s', m, v, hf, q⟩ => by
  obtain ⟨⟨d1, s1⟩, h1, hf⟩ := bind_some hf
  cases d1 with
  | d x => cases hf
  | r n =>
    dsimp only at hf
    split at hf
    · rename_i ds hc
      cases hf
      refine ⟨θ, F, w, _, _, m, v, h1, fun u θ1 F1 H1 p1 q1 m1 r1 => ?_⟩
      obtain ⟨ad, z1, rfl⟩ := r1
      obtain ⟨w1, xs, w3, w4⟩ := m1.cel n ad _ z1 hc
      have hlx := paired_len w4
      refine ⟨_, .inl ⟨xs, SqL.of w3, ?_⟩, q θ1 F1 H1 p1 q1 m1⟩
      cases w4 with
      | nil => rfl
      | cons _ _ => rfl
    · cases hf
theorem ME.lenL (hm : X.mg "len" = none) (ha : ME X cl e f) (hg : Gl X "len" := by rfl) (he : starEach [e] X.env = (false, eval e X.env) :: starEach [] X.env := by exact star_of rfl) : ME X cl (.Call (.Name "len" pp) [e] [] pos) (mLenL f) :=
  PE.imp (pe_callB (call_len_seq.or call_len_str) hg hm PySem.boot_len (MA.cons ha MA.nil he) (by decide) (by decide) he (plain_of rfl)) fun σ H Q ⟨θ, F, w, d, s', m, v, hf, q⟩ => by
    obtain ⟨⟨d1, s1⟩, h1, hf⟩ := bind_some hf
    cases d1 with
    | d x => cases hf
    | r n =>
      dsimp only at hf
      split at hf
      · rename_i ds hc
        cases hf
        refine ⟨θ, F, w, [.r n], _, m, v, maC_of h1 maN_of, fun vs θ1 F1 H1 p1 q1 m1 r1 => ?_⟩
        cases r1 with
        | cons ra rn =>
          cases rn
          obtain ⟨ad, z1, rfl⟩ := ra
          obtain ⟨w1, xs, w3, w4⟩ := m1.cel n ad _ z1 hc
          have hlx := paired_len w4
          refine .inl ⟨ad, xs, rfl, .inl (SqL.of w3), q _ θ1 F1 H1 p1 q1 m1 ?_⟩
          show Rel X.K F1 (.int ds.length) (.int xs.length)
          rw [hlx]
          exact rel_int
      · cases hf
theorem ME.popL (ho : ME X cl o f) (hbase : attributeBase o "pop" X.env (eval o X.env) = eval o X.env := by rfl)
    (hline : (apos.endLine == cpos.line) = true := by rfl) : ME X cl (.Call (.Attribute o "pop" apos) [] [] cpos) (mPopL f) :=
  PE.imp (pe_bm0 PySem.F.plainAttrs_list PySem.F.slot_list_pop PySem.F.type_list_pop mt_pop ho hbase hline) fun σ H Q ⟨θ, F, w, d, s', m, v, hf, q⟩ => by
    obtain ⟨⟨d1, s1⟩, h1, hf⟩ := bind_some hf
    cases d1 with
    | d x => cases hf
    | r n =>
      dsimp only at hf
      split at hf
      · rename_i ds hc
        obtain ⟨d2, hd, hf⟩ := bind_some hf
        cases hf
        refine ⟨θ, F, w, _, s1, m, v, h1, fun u θ1 F1 H1 p1 q1 m1 r1 => ?_⟩
        obtain ⟨ad, z1, rfl⟩ := r1
        obtain ⟨w1, xs, w3, w4⟩ := m1.cel n ad _ z1 hc
        have hlx := paired_len w4
        obtain ⟨y, e1, e2⟩ := DRs.get w4 hd
        rw [hlx] at e1
        refine ⟨.inl ⟨rfl, xs, SqL.of w3⟩, ad, xs, y, rfl, rfl, w3, e1, ?_⟩
        exact q _ θ1 F1 _ p1 q1 (m1.put (c' := .lst ds.dropLast) z1 hc rfl ⟨w1, xs.dropLast, upd_same, paired_drop w4⟩) e2
      · cases hf
theorem ME.copyL (hm : X.mg "list" = none) (ha : ME X cl e f) (hg : Gl X "list" := by rfl) (he : starEach [e] X.env = (false, eval e X.env) :: starEach [] X.env := by exact star_of rfl) : ME X cl (.Call (.Name "list" pp) [e] [] pos) (mCopyL f) :=
  PE.imp (pe_callTy call_listL hg hm (by decide +kernel) (MA.cons ha MA.nil he) (by decide) (by decide) he (plain_of rfl)) fun σ H Q ⟨θ, F, w, d, s', m, v, hf, q⟩ => by
    obtain ⟨⟨d1, s1⟩, h1, hf⟩ := bind_some hf
    cases d1 with
    | d x => cases hf
    | r n =>
      dsimp only at hf
      split at hf
      · rename_i ds hc
        cases hf
        refine ⟨θ, F, w, [.r n], s1, m, v, maC_of h1 maN_of, fun vs θ1 F1 H1 p1 q1 m1 r1 => ?_⟩
        cases r1 with
        | cons ra rn =>
          cases rn
          obtain ⟨ad, z1, rfl⟩ := ra
          obtain ⟨w1, xs, w3, w4⟩ := m1.cel n ad _ z1 hc
          refine ⟨ad, xs, rfl, SqL.of w3, fun p hp => ?_⟩
          have pp : θ1 <+: θ1 ++ [p] := List.prefix_append _ _
          exact q _ (θ1 ++ [p]) F1 _ (p1.trans pp) q1 (m1.new hp ⟨m1.sm.free hp, xs, upd_same, w4.mono pp (.refl _)⟩) ⟨p, new_last m1.len, rfl⟩
      · cases hf
theorem ME.tupM {x1} {es : List Expr} {fs : MFs} (h : MA X cl es fs) : ME X cl (.Tuple es x1 pos) (mTupD fs) := PE.imp (pe_tup h) fun σ H Q ⟨θ, F, w, d, s', m, v, hf, q⟩ => by
  obtain ⟨⟨ds, s1⟩, h1, hf⟩ := bind_some hf
  obtain ⟨xs, h2, hf⟩ := bind_some hf
  split at hf
  · rename_i hl
    cases hf
    refine ⟨θ, F, w, ds, _, m, v, h1, fun vs θ1 F1 H1 p1 q1 m1 r1 => ?_⟩
    have rs := pDs_rel m1 r1 h2
    refine ⟨by rw [rs.length]; exact hl, fun p hp => ?_⟩
    have g2 : Gr F1 H1 (upd F1 p (.tup vs)) (upd H1 p (.tup vs)) := Gr.one m1.sm hp
    exact q _ θ1 _ _ p1 (q1.trans g2.ff) (m1.grow g2) (show Rel X.K _ (.tuple xs) (.ref p) from rel_tup (SqT.of upd_same) (rs.mono g2.ff))
  · cases hf
end
end L2.PU
namespace L2.PU
open PySem PySem.Spec PyProof.Rows
noncomputable def Itdn (lo : Int) (n : Nat) : It := ⟨fun i _ => i < n, fun i H x H' => H' = H ∧ x = .int (lo - i), fun i _ => n ≤ i⟩
theorem turn_rangeD {P : Program} {w : World} {K : PySem.W.Frag} {tg : Expr} (it : Addr) (lo : Int) (n : Nat) : Turn P w K tg (Itdn lo n) [it] it (fun i h => IsRangeIter h it (lo + (i : Nat) * (-1)) ((n : Int) - (i : Nat)) (-1)) where
  mem := by simp
  obj := fun i h st b hb => by
    have e : b = it := by simpa using hb
    subst e
    exact ⟨_, st, fun v z => by
      have z' : Data.fields _ = Data.cell v := z
      cases z'⟩
  keep := fun i h h' st k => k it (by simp) _ st
  item := by
    intro X hP hw hK hc i pins s σ H E I hf st hg
    subst hP hw hK
    obtain ⟨f0, f1, f2, f3, f4, f5⟩ := hf it (by simp)
    have W := Walks.range (prog := X.prog) (w := X.w) (I.ok.hd hc) it lo (-1) n
    refine W.item i s _ _ hg st fun v h' tk hv st' kk => ?_
    obtain ⟨t, rfl⟩ := hv
    have I1 : Inv X pins σ H { s with heap := h', toks := tk } := I.turned (fun b o hb e => kk b o (by simpa using hb) e) f0 f1 f3 f4 f5
    refine ⟨_, rfl, go_of (s := { s with heap := h', toks := tk }) (n := "range_iterator") st' rfl rfl (by decide) ⟨.int (lo - i), H, I1, ⟨t, ?_⟩, ⟨rfl, rfl⟩, st', fun b hb => (hf b hb).1⟩⟩
    rw [show lo + (i : Int) * (-1) = lo - i by omega]
  done := by
    intro X hP hw hK hc i pins s σ H E I hf st hg
    subst hP hw hK
    obtain ⟨f0, f1, f2, f3, f4, f5⟩ := hf it (by simp)
    exact wpAny_pyNext_range_end (I.ok.hd hc) st (by have : n ≤ i := hg; omega) fun h' eb => ⟨rfl, I.turned (t' := s.toks) (fun b o hb e => eb b o hb e) f0 f1 f3 f4 f5⟩
  self := fun _ _ _ _ _ st h => wpAny_pyIter_rangeiter st h
theorem rangeSize_down (a b : Int) : Builtin.Range.rangeSize a b (-1) = if b < a then a - b else 0 := by
  unfold Builtin.Range.rangeSize
  simp only [show ¬ (-1 : Int) > 0 by decide, if_false, show -(-1 : Int) = 1 by decide, Int.ediv_one]
  split <;> omega
theorem small_down {a b : Int} (ha : -(2 ^ 62) ≤ a) (ha' : a < 2 ^ 62) (hb : -(2 ^ 62) ≤ b) (hb' : b < 2 ^ 62) : Builtin.Range.small a b (-1) = true := by
  unfold Builtin.Range.small
  rw [rangeSize_down]
  simp only [Builtin.Range.rangeFitsLong, Bool.and_eq_true, Bool.or_eq_true, decide_eq_true_eq, beq_iff_eq, show ¬ (-1 : Int) > 0 by decide, if_false]
  split <;> omega
section
variable {X : Cx} {tg a b c : Expr} {B : Bd} {fs : En → Option (List PyData)} {pos : Pos}
theorem range_itD {pins : List (Addr × Obj)} {σ : St} {H : Hp} {s : Shared} {R : It → Hp → Prop} {E : Value → Shared → Prop} {lo hi : Int} {t u v : Tok} {tk : Nat} (I : Inv X pins σ H s) (h1 : -(2 ^ 62) ≤ lo) (h2 : lo < 2 ^ 62) (h3 : -(2 ^ 62) ≤ hi) (h4 : hi < 2 ^ 62)
    (q : R (Itdn lo (lo - hi).toNat) H) : wpAny (model X.prog X.w) X.A (pyIter (.ref s.heap.objs.size)) (PIE X pins σ tg R) E { s with heap := s.heap.push { cls := .type "range", data := .fields #[.int lo t, .int hi u, .int (-1) v] }, toks := tk } := by
  refine wpAny_pyIter_range (IsRange.new ..) (small_down h1 h2 h3 h4) ?_
  have I1 : Inv X pins σ H { s with heap := s.heap.push { cls := .type "range", data := .fields #[.int lo t, .int hi u, .int (-1) v] }, toks := tk } := I.kept fun b o e => Heap.get?_push_of_some _ e
  refine ⟨(s.heap.push { cls := .type "range", data := .fields #[.int lo t, .int hi u, .int (-1) v] }).objs.size, [(s.heap.push { cls := .type "range", data := .fields #[.int lo t, .int hi u, .int (-1) v] }).objs.size], _, _, H, rfl,
    I1.kept (t' := tk) fun b o e => Heap.get?_push_of_some _ e, turn_rangeD _ lo (lo - hi).toNat, ?_, fun b hb => ?_, q⟩
  · have e1 : lo + ((0 : Nat) : Int) * (-1) = lo := by simp
    have e2 : (((lo - hi).toNat : Nat) : Int) - ((0 : Nat) : Int) = Builtin.Range.rangeSize lo hi (-1) := by rw [rangeSize_down]; split <;> omega
    show IsRangeIter _ _ (lo + ((0 : Nat) : Int) * (-1)) ((((lo - hi).toNat : Nat) : Int) - ((0 : Nat) : Int)) (-1)
    rw [e1, e2]
    exact Heap.get?_push_size _ rfl
  · have e : b = (s.heap.push { cls := .type "range", data := .fields #[.int lo t, .int hi u, .int (-1) v] }).objs.size := by simpa using hb
    subst e
    exact I1.fpOk (Nat.le_refl _) (I1.hok.fresh (Nat.le_refl _))
noncomputable def iRngD (ta : TA) : TI := fun σ H R => ta σ H fun vs H1 => ∃ i j : Int, vs = [.int i, .int j, .int (-1)] ∧ (-(2 ^ 58) ≤ i ∧ i < 2 ^ 58 ∧ -(2 ^ 58) ≤ j ∧ j < 2 ^ 58) ∧ R (Itdn i (i - j).toNat) H1
theorem pi_rangeD {ta : TA} {p pos : Pos} (hg : Gl X "range") (hm : X.mg "range" = none) (ha : PA X [a, b, c] ta) (hs : starEach [a, b, c] X.env = (false, eval a X.env) :: starEach [b, c] X.env) (hs2 : (backTo pos (starEach [b, c] X.env)).any (·.1) = false) :
    PI X tg (.Call (.Name "range" p) [a, b, c] [] pos) (iRngD ta) := by
  intro pins s σ H R I h
  refine Call_ (ld_blt I hg hm boot_range (PyProof.Rows.callWith_type1 (thn (ha pos pins s σ H _ I h) fun us s1 ⟨vs, H1, I1, r1, q1⟩ => ?_) hs hs2))
  obtain ⟨i, j, e, ⟨q1, q2, q3, q4⟩, q⟩ := q1
  subst e
  cases r1 with
  | cons r rr =>
    cases rr with
    | cons r' rr =>
      cases rr with
      | cons r'' rr =>
        cases rr
        obtain ⟨t, rfl⟩ := r
        obtain ⟨t', rfl⟩ := r'
        obtain ⟨t'', rfl⟩ := r''
        exact call_range_3 (by decide) (range_itD I1 (by omega) (by omega) (by omega) (by omega) q) (Or.inl (PyProof.noPylong_small (by omega)))
noncomputable def rngLd (lo : Int) (n : Nat) : List PyData := (List.range n).map fun (k : Nat) => PyData.int (lo - k)
theorem itp_rngD {K : PySem.W.Frag} {F : Hp} {lo : Int} {n : Nat} : ItP K (Itdn lo n) F (rngLd lo n) := fun F1 H1 i s1 s2 => by
  have hl : (rngLd lo n).length = n := by unfold rngLd; rw [List.length_map, List.length_range]
  refine ⟨fun d e => ?_, fun e => by show n ≤ i; omega⟩
  have hi : i < n := by rw [← hl]; exact (List.getElem?_eq_some_iff.mp e).1
  refine ⟨hi, fun x H2 y => ?_⟩
  obtain ⟨e2, e3⟩ := y
  subst e2 e3
  have : d = .int (lo - i) := by
    unfold rngLd at e
    rw [List.getElem?_map, List.getElem?_range hi] at e
    exact (Option.some.inj e).symm
  subst this
  exact ⟨F1, .refl s2, rel_int⟩
noncomputable def rngD (ds : List PyData) : Option (List PyData) := match ds with
  | [.int i, .int j, .int (-1)] => if (-(2 ^ 58) ≤ i ∧ i < 2 ^ 58) ∧ (-(2 ^ 58) ≤ j ∧ j < 2 ^ 58) then some (rngLd i (i - j).toNat) else none
  | _ => none
theorem I.rngD {pp : Pos} (hm : X.mg "range" = none) (ha : A X B [a, b, c] fs) (hg : Gl X "range" := by rfl) (hs : starEach [a, b, c] X.env = (false, eval a X.env) :: starEach [b, c] X.env := by exact star_of rfl) (hs2 : (backTo pos (starEach [b, c] X.env)).any (·.1) = false := by exact plain_of rfl) :
    I X B tg (.Call (.Name "range" pp) [a, b, c] [] pos) (fun η => (fs η).bind PU.rngD) :=
  PI.imp (pi_rangeD hg hm ha hs hs2) fun σ H Q ⟨F, η, ds, sr, hd, q⟩ => by
    obtain ⟨es, h1, hd⟩ := bind_some hd
    unfold PU.rngD at hd
    split at hd
    · rename_i i j
      split at hd
      · rename_i hj
        cases hd
        refine ⟨F, η, _, sr, h1, fun vs F1 H1 g1 rs => ?_⟩
        obtain ⟨x, r, rfl, rx, rr⟩ := rs.cons_of
        obtain ⟨y, r2, rfl, ry, rr2⟩ := rr.cons_of
        obtain ⟨z, r3, rfl, rz, rr3⟩ := rr2.cons_of
        obtain rfl := rr3.nil_of
        exact ⟨i, j, by rw [rx.int, ry.int, rz.int], ⟨hj.1.1, hj.1.2, hj.2.1, hj.2.2⟩, q _ F1 H1 g1 itp_rngD⟩
      · cases hd
    · cases hd
end
section
variable {X : Cx} {cl : Nat → Addr} {tg a b e : Expr} {f g : MF} {pos : Pos}
noncomputable def iMT (f : MF) : Wd → Option (List PyData × Sto) := fun w => (f w).bind fun r => match r.1 with | .d (.tuple ds) => some (ds, r.2) | _ => none
theorem MI.tup (h : ME X cl e f) : MI X cl tg e (iMT f) := PI.imp (pi_tup h) fun σ H R ⟨θ, F, w, ds, s', m, v, hf, q⟩ => by
  obtain ⟨⟨d, s1⟩, h1, hf⟩ := bind_some hf
  dsimp only at hf
  split at hf
  · rename_i ys hd
    cases hf
    refine ⟨θ, F, w, _, _, m, v, h1, fun u θ' F' H' p' s' m' r' => ?_⟩
    have r2 : Rel X.K F' (.tuple ds) u := r'
    obtain ⟨a, xs, rfl, hq, rs⟩ := r2.tup
    exact ⟨a, rfl, ⟨xs, same_seqT m'.sm hq⟩, q _ θ' F' H' p' s' m' (itp_tup hq rs)⟩
  · cases hf
theorem ME.sub (ha : ME X cl a f) (hb : ME X cl b g) : ME X cl (.BinOp a .Sub b pos) (mOp pSub f g) := ME.op op_sub (ad_I0 fun _ _ _ => rel_int) ha hb
end
end L2.PU
namespace K54
open PySem L2 L2.PU
noncomputable def top (i : Nat) : Stmt := PySem.Challenge.pw_touchtree_k54_whole_back_and_twins.main.body.getD i (.Pass ⟨0, 0, 0, 0⟩)
noncomputable abbrev s_Plan____init__ : Stmt := inClass (top 26) 0
noncomputable abbrev s__law_cell : Stmt := top 28
noncomputable abbrev s__law_drawn : Stmt := top 29
noncomputable abbrev s__law_scene : Stmt := top 30
noncomputable abbrev s_Plan__now : Stmt := inClass (top 26) 1
noncomputable abbrev s_box_of : Stmt := top 14
noncomputable abbrev s_children : Stmt := top 15
noncomputable abbrev s_below : Stmt := top 16
noncomputable abbrev s_Plan__step_to : Stmt := inClass (top 26) 2
noncomputable abbrev s_cut : Stmt := top 18
noncomputable abbrev s_Plan__take : Stmt := inClass (top 26) 4
noncomputable abbrev s_raised : Stmt := top 19
noncomputable abbrev s_Plan__lift : Stmt := inClass (top 26) 5
noncomputable abbrev s_with_other : Stmt := top 20
noncomputable abbrev s_marked : Stmt := top 21
noncomputable abbrev s_Plan__mark : Stmt := inClass (top 26) 6
noncomputable abbrev s_put_at : Stmt := top 22
noncomputable abbrev s_Plan__lay : Stmt := inClass (top 26) 7
noncomputable abbrev s_has_box : Stmt := top 13
noncomputable abbrev s_with_box : Stmt := top 17
noncomputable abbrev s_Plan__put : Stmt := inClass (top 26) 3
noncomputable abbrev s__law_step : Stmt := top 31
noncomputable abbrev s_Plan__back : Stmt := inClass (top 26) 8
noncomputable abbrev s_Plan__sizes : Stmt := inClass (top 26) 10
noncomputable abbrev s_Plan__forth : Stmt := inClass (top 26) 9
noncomputable abbrev s__law_goes : Stmt := top 33
noncomputable abbrev s_Plan__twin : Stmt := inClass (top 26) 11
noncomputable abbrev s__law_go_on : Stmt := top 32
noncomputable abbrev s_law : Stmt := top 34
structure Adr where
  C_Plan : Addr
  Plan____init__ : Addr
  d_Plan____init__ : FuncData
  _law_cell : Addr
  d__law_cell : FuncData
  _law_drawn : Addr
  d__law_drawn : FuncData
  _law_scene : Addr
  d__law_scene : FuncData
  Plan__now : Addr
  d_Plan__now : FuncData
  box_of : Addr
  d_box_of : FuncData
  children : Addr
  d_children : FuncData
  below : Addr
  d_below : FuncData
  Plan__step_to : Addr
  d_Plan__step_to : FuncData
  cut : Addr
  d_cut : FuncData
  Plan__take : Addr
  d_Plan__take : FuncData
  raised : Addr
  d_raised : FuncData
  Plan__lift : Addr
  d_Plan__lift : FuncData
  with_other : Addr
  d_with_other : FuncData
  marked : Addr
  d_marked : FuncData
  Plan__mark : Addr
  d_Plan__mark : FuncData
  put_at : Addr
  d_put_at : FuncData
  Plan__lay : Addr
  d_Plan__lay : FuncData
  has_box : Addr
  d_has_box : FuncData
  with_box : Addr
  d_with_box : FuncData
  Plan__put : Addr
  d_Plan__put : FuncData
  _law_step : Addr
  d__law_step : FuncData
  Plan__back : Addr
  d_Plan__back : FuncData
  Plan__sizes : Addr
  d_Plan__sizes : FuncData
  Plan__forth : Addr
  d_Plan__forth : FuncData
  _law_goes : Addr
  d__law_goes : FuncData
  Plan__twin : Addr
  d_Plan__twin : FuncData
  _law_go_on : Addr
  d__law_go_on : FuncData
  law : Addr
  d_law : FuncData
  t_AROUND : Tok
  t_LEFT : Tok
  t_MARKS : Tok
  t_MOST_BOXES : Tok
  t_NAME : Tok
  t_SCENE : Tok
  t_WIDTH : Tok
  t_WORD : Tok
noncomputable def cl (t : Adr) : Nat → Addr
  | _ => t.C_Plan
structure Tx (K : PySem.W.Frag) (mg : Str → Option Value) (t : Adr) : Prop where
  cl_Plan : Cls K (cl t 0)
  mk_Plan : Mk K (cl t 0) t.Plan____init__
  mg_Plan : mg "Plan" = some (.ref (cl t 0))
  na_Plan_done : NoAttr K (cl t 0) "done"
  na_Plan_scene : NoAttr K (cl t 0) "scene"
  na_Plan_undone : NoAttr K (cl t 0) "undone"
  F_Plan____init__ : Fun K "__init__" "Plan.__init__" s_Plan____init__ t.Plan____init__ t.d_Plan____init__
  b_Plan____init__ : Binds K t.d_Plan____init__ ["self", "scene"] []
  F__law_cell : Fun K "_law_cell" "_law_cell" s__law_cell t._law_cell t.d__law_cell
  m__law_cell : mg "_law_cell" = some (.ref t._law_cell)
  b__law_cell : Binds K t.d__law_cell ["_law_script", "_law_k"] []
  F__law_drawn : Fun K "_law_drawn" "_law_drawn" s__law_drawn t._law_drawn t.d__law_drawn
  m__law_drawn : mg "_law_drawn" = some (.ref t._law_drawn)
  b__law_drawn : Binds K t.d__law_drawn ["_law_script", "_law_k", "_law_many"] []
  F__law_scene : Fun K "_law_scene" "_law_scene" s__law_scene t._law_scene t.d__law_scene
  m__law_scene : mg "_law_scene" = some (.ref t._law_scene)
  b__law_scene : Binds K t.d__law_scene ["_law_script", "_law_at"] []
  F_Plan__now : Fun K "now" "Plan.now" s_Plan__now t.Plan__now t.d_Plan__now
  me_Plan__now : Meth K (cl t 0) "now" t.Plan__now
  b_Plan__now : Binds K t.d_Plan__now ["self"] []
  F_box_of : Fun K "box_of" "box_of" s_box_of t.box_of t.d_box_of
  m_box_of : mg "box_of" = some (.ref t.box_of)
  b_box_of : Binds K t.d_box_of ["scene", "name"] []
  F_children : Fun K "children" "children" s_children t.children t.d_children
  m_children : mg "children" = some (.ref t.children)
  b_children : Binds K t.d_children ["scene", "name"] []
  F_below : Fun K "below" "below" s_below t.below t.d_below
  m_below : mg "below" = some (.ref t.below)
  b_below : Binds K t.d_below ["scene", "name"] []
  F_Plan__step_to : Fun K "step_to" "Plan.step_to" s_Plan__step_to t.Plan__step_to t.d_Plan__step_to
  me_Plan__step_to : Meth K (cl t 0) "step_to" t.Plan__step_to
  b_Plan__step_to : Binds K t.d_Plan__step_to ["self", "word", "scene"] []
  F_cut : Fun K "cut" "cut" s_cut t.cut t.d_cut
  m_cut : mg "cut" = some (.ref t.cut)
  b_cut : Binds K t.d_cut ["scene", "name"] []
  F_Plan__take : Fun K "take" "Plan.take" s_Plan__take t.Plan__take t.d_Plan__take
  me_Plan__take : Meth K (cl t 0) "take" t.Plan__take
  b_Plan__take : Binds K t.d_Plan__take ["self", "name"] []
  F_raised : Fun K "raised" "raised" s_raised t.raised t.d_raised
  m_raised : mg "raised" = some (.ref t.raised)
  b_raised : Binds K t.d_raised ["scene", "name"] []
  F_Plan__lift : Fun K "lift" "Plan.lift" s_Plan__lift t.Plan__lift t.d_Plan__lift
  me_Plan__lift : Meth K (cl t 0) "lift" t.Plan__lift
  b_Plan__lift : Binds K t.d_Plan__lift ["self", "name"] []
  F_with_other : Fun K "with_other" "with_other" s_with_other t.with_other t.d_with_other
  m_with_other : mg "with_other" = some (.ref t.with_other)
  b_with_other : Binds K t.d_with_other ["scene", "other"] []
  F_marked : Fun K "marked" "marked" s_marked t.marked t.d_marked
  m_marked : mg "marked" = some (.ref t.marked)
  b_marked : Binds K t.d_marked ["scene", "name", "marks"] []
  F_Plan__mark : Fun K "mark" "Plan.mark" s_Plan__mark t.Plan__mark t.d_Plan__mark
  me_Plan__mark : Meth K (cl t 0) "mark" t.Plan__mark
  b_Plan__mark : Binds K t.d_Plan__mark ["self", "name", "marks"] []
  F_put_at : Fun K "put_at" "put_at" s_put_at t.put_at t.d_put_at
  m_put_at : mg "put_at" = some (.ref t.put_at)
  b_put_at : Binds K t.d_put_at ["scene", "name", "left", "top"] []
  F_Plan__lay : Fun K "lay" "Plan.lay" s_Plan__lay t.Plan__lay t.d_Plan__lay
  me_Plan__lay : Meth K (cl t 0) "lay" t.Plan__lay
  b_Plan__lay : Binds K t.d_Plan__lay ["self", "name", "left", "top"] []
  F_has_box : Fun K "has_box" "has_box" s_has_box t.has_box t.d_has_box
  m_has_box : mg "has_box" = some (.ref t.has_box)
  b_has_box : Binds K t.d_has_box ["scene", "name"] []
  F_with_box : Fun K "with_box" "with_box" s_with_box t.with_box t.d_with_box
  m_with_box : mg "with_box" = some (.ref t.with_box)
  b_with_box : Binds K t.d_with_box ["scene", "box"] []
  F_Plan__put : Fun K "put" "Plan.put" s_Plan__put t.Plan__put t.d_Plan__put
  me_Plan__put : Meth K (cl t 0) "put" t.Plan__put
  b_Plan__put : Binds K t.d_Plan__put ["self", "box"] []
  F__law_step : Fun K "_law_step" "_law_step" s__law_step t._law_step t.d__law_step
  m__law_step : mg "_law_step" = some (.ref t._law_step)
  b__law_step : Binds K t.d__law_step ["_law_script", "_law_at", "_law_plan"] []
  F_Plan__back : Fun K "back" "Plan.back" s_Plan__back t.Plan__back t.d_Plan__back
  me_Plan__back : Meth K (cl t 0) "back" t.Plan__back
  b_Plan__back : Binds K t.d_Plan__back ["self"] []
  F_Plan__sizes : Fun K "sizes" "Plan.sizes" s_Plan__sizes t.Plan__sizes t.d_Plan__sizes
  me_Plan__sizes : Meth K (cl t 0) "sizes" t.Plan__sizes
  b_Plan__sizes : Binds K t.d_Plan__sizes ["self"] []
  F_Plan__forth : Fun K "forth" "Plan.forth" s_Plan__forth t.Plan__forth t.d_Plan__forth
  me_Plan__forth : Meth K (cl t 0) "forth" t.Plan__forth
  b_Plan__forth : Binds K t.d_Plan__forth ["self"] []
  F__law_goes : Fun K "_law_goes" "_law_goes" s__law_goes t._law_goes t.d__law_goes
  m__law_goes : mg "_law_goes" = some (.ref t._law_goes)
  b__law_goes : Binds K t.d__law_goes ["_law_plan", "_law_rows"] []
  F_Plan__twin : Fun K "twin" "Plan.twin" s_Plan__twin t.Plan__twin t.d_Plan__twin
  me_Plan__twin : Meth K (cl t 0) "twin" t.Plan__twin
  b_Plan__twin : Binds K t.d_Plan__twin ["self"] []
  F__law_go_on : Fun K "_law_go_on" "_law_go_on" s__law_go_on t._law_go_on t.d__law_go_on
  m__law_go_on : mg "_law_go_on" = some (.ref t._law_go_on)
  b__law_go_on : Binds K t.d__law_go_on ["_law_script", "_law_plan"] []
  F_law : Fun K "law" "law" s_law t.law t.d_law
  m_law : mg "law" = some (.ref t.law)
  b_law : Binds K t.d_law ["_law_script"] []
  c_AROUND : mg "AROUND" = some (.int (1) t.t_AROUND)
  c_LEFT : mg "LEFT" = some (.int (2) t.t_LEFT)
  c_MARKS : mg "MARKS" = some (.int (6) t.t_MARKS)
  c_MOST_BOXES : mg "MOST_BOXES" = some (.int (12) t.t_MOST_BOXES)
  c_NAME : mg "NAME" = some (.int (0) t.t_NAME)
  c_SCENE : mg "SCENE" = some (.int (1) t.t_SCENE)
  c_WIDTH : mg "WIDTH" = some (.int (4) t.t_WIDTH)
  c_WORD : mg "WORD" = some (.int (0) t.t_WORD)
  z_any : mg "any" = none
  z_enumerate : mg "enumerate" = none
  z_len : mg "len" = none
  z_list : mg "list" = none
  z_range : mg "range" = none
  z_tuple : mg "tuple" = none
section
variable {Pr : Program} {w : World} {K : PySem.W.Frag} {mg : Str → Option Value} {base : Heap} {t : Adr}
noncomputable abbrev N_Plan____init__ : List Str := ["self", "scene"]
theorem sc_Plan____init__ : FnScope ["self", "scene"] ["self", "scene"] (defScope s_Plan____init__) := ⟨rfl, rfl, rfl, by decide +kernel, rfl, by decide +kernel, by decide +kernel⟩
noncomputable def g_Plan____init__  : Wd → Option MOut :=
  (mSeq (mPut 0 "scene" (mV 0) (mP (eV 1)))
    (mSeq (mPut 0 "done" (mV 0) (mN (fun η => (aN η).bind gL)))
    (mPut 0 "undone" (mV 0) (mN (fun η => (aN η).bind gL)))))
set_option maxHeartbeats 4000000 in
theorem ok_Plan____init__ {k : Nat} (tx : Tx K mg t)  : FnOk Pr w K mg base CX0 (k + 1) t.Plan____init__ t.d_Plan____init__ ["self", "scene"] (spM K (cl t) (runM 2 2 (g_Plan____init__))) :=
  fnM tx.F_Plan____init__ sc_Plan____init__ fun _ _ _ _ _ _ hr =>
    (@MSs.cons _ _ _ _ _ _ (MS.put (k := 0) (ME.v 0) (ME.pu fun _ => (E.v 1)) tx.na_Plan_scene)
    (@MSs.cons _ _ _ _ _ _ (MS.put (k := 0) (ME.v 0) (ME.nw fun _ => (EO.lst A.nil)) tx.na_Plan_done)
    (@MSs.one _ _ _ _ (MS.put (k := 0) (ME.v 0) (ME.nw fun _ => (EO.lst A.nil)) tx.na_Plan_undone))))
noncomputable abbrev N__law_cell : List Str := ["_law_script", "_law_k"]
theorem sc__law_cell : FnScope ["_law_script", "_law_k"] ["_law_script", "_law_k"] (defScope s__law_cell) := ⟨rfl, rfl, rfl, by decide +kernel, rfl, by decide +kernel, by decide +kernel⟩
noncomputable def g__law_cell  : En → Option Out :=
  (sSeq (sIf (bT (l2 pEq (eV 0) (oE (fun η => (aN η).bind gL)))) (sRet (l2 pMul (eC (.int 7)) (eV 1))) sNx)
    (sRet (l2 pAdd (l2 pIx (eV 0) (l2 pMod (eV 1) (lA pLen (aC (eV 0) aN)))) (l2 pMul (eC (.int 6553)) (l2 pFdiv (eV 1) (lA pLen (aC (eV 0) aN)))))))
set_option maxHeartbeats 4000000 in
theorem ok__law_cell {k : Nat} (tx : Tx K mg t)  : FnOk Pr w K mg base CX0 (k + 1) t._law_cell t.d__law_cell ["_law_script", "_law_k"] (spP K (runF 2 2 (g__law_cell))) :=
  fnP tx.F__law_cell sc__law_cell fun _ _ _ _ _ _ _ hr =>
    (@Ss.cons _ _ _ _ _ _ (@S.ifS _ _ _ _ _ _ _ _ _ (T.eq hr (E.v 0) (EO.toE (EO.lst A.nil))) (@Ss.one _ _ _ _ (S.ret (E.mul E.int (E.v 1)))) Ss.nil)
    (@Ss.one _ _ _ _ (S.ret (E.add (E.at (E.v 0) (E.mod (E.v 1) (E.len tx.z_len (A.cons (E.v 0) A.nil)))) (E.mul E.int (E.fdiv (E.v 1) (E.len tx.z_len (A.cons (E.v 0) A.nil))))))))
noncomputable abbrev N__law_drawn : List Str := ["_law_script", "_law_k", "_law_many", "_law_cell_here"]
theorem sc__law_drawn : FnScope ["_law_script", "_law_k", "_law_many", "_law_cell_here"] ["_law_script", "_law_k", "_law_many"] (defScope s__law_drawn) := ⟨rfl, rfl, rfl, by decide +kernel, rfl, by decide +kernel, by decide +kernel⟩
noncomputable def g__law_drawn (fn__law_cell : List PyData → Option PyData) : En → Option Out :=
  (sSeq (sSet 3 (l2 pMod (l2 pAdd (l2 pMul (l2 pMod (lA fn__law_cell (aC (eV 0) (aC (eV 1) aN))) (eC (.int 2147483563))) (eC (.int 69069))) (l2 pMul (eC (.int 104723)) (l2 pAdd (eV 1) (eC (.int 1))))) (eC (.int 2147483563))))
    (sSeq (sSet 3 (l2 pMod (l2 pAdd (l2 pMul (eV 3) (eV 3)) (l2 pFdiv (eV 3) (eC (.int 3)))) (eC (.int 2147483399))))
    (sRet (l2 pMod (l2 pFdiv (l2 pMod (l2 pAdd (l2 pMul (eV 3) (eV 3)) (l2 pFdiv (eV 3) (eC (.int 7)))) (eC (.int 2147483647))) (eC (.int 11))) (eV 2)))))
set_option maxHeartbeats 4000000 in
theorem ok__law_drawn {k : Nat} (tx : Tx K mg t) {k__law_cell : Nat} {fn__law_cell : List PyData → Option PyData} (G__law_cell : FnOk Pr w K mg base CX0 k__law_cell t._law_cell t.d__law_cell ["_law_script", "_law_k"] (spP K fn__law_cell)) (hk__law_cell : k__law_cell ≤ k) : FnOk Pr w K mg base CX0 (k + 1) t._law_drawn t.d__law_drawn ["_law_script", "_law_k", "_law_many"] (spP K (runF 3 4 (g__law_drawn fn__law_cell))) :=
  fnP tx.F__law_drawn sc__law_drawn fun _ _ _ _ _ _ _ hr =>
    (@Ss.cons _ _ _ _ _ _ (S.set 3 sc__law_drawn.nd (E.mod (E.add (E.mul (E.mod (E.call G__law_cell hr (by omega) tx.m__law_cell tx.F__law_cell.kp tx.b__law_cell (A.cons (E.v 0) (A.cons (E.v 1) A.nil))) E.int) E.int) (E.mul E.int (E.add (E.v 1) E.int))) E.int))
    (@Ss.cons _ _ _ _ _ _ (S.set 3 sc__law_drawn.nd (E.mod (E.add (E.mul (E.v 3) (E.v 3)) (E.fdiv (E.v 3) E.int)) E.int))
    (@Ss.one _ _ _ _ (S.ret (E.mod (E.fdiv (E.mod (E.add (E.mul (E.v 3) (E.v 3)) (E.fdiv (E.v 3) E.int)) E.int) E.int) (E.v 2))))))
noncomputable abbrev N__law_scene : List Str := ["_law_script", "_law_at", "_law_found", "_law_turn", "_law_k", "_law_here", "_law_around", "_law_places", "_law_sizes", "_law_marks", "_law_j", "_law_sign", "_law_name"]
theorem sc__law_scene : FnScope ["_law_script", "_law_at", "_law_found", "_law_turn", "_law_k", "_law_here", "_law_around", "_law_places", "_law_sizes", "_law_marks", "_law_j", "_law_sign", "_law_name"] ["_law_script", "_law_at"] (defScope s__law_scene) := ⟨rfl, rfl, rfl, by decide +kernel, rfl, by decide +kernel, by decide +kernel⟩
noncomputable def g__law_scene (fn__law_drawn : List PyData → Option PyData) : En → Option Out :=
  (sSeq (sSet 2 (lA (fun ds => if ds.length ≤ sizeLine then some (.tuple ds) else none) aN))
    (sSeq (sSet 3 (lA fn__law_drawn (aC (eV 0) (aC (l2 pAdd (eV 1) (eC (.int 1))) (aC (eC (.int 8)) aN)))))
    (sSeq (sFor (fun η => ((aC (lA fn__law_drawn (aC (eV 0) (aC (eV 1) (aC (eC (.int 8)) aN)))) aN) η).bind rng1) (tgN 4)
    (sSeq (sSet 5 (l2 pAdd (l2 pAdd (eV 1) (eC (.int 3))) (l2 pMul (eC (.int 9)) (eV 4))))
    (sSeq (sSet 6 (l2 pIx (l2 pAdd (oE (fun η => ((aC (eC (.str "")) aN) η).bind gL)) (oE (sComp [none] (lI asTu (eV 2)) (tgN 0) tTrue (l2 pIx (eV 0) (eC (.int 0)))))) (lA fn__law_drawn (aC (eV 0) (aC (eV 5) (aC (l2 pAdd (eV 4) (eC (.int 1))) aN))))))
    (sSeq (sSetO 7 (sComp [none, some 0, some 5] (fun η => ((aC (eC (.int 2)) aN) η).bind rng1) (tgN 0) tTrue (l2 pSub (lA fn__law_drawn (aC (eV 1) (aC (l2 pAdd (l2 pAdd (eV 2) (eC (.int 1))) (eV 0)) (aC (eC (.int 9)) aN)))) (eC (.int 3)))))
    (fun η => (sSeq (sSetO 8 (sComp [none, some 0, some 5] (fun η => ((aC (eC (.int 2)) aN) η).bind rng1) (tgN 0) tTrue (lA fn__law_drawn (aC (eV 1) (aC (l2 pAdd (l2 pAdd (eV 2) (eC (.int 3))) (eV 0)) (aC (eC (.int 9)) aN))))))
    (fun η => (sSeq (sSet 9 (eC (.str "")))
    (sSeq (sFor (fun η => ((aC (eC (.str "cfhl")) aN) η).bind enS) (tgT (tgCons (tgN 10) (tgCons (tgN 11) tgNil)))
    (sIf (bT (l2 pEq (lA fn__law_drawn (aC (eV 0) (aC (l2 pAdd (l2 pAdd (eV 5) (eC (.int 5))) (eV 10)) (aC (l2 pIx (oE (fun η => ((aC (eC (.int 4)) (aC (eC (.int 2)) (aC (eC (.int 9)) (aC (eC (.int 6)) aN)))) η).bind gL)) (eV 10)) aN)))) (eC (.int 0)))) (sSet 9 (l2 pAdd (eV 9) (eV 11))) sNx))
    (sSeq (sSet 12 (l2 pIx (eC (.str "dbgahcfe")) (l2 pMod (l2 pAdd (eV 4) (eV 3)) (eC (.int 8)))))
    (sSet 2 (l2 pAdd (eV 2) (lA (fun ds => if ds.length ≤ sizeLine then some (.tuple ds) else none) (aC (l2 pAdd (l2 pAdd (lA (fun ds => if ds.length ≤ sizeLine then some (.tuple ds) else none) (aC (eV 12) (aC (eV 6) aN))) (lA pTup (aC (l2 pAdd (eV 7) (eV 8)) aN))) (lA (fun ds => if ds.length ≤ sizeLine then some (.tuple ds) else none) (aC (eV 9) aN))) aN))))))) (frz 8 η))) (frz 7 η))))))
    (sRet (eV 2)))))
set_option maxHeartbeats 4000000 in
theorem ok__law_scene {k : Nat} (tx : Tx K mg t) {k__law_drawn : Nat} {fn__law_drawn : List PyData → Option PyData} (G__law_drawn : FnOk Pr w K mg base CX0 k__law_drawn t._law_drawn t.d__law_drawn ["_law_script", "_law_k", "_law_many"] (spP K fn__law_drawn)) (hk__law_drawn : k__law_drawn ≤ k) : FnOk Pr w K mg base CX0 (k + 1) t._law_scene t.d__law_scene ["_law_script", "_law_at"] (spP K (runF 2 13 (g__law_scene fn__law_drawn))) :=
  fnP tx.F__law_scene sc__law_scene fun _ _ _ _ _ _ _ hr =>
    (@Ss.cons _ _ _ _ _ _ (S.set 2 sc__law_scene.nd (E.tup A.nil))
    (@Ss.cons _ _ _ _ _ _ (S.set 3 sc__law_scene.nd (E.call G__law_drawn hr (by omega) tx.m__law_drawn tx.F__law_drawn.kp tx.b__law_drawn (A.cons (E.v 0) (A.cons (E.add (E.v 1) E.int) (A.cons E.int A.nil)))))
    (@Ss.cons _ _ _ _ _ _ (@S.for _ _ _ _ _ _ _ _ _ _ _ PassesOwn.never rfl (I.rng1 tx.z_range (A.cons (E.call G__law_drawn hr (by omega) tx.m__law_drawn tx.F__law_drawn.kp tx.b__law_drawn (A.cons (E.v 0) (A.cons (E.v 1) (A.cons E.int A.nil)))) A.nil)) (pg_name (i := 4) sc__law_scene.nd rfl (by first | exact Or.inl rfl | exact Or.inr rfl) ) (TgP.name (i := 4))
    (@Ss.cons _ _ _ _ _ _ (S.set 5 sc__law_scene.nd (E.add (E.add (E.v 1) E.int) (E.mul E.int (E.v 4))))
    (@Ss.cons _ _ _ _ _ _ (S.set 6 sc__law_scene.nd (E.at (E.add (EO.toE (EO.lst (A.cons E.str A.nil))) (EO.toE (EO.comp (N' := ["_law_box"]) (mp := [none]) rfl (CompSc.of' N__law_scene (defScope s__law_scene) rfl rfl (by decide +kernel)) (TgP.name (i := 0)) (by decide) (I.tup (E.v 2)) (fun _ _ _ => ⟨(pg_name (i := 0) (show (["_law_box"] : List Str).Nodup by decide +kernel) rfl (Or.inl rfl) (.inr rfl)), Ts.nil, (E.at (E.v 0) E.int)⟩)))) (E.call G__law_drawn hr (by omega) tx.m__law_drawn tx.F__law_drawn.kp tx.b__law_drawn (A.cons (E.v 0) (A.cons (E.v 5) (A.cons (E.add (E.v 4) E.int) A.nil))))))
    (@Ss.cons _ _ _ _ _ _ (S.setC 7 (N' := ["_law_j", "_law_script", "_law_here"]) (mp := [none, some 0, some 5]) rfl sc__law_scene.nd (CompSc.of' N__law_scene (defScope s__law_scene) rfl rfl (by decide +kernel)) (TgP.name (i := 0)) (by decide) (I.rng1 tx.z_range (A.cons E.int A.nil)) (fun _ _ _ => ⟨(pg_name (i := 0) (show (["_law_j", "_law_script", "_law_here"] : List Str).Nodup by decide +kernel) rfl (Or.inl rfl) (.inr rfl)), Ts.nil, (E.sub (E.call G__law_drawn hr (by omega) tx.m__law_drawn tx.F__law_drawn.kp tx.b__law_drawn (A.cons (E.v 1) (A.cons (E.add (E.add (E.v 2) E.int) (E.v 0)) (A.cons E.int A.nil)))) E.int)⟩))
    (@Ss.frz _ _ _ _ 7 (@Ss.cons _ _ _ _ _ _ (S.setC 8 (N' := ["_law_j", "_law_script", "_law_here"]) (mp := [none, some 0, some 5]) rfl sc__law_scene.nd (CompSc.of' N__law_scene (defScope s__law_scene) rfl rfl (by decide +kernel)) (TgP.name (i := 0)) (by decide) (I.rng1 tx.z_range (A.cons E.int A.nil)) (fun _ _ _ => ⟨(pg_name (i := 0) (show (["_law_j", "_law_script", "_law_here"] : List Str).Nodup by decide +kernel) rfl (Or.inl rfl) (.inr rfl)), Ts.nil, (E.call G__law_drawn hr (by omega) tx.m__law_drawn tx.F__law_drawn.kp tx.b__law_drawn (A.cons (E.v 1) (A.cons (E.add (E.add (E.v 2) E.int) (E.v 0)) (A.cons E.int A.nil))))⟩))
    (@Ss.frz _ _ _ _ 8 (@Ss.cons _ _ _ _ _ _ (S.set 9 sc__law_scene.nd E.str)
    (@Ss.cons _ _ _ _ _ _ (@S.for _ _ _ _ _ _ _ _ _ _ _ PassesOwn.never rfl (I.enum rfl tx.z_enumerate (A.cons E.str A.nil)) (pg_tup (n := 2) rfl (pgs_cons (pg_name (i := 10) sc__law_scene.nd rfl (by first | exact Or.inl rfl | exact Or.inr rfl) ) (pgs_cons (pg_name (i := 11) sc__law_scene.nd rfl (by first | exact Or.inl rfl | exact Or.inr rfl) ) pgs_nil))) (TgP.tup (n := 2) (TgsP.cons (TgP.name (i := 10)) (TgsP.cons (TgP.name (i := 11)) TgsP.nil)) (tg_len2))
    (@Ss.one _ _ _ _ (@S.ifS _ _ _ _ _ _ _ _ _ (T.eq hr (E.call G__law_drawn hr (by omega) tx.m__law_drawn tx.F__law_drawn.kp tx.b__law_drawn (A.cons (E.v 0) (A.cons (E.add (E.add (E.v 5) E.int) (E.v 10)) (A.cons (E.at (EO.toE (EO.lst (A.cons E.int (A.cons E.int (A.cons E.int (A.cons E.int A.nil)))))) (E.v 10)) A.nil)))) E.int) (@Ss.one _ _ _ _ (S.set 9 sc__law_scene.nd (E.add (E.v 9) (E.v 11)))) Ss.nil)) (fun _ => rfl))
    (@Ss.cons _ _ _ _ _ _ (S.set 12 sc__law_scene.nd (E.at E.str (E.mod (E.add (E.v 4) (E.v 3)) E.int)))
    (@Ss.one _ _ _ _ (S.set 2 sc__law_scene.nd (E.add (E.v 2) (E.tup (A.cons (E.add (E.add (E.tup (A.cons (E.v 12) (A.cons (E.v 6) A.nil))) (E.tuple tx.z_tuple (A.cons (E.add (E.v 7) (E.v 8)) A.nil))) (E.tup (A.cons (E.v 9) A.nil))) A.nil)))))))))))))) (fun _ => rfl))
    (@Ss.one _ _ _ _ (S.ret (E.v 2))))))
noncomputable abbrev N_Plan__now : List Str := ["self"]
theorem sc_Plan__now : FnScope ["self"] ["self"] (defScope s_Plan__now) := ⟨rfl, rfl, rfl, by decide +kernel, rfl, by decide +kernel, by decide +kernel⟩
noncomputable def g_Plan__now  : Wd → Option MOut :=
  (mRet (mP (eFld 0 "scene")))
set_option maxHeartbeats 4000000 in
theorem ok_Plan__now {k : Nat} (tx : Tx K mg t)  : FnOk Pr w K mg base CX0 (k + 1) t.Plan__now t.d_Plan__now ["self"] (spM K (cl t) (runM 1 1 (g_Plan__now))) :=
  fnM tx.F_Plan__now sc_Plan__now fun _ _ _ _ _ _ hr =>
    (@MSs.one _ _ _ _ (MS.ret (ME.pu fun _ => (E.fld 0))))
noncomputable abbrev N_box_of : List Str := ["scene", "name", "box"]
theorem sc_box_of : FnScope ["scene", "name", "box"] ["scene", "name"] (defScope s_box_of) := ⟨rfl, rfl, rfl, by decide +kernel, rfl, by decide +kernel, by decide +kernel⟩
noncomputable def g_box_of  : En → Option Out :=
  (sSeq (sFor (lI asTu (eV 0)) (tgN 2)
    (sIf (bT (l2 pEq (l2 pIx (eV 2) (eC (.int 0))) (eV 1))) (sRet (eV 2)) sNx))
    (fun _ => none))
set_option maxHeartbeats 4000000 in
theorem ok_box_of {k : Nat} (tx : Tx K mg t)  : FnOk Pr w K mg base CX0 (k + 1) t.box_of t.d_box_of ["scene", "name"] (spP K (runF 2 3 (g_box_of))) :=
  fnP tx.F_box_of sc_box_of fun _ _ _ _ _ _ _ hr =>
    (@Ss.cons _ _ _ _ _ _ (@S.for _ _ _ _ _ _ _ _ _ _ _ PassesOwn.never rfl (I.tup (E.v 0)) (pg_name (i := 2) sc_box_of.nd rfl (by first | exact Or.inl rfl | exact Or.inr rfl) ) (TgP.name (i := 2))
    (@Ss.one _ _ _ _ (@S.ifS _ _ _ _ _ _ _ _ _ (T.eq hr (E.at (E.v 2) (E.globI tx.c_NAME)) (E.v 1)) (@Ss.one _ _ _ _ (S.ret (E.v 2))) Ss.nil)) (fun _ => rfl))
    (@Ss.one _ _ _ _ S.never))
noncomputable abbrev N_children : List Str := ["scene", "name"]
theorem sc_children : FnScope ["scene", "name"] ["scene", "name"] (defScope s_children) := ⟨rfl, rfl, rfl, by decide +kernel, rfl, by decide +kernel, by decide +kernel⟩
noncomputable def g_children  : En → Option Out :=
  (sRet (oE (sComp [none, some 1] (lI asTu (eV 0)) (tgN 0) (bT (l2 pEq (l2 pIx (eV 0) (eC (.int 1))) (eV 1))) (l2 pIx (eV 0) (eC (.int 0))))))
set_option maxHeartbeats 4000000 in
theorem ok_children {k : Nat} (tx : Tx K mg t)  : FnOk Pr w K mg base CX0 (k + 1) t.children t.d_children ["scene", "name"] (spP K (runF 2 2 (g_children))) :=
  fnP tx.F_children sc_children fun _ _ _ _ _ _ _ hr =>
    (@Ss.one _ _ _ _ (S.ret (EO.toE (EO.comp (N' := ["box", "name"]) (mp := [none, some 1]) rfl (CompSc.of' N_children (defScope s_children) rfl rfl (by decide +kernel)) (TgP.name (i := 0)) (by decide) (I.tup (E.v 0)) (fun _ _ _ => ⟨(pg_name (i := 0) (show (["box", "name"] : List Str).Nodup by decide +kernel) rfl (Or.inl rfl) (.inr rfl)), (Ts.one (T.eq hr (E.at (E.v 0) (E.globI tx.c_AROUND)) (E.v 1))), (E.at (E.v 0) (E.globI tx.c_NAME))⟩)))))
noncomputable abbrev N_below : List Str := ["scene", "name", "names", "child"]
theorem sc_below : FnScope ["scene", "name", "names", "child"] ["scene", "name"] (defScope s_below) := ⟨rfl, rfl, rfl, by decide +kernel, rfl, by decide +kernel, by decide +kernel⟩
noncomputable def g_below (fn_box_of : List PyData → Option PyData) (fn_children : List PyData → Option PyData) (fn_below : List PyData → Option PyData) : En → Option Out :=
  (sSeq (sSetO 2 (fun η => ((aC (l2 pIx (lA fn_box_of (aC (eV 0) (aC (eV 1) aN))) (eC (.int 0))) aN) η).bind gL))
    (sSeq (sFor (lI asL (lA fn_children (aC (eV 0) (aC (eV 1) aN)))) (tgN 3)
    (sExt 2 (lI asL (lA fn_below (aC (eV 0) (aC (eV 3) aN))))))
    (sRetO 2)))
set_option maxHeartbeats 4000000 in
theorem ok_below {k : Nat} (tx : Tx K mg t) {k_box_of : Nat} {fn_box_of : List PyData → Option PyData} (G_box_of : FnOk Pr w K mg base CX0 k_box_of t.box_of t.d_box_of ["scene", "name"] (spP K fn_box_of)) (hk_box_of : k_box_of ≤ k) {k_children : Nat} {fn_children : List PyData → Option PyData} (G_children : FnOk Pr w K mg base CX0 k_children t.children t.d_children ["scene", "name"] (spP K fn_children)) (hk_children : k_children ≤ k) {k_below : Nat} {fn_below : List PyData → Option PyData} (G_below : FnOk Pr w K mg base CX0 k_below t.below t.d_below ["scene", "name"] (spP K fn_below)) (hk_below : k_below ≤ k) : FnOk Pr w K mg base CX0 (k + 1) t.below t.d_below ["scene", "name"] (spP K (runF 2 4 (g_below fn_box_of fn_children fn_below))) :=
  fnP tx.F_below sc_below fun _ _ _ _ _ _ _ hr =>
    (@Ss.cons _ _ _ _ _ _ (S.setO 2 sc_below.nd (EO.lst (A.cons (E.at (E.call G_box_of hr (by omega) tx.m_box_of tx.F_box_of.kp tx.b_box_of (A.cons (E.v 0) (A.cons (E.v 1) A.nil))) (E.globI tx.c_NAME)) A.nil)))
    (@Ss.cons _ _ _ _ _ _ (@S.for _ _ _ _ _ _ _ _ _ _ _ PassesOwn.never rfl (I.list (E.call G_children hr (by omega) tx.m_children tx.F_children.kp tx.b_children (A.cons (E.v 0) (A.cons (E.v 1) A.nil)))) (pg_name (i := 3) sc_below.nd rfl (by first | exact Or.inl rfl | exact Or.inr rfl) ) (TgP.name (i := 3))
    (@Ss.one _ _ _ _ (S.ext 2 (E.call G_below hr (by omega) tx.m_below tx.F_below.kp tx.b_below (A.cons (E.v 0) (A.cons (E.v 3) A.nil))))) (fun _ => rfl))
    (@Ss.one _ _ _ _ (S.retO 2))))
noncomputable abbrev N_Plan__step_to : List Str := ["self", "word", "scene"]
theorem sc_Plan__step_to : FnScope ["self", "word", "scene"] ["self", "word", "scene"] (defScope s_Plan__step_to) := ⟨rfl, rfl, rfl, by decide +kernel, rfl, by decide +kernel, by decide +kernel⟩
noncomputable def g_Plan__step_to  : Wd → Option MOut :=
  (mSeq (mExp (mAppC (mFld (mV 0) "done") (mP (lA (fun ds => if ds.length ≤ sizeLine then some (.tuple ds) else none) (aC (eV 1) (aC (eFld 0 "scene") aN))))))
    (mSeq (mPut 0 "undone" (mV 0) (mN (fun η => (aN η).bind gL)))
    (mPut 0 "scene" (mV 0) (mP (eV 2)))))
set_option maxHeartbeats 4000000 in
theorem ok_Plan__step_to {k : Nat} (tx : Tx K mg t)  : FnOk Pr w K mg base CX0 (k + 1) t.Plan__step_to t.d_Plan__step_to ["self", "word", "scene"] (spM K (cl t) (runM 3 3 (g_Plan__step_to))) :=
  fnM tx.F_Plan__step_to sc_Plan__step_to fun _ _ _ _ _ _ hr =>
    (@MSs.cons _ _ _ _ _ _ (MS.exp (ME.appC (ME.fld (ME.v 0)) (ME.pu fun _ => (E.tup (A.cons (E.v 1) (A.cons (E.fld 0) A.nil))))))
    (@MSs.cons _ _ _ _ _ _ (MS.put (k := 0) (ME.v 0) (ME.nw fun _ => (EO.lst A.nil)) tx.na_Plan_undone)
    (@MSs.one _ _ _ _ (MS.put (k := 0) (ME.v 0) (ME.pu fun _ => (E.v 2)) tx.na_Plan_scene))))
noncomputable abbrev N_cut : List Str := ["scene", "name", "gone"]
theorem sc_cut : FnScope ["scene", "name", "gone"] ["scene", "name"] (defScope s_cut) := ⟨rfl, rfl, rfl, by decide +kernel, rfl, by decide +kernel, by decide +kernel⟩
noncomputable def g_cut (fn_below : List PyData → Option PyData) : En → Option Out :=
  (sSeq (sSet 2 (lA fn_below (aC (eV 0) (aC (eV 1) aN))))
    (sRet (lA pTup (aC (oE (sComp [none, some 2] (lI asTu (eV 0)) (tgN 0) (bT (l2 (pIn true) (l2 pIx (eV 0) (eC (.int 0))) (eV 1))) (eV 0))) aN))))
set_option maxHeartbeats 4000000 in
theorem ok_cut {k : Nat} (tx : Tx K mg t) {k_below : Nat} {fn_below : List PyData → Option PyData} (G_below : FnOk Pr w K mg base CX0 k_below t.below t.d_below ["scene", "name"] (spP K fn_below)) (hk_below : k_below ≤ k) : FnOk Pr w K mg base CX0 (k + 1) t.cut t.d_cut ["scene", "name"] (spP K (runF 2 3 (g_cut fn_below))) :=
  fnP tx.F_cut sc_cut fun _ _ _ _ _ _ _ hr =>
    (@Ss.cons _ _ _ _ _ _ (S.set 2 sc_cut.nd (E.call G_below hr (by omega) tx.m_below tx.F_below.kp tx.b_below (A.cons (E.v 0) (A.cons (E.v 1) A.nil))))
    (@Ss.one _ _ _ _ (S.ret (E.tuple tx.z_tuple (A.cons (EO.toE (EO.comp (N' := ["box", "gone"]) (mp := [none, some 2]) rfl (CompSc.of' N_cut (defScope s_cut) rfl rfl (by decide +kernel)) (TgP.name (i := 0)) (by decide) (I.tup (E.v 0)) (fun _ _ _ => ⟨(pg_name (i := 0) (show (["box", "gone"] : List Str).Nodup by decide +kernel) rfl (Or.inl rfl) (.inr rfl)), (Ts.one (T.notIn (E.at (E.v 0) (E.globI tx.c_NAME)) (E.v 1))), (E.v 0)⟩))) A.nil)))))
noncomputable abbrev N_Plan__take : List Str := ["self", "name", "names"]
theorem sc_Plan__take : FnScope ["self", "name", "names"] ["self", "name"] (defScope s_Plan__take) := ⟨rfl, rfl, rfl, by decide +kernel, rfl, by decide +kernel, by decide +kernel⟩
noncomputable def g_Plan__take (fn_below : List PyData → Option PyData) (fn_Plan__step_to : List D → Sto → Option (D × Sto)) (fn_cut : List PyData → Option PyData) : Wd → Option MOut :=
  (mSeq (mSet 2 (mP (lA fn_below (aC (eFld 0 "scene") (aC (eV 1) aN)))))
    (mSeq (mExp (mMeth 0 "step_to" fn_Plan__step_to (mV 0) (maC (mP (eC (.str "take"))) (maC (mP (lA fn_cut (aC (eFld 0 "scene") (aC (eV 1) aN)))) maN))))
    (mRet (mP (eV 2)))))
set_option maxHeartbeats 4000000 in
theorem ok_Plan__take {k : Nat} (tx : Tx K mg t) {k_below : Nat} {fn_below : List PyData → Option PyData} (G_below : FnOk Pr w K mg base CX0 k_below t.below t.d_below ["scene", "name"] (spP K fn_below)) (hk_below : k_below ≤ k) {k_Plan__step_to : Nat} {fn_Plan__step_to : List D → Sto → Option (D × Sto)} (G_Plan__step_to : FnOk Pr w K mg base CX0 k_Plan__step_to t.Plan__step_to t.d_Plan__step_to ["self", "word", "scene"] (spM K (cl t) fn_Plan__step_to)) (hk_Plan__step_to : k_Plan__step_to ≤ k) {k_cut : Nat} {fn_cut : List PyData → Option PyData} (G_cut : FnOk Pr w K mg base CX0 k_cut t.cut t.d_cut ["scene", "name"] (spP K fn_cut)) (hk_cut : k_cut ≤ k) : FnOk Pr w K mg base CX0 (k + 1) t.Plan__take t.d_Plan__take ["self", "name"] (spM K (cl t) (runM 2 3 (g_Plan__take fn_below fn_Plan__step_to fn_cut))) :=
  fnM tx.F_Plan__take sc_Plan__take fun _ _ _ _ _ _ hr =>
    (@MSs.cons _ _ _ _ _ _ (MS.set 2 sc_Plan__take.nd (ME.pu fun _ => (E.call G_below hr (by omega) tx.m_below tx.F_below.kp tx.b_below (A.cons (E.fld 0) (A.cons (E.v 1) A.nil)))))
    (@MSs.cons _ _ _ _ _ _ (MS.exp (ME.meth (kc := 0) (ME.v 0) tx.cl_Plan tx.me_Plan__step_to G_Plan__step_to hr (by omega) tx.b_Plan__step_to (MA.cons (ME.pu fun _ => E.str) (MA.cons (ME.pu fun _ => (E.call G_cut hr (by omega) tx.m_cut tx.F_cut.kp tx.b_cut (A.cons (E.fld 0) (A.cons (E.v 1) A.nil)))) MA.nil))))
    (@MSs.one _ _ _ _ (MS.ret (ME.pu fun _ => (E.v 2))))))
noncomputable abbrev N_raised : List Str := ["scene", "name", "lifted"]
theorem sc_raised : FnScope ["scene", "name", "lifted"] ["scene", "name"] (defScope s_raised) := ⟨rfl, rfl, rfl, by decide +kernel, rfl, by decide +kernel, by decide +kernel⟩
noncomputable def g_raised (fn_below : List PyData → Option PyData) (fn_cut : List PyData → Option PyData) : En → Option Out :=
  (sSeq (sSet 2 (lA fn_below (aC (eV 0) (aC (eV 1) aN))))
    (sRet (l2 pAdd (lA fn_cut (aC (eV 0) (aC (eV 1) aN))) (lA pTup (aC (oE (sComp [none, some 2] (lI asTu (eV 0)) (tgN 0) (bT (l2 (pIn false) (l2 pIx (eV 0) (eC (.int 0))) (eV 1))) (eV 0))) aN)))))
set_option maxHeartbeats 4000000 in
theorem ok_raised {k : Nat} (tx : Tx K mg t) {k_below : Nat} {fn_below : List PyData → Option PyData} (G_below : FnOk Pr w K mg base CX0 k_below t.below t.d_below ["scene", "name"] (spP K fn_below)) (hk_below : k_below ≤ k) {k_cut : Nat} {fn_cut : List PyData → Option PyData} (G_cut : FnOk Pr w K mg base CX0 k_cut t.cut t.d_cut ["scene", "name"] (spP K fn_cut)) (hk_cut : k_cut ≤ k) : FnOk Pr w K mg base CX0 (k + 1) t.raised t.d_raised ["scene", "name"] (spP K (runF 2 3 (g_raised fn_below fn_cut))) :=
  fnP tx.F_raised sc_raised fun _ _ _ _ _ _ _ hr =>
    (@Ss.cons _ _ _ _ _ _ (S.set 2 sc_raised.nd (E.call G_below hr (by omega) tx.m_below tx.F_below.kp tx.b_below (A.cons (E.v 0) (A.cons (E.v 1) A.nil))))
    (@Ss.one _ _ _ _ (S.ret (E.add (E.call G_cut hr (by omega) tx.m_cut tx.F_cut.kp tx.b_cut (A.cons (E.v 0) (A.cons (E.v 1) A.nil))) (E.tuple tx.z_tuple (A.cons (EO.toE (EO.comp (N' := ["box", "lifted"]) (mp := [none, some 2]) rfl (CompSc.of' N_raised (defScope s_raised) rfl rfl (by decide +kernel)) (TgP.name (i := 0)) (by decide) (I.tup (E.v 0)) (fun _ _ _ => ⟨(pg_name (i := 0) (show (["box", "lifted"] : List Str).Nodup by decide +kernel) rfl (Or.inl rfl) (.inr rfl)), (Ts.one (T.in (E.at (E.v 0) (E.globI tx.c_NAME)) (E.v 1))), (E.v 0)⟩))) A.nil))))))
noncomputable abbrev N_Plan__lift : List Str := ["self", "name"]
theorem sc_Plan__lift : FnScope ["self", "name"] ["self", "name"] (defScope s_Plan__lift) := ⟨rfl, rfl, rfl, by decide +kernel, rfl, by decide +kernel, by decide +kernel⟩
noncomputable def g_Plan__lift (fn_Plan__step_to : List D → Sto → Option (D × Sto)) (fn_raised : List PyData → Option PyData) : Wd → Option MOut :=
  (mExp (mMeth 0 "step_to" fn_Plan__step_to (mV 0) (maC (mP (eC (.str "lift"))) (maC (mP (lA fn_raised (aC (eFld 0 "scene") (aC (eV 1) aN)))) maN))))
set_option maxHeartbeats 4000000 in
theorem ok_Plan__lift {k : Nat} (tx : Tx K mg t) {k_Plan__step_to : Nat} {fn_Plan__step_to : List D → Sto → Option (D × Sto)} (G_Plan__step_to : FnOk Pr w K mg base CX0 k_Plan__step_to t.Plan__step_to t.d_Plan__step_to ["self", "word", "scene"] (spM K (cl t) fn_Plan__step_to)) (hk_Plan__step_to : k_Plan__step_to ≤ k) {k_raised : Nat} {fn_raised : List PyData → Option PyData} (G_raised : FnOk Pr w K mg base CX0 k_raised t.raised t.d_raised ["scene", "name"] (spP K fn_raised)) (hk_raised : k_raised ≤ k) : FnOk Pr w K mg base CX0 (k + 1) t.Plan__lift t.d_Plan__lift ["self", "name"] (spM K (cl t) (runM 2 2 (g_Plan__lift fn_Plan__step_to fn_raised))) :=
  fnM tx.F_Plan__lift sc_Plan__lift fun _ _ _ _ _ _ hr =>
    (@MSs.one _ _ _ _ (MS.exp (ME.meth (kc := 0) (ME.v 0) tx.cl_Plan tx.me_Plan__step_to G_Plan__step_to hr (by omega) tx.b_Plan__step_to (MA.cons (ME.pu fun _ => E.str) (MA.cons (ME.pu fun _ => (E.call G_raised hr (by omega) tx.m_raised tx.F_raised.kp tx.b_raised (A.cons (E.fld 0) (A.cons (E.v 1) A.nil)))) MA.nil)))))
noncomputable abbrev N_with_other : List Str := ["scene", "other"]
theorem sc_with_other : FnScope ["scene", "other"] ["scene", "other"] (defScope s_with_other) := ⟨rfl, rfl, rfl, by decide +kernel, rfl, by decide +kernel, by decide +kernel⟩
noncomputable def g_with_other  : En → Option Out :=
  (sRet (lA pTup (aC (oE (sComp [none, some 1] (lI asTu (eV 0)) (tgN 0) tTrue (vIf (bT (l2 pEq (l2 pIx (eV 0) (eC (.int 0))) (l2 pIx (eV 1) (eC (.int 0))))) (eV 1) (eV 0)))) aN)))
set_option maxHeartbeats 4000000 in
theorem ok_with_other {k : Nat} (tx : Tx K mg t)  : FnOk Pr w K mg base CX0 (k + 1) t.with_other t.d_with_other ["scene", "other"] (spP K (runF 2 2 (g_with_other))) :=
  fnP tx.F_with_other sc_with_other fun _ _ _ _ _ _ _ hr =>
    (@Ss.one _ _ _ _ (S.ret (E.tuple tx.z_tuple (A.cons (EO.toE (EO.comp (N' := ["box", "other"]) (mp := [none, some 1]) rfl (CompSc.of' N_with_other (defScope s_with_other) rfl rfl (by decide +kernel)) (TgP.name (i := 0)) (by decide) (I.tup (E.v 0)) (fun _ _ _ => ⟨(pg_name (i := 0) (show (["box", "other"] : List Str).Nodup by decide +kernel) rfl (Or.inl rfl) (.inr rfl)), Ts.nil, (E.ifE (T.eq hr (E.at (E.v 0) (E.globI tx.c_NAME)) (E.at (E.v 1) (E.globI tx.c_NAME))) (E.v 1) (E.v 0))⟩))) A.nil))))
noncomputable abbrev N_marked : List Str := ["scene", "name", "marks", "box"]
theorem sc_marked : FnScope ["scene", "name", "marks", "box"] ["scene", "name", "marks"] (defScope s_marked) := ⟨rfl, rfl, rfl, by decide +kernel, rfl, by decide +kernel, by decide +kernel⟩
noncomputable def g_marked (fn_box_of : List PyData → Option PyData) (fn_with_other : List PyData → Option PyData) : En → Option Out :=
  (sSeq (sSet 3 (lA fn_box_of (aC (eV 0) (aC (eV 1) aN))))
    (sRet (lA fn_with_other (aC (eV 0) (aC (l2 pAdd (eSl (eV 3) pN (pS (eC (.int 6)))) (lA (fun ds => if ds.length ≤ sizeLine then some (.tuple ds) else none) (aC (eV 2) aN))) aN)))))
set_option maxHeartbeats 4000000 in
theorem ok_marked {k : Nat} (tx : Tx K mg t) {k_box_of : Nat} {fn_box_of : List PyData → Option PyData} (G_box_of : FnOk Pr w K mg base CX0 k_box_of t.box_of t.d_box_of ["scene", "name"] (spP K fn_box_of)) (hk_box_of : k_box_of ≤ k) {k_with_other : Nat} {fn_with_other : List PyData → Option PyData} (G_with_other : FnOk Pr w K mg base CX0 k_with_other t.with_other t.d_with_other ["scene", "other"] (spP K fn_with_other)) (hk_with_other : k_with_other ≤ k) : FnOk Pr w K mg base CX0 (k + 1) t.marked t.d_marked ["scene", "name", "marks"] (spP K (runF 3 4 (g_marked fn_box_of fn_with_other))) :=
  fnP tx.F_marked sc_marked fun _ _ _ _ _ _ _ hr =>
    (@Ss.cons _ _ _ _ _ _ (S.set 3 sc_marked.nd (E.call G_box_of hr (by omega) tx.m_box_of tx.F_box_of.kp tx.b_box_of (A.cons (E.v 0) (A.cons (E.v 1) A.nil))))
    (@Ss.one _ _ _ _ (S.ret (E.call G_with_other hr (by omega) tx.m_with_other tx.F_with_other.kp tx.b_with_other (A.cons (E.v 0) (A.cons (E.add (E.sl (E.v 3) P.none (P.some (E.globI tx.c_MARKS))) (E.tup (A.cons (E.v 2) A.nil))) A.nil))))))
noncomputable abbrev N_Plan__mark : List Str := ["self", "name", "marks", "box"]
theorem sc_Plan__mark : FnScope ["self", "name", "marks", "box"] ["self", "name", "marks"] (defScope s_Plan__mark) := ⟨rfl, rfl, rfl, by decide +kernel, rfl, by decide +kernel, by decide +kernel⟩
noncomputable def g_Plan__mark (fn_box_of : List PyData → Option PyData) (fn_Plan__step_to : List D → Sto → Option (D × Sto)) (fn_marked : List PyData → Option PyData) : Wd → Option MOut :=
  (mSeq (mSet 3 (mP (lA fn_box_of (aC (eFld 0 "scene") (aC (eV 1) aN)))))
    (mSeq (mExp (mMeth 0 "step_to" fn_Plan__step_to (mV 0) (maC (mP (eC (.str "mark"))) (maC (mP (lA fn_marked (aC (eFld 0 "scene") (aC (eV 1) (aC (eV 2) aN))))) maN))))
    (mRet (mP (l2 pIx (eV 3) (eC (.int 6)))))))
set_option maxHeartbeats 4000000 in
theorem ok_Plan__mark {k : Nat} (tx : Tx K mg t) {k_box_of : Nat} {fn_box_of : List PyData → Option PyData} (G_box_of : FnOk Pr w K mg base CX0 k_box_of t.box_of t.d_box_of ["scene", "name"] (spP K fn_box_of)) (hk_box_of : k_box_of ≤ k) {k_Plan__step_to : Nat} {fn_Plan__step_to : List D → Sto → Option (D × Sto)} (G_Plan__step_to : FnOk Pr w K mg base CX0 k_Plan__step_to t.Plan__step_to t.d_Plan__step_to ["self", "word", "scene"] (spM K (cl t) fn_Plan__step_to)) (hk_Plan__step_to : k_Plan__step_to ≤ k) {k_marked : Nat} {fn_marked : List PyData → Option PyData} (G_marked : FnOk Pr w K mg base CX0 k_marked t.marked t.d_marked ["scene", "name", "marks"] (spP K fn_marked)) (hk_marked : k_marked ≤ k) : FnOk Pr w K mg base CX0 (k + 1) t.Plan__mark t.d_Plan__mark ["self", "name", "marks"] (spM K (cl t) (runM 3 4 (g_Plan__mark fn_box_of fn_Plan__step_to fn_marked))) :=
  fnM tx.F_Plan__mark sc_Plan__mark fun _ _ _ _ _ _ hr =>
    (@MSs.cons _ _ _ _ _ _ (MS.set 3 sc_Plan__mark.nd (ME.pu fun _ => (E.call G_box_of hr (by omega) tx.m_box_of tx.F_box_of.kp tx.b_box_of (A.cons (E.fld 0) (A.cons (E.v 1) A.nil)))))
    (@MSs.cons _ _ _ _ _ _ (MS.exp (ME.meth (kc := 0) (ME.v 0) tx.cl_Plan tx.me_Plan__step_to G_Plan__step_to hr (by omega) tx.b_Plan__step_to (MA.cons (ME.pu fun _ => E.str) (MA.cons (ME.pu fun _ => (E.call G_marked hr (by omega) tx.m_marked tx.F_marked.kp tx.b_marked (A.cons (E.fld 0) (A.cons (E.v 1) (A.cons (E.v 2) A.nil))))) MA.nil))))
    (@MSs.one _ _ _ _ (MS.ret (ME.pu fun _ => (E.at (E.v 3) (E.globI tx.c_MARKS)))))))
noncomputable abbrev N_put_at : List Str := ["scene", "name", "left", "top", "box"]
theorem sc_put_at : FnScope ["scene", "name", "left", "top", "box"] ["scene", "name", "left", "top"] (defScope s_put_at) := ⟨rfl, rfl, rfl, by decide +kernel, rfl, by decide +kernel, by decide +kernel⟩
noncomputable def g_put_at (fn_box_of : List PyData → Option PyData) (fn_with_other : List PyData → Option PyData) : En → Option Out :=
  (sSeq (sSet 4 (lA fn_box_of (aC (eV 0) (aC (eV 1) aN))))
    (sRet (lA fn_with_other (aC (eV 0) (aC (l2 pAdd (l2 pAdd (eSl (eV 4) pN (pS (eC (.int 2)))) (lA (fun ds => if ds.length ≤ sizeLine then some (.tuple ds) else none) (aC (eV 2) (aC (eV 3) aN)))) (eSl (eV 4) (pS (eC (.int 4))) pN)) aN)))))
set_option maxHeartbeats 4000000 in
theorem ok_put_at {k : Nat} (tx : Tx K mg t) {k_box_of : Nat} {fn_box_of : List PyData → Option PyData} (G_box_of : FnOk Pr w K mg base CX0 k_box_of t.box_of t.d_box_of ["scene", "name"] (spP K fn_box_of)) (hk_box_of : k_box_of ≤ k) {k_with_other : Nat} {fn_with_other : List PyData → Option PyData} (G_with_other : FnOk Pr w K mg base CX0 k_with_other t.with_other t.d_with_other ["scene", "other"] (spP K fn_with_other)) (hk_with_other : k_with_other ≤ k) : FnOk Pr w K mg base CX0 (k + 1) t.put_at t.d_put_at ["scene", "name", "left", "top"] (spP K (runF 4 5 (g_put_at fn_box_of fn_with_other))) :=
  fnP tx.F_put_at sc_put_at fun _ _ _ _ _ _ _ hr =>
    (@Ss.cons _ _ _ _ _ _ (S.set 4 sc_put_at.nd (E.call G_box_of hr (by omega) tx.m_box_of tx.F_box_of.kp tx.b_box_of (A.cons (E.v 0) (A.cons (E.v 1) A.nil))))
    (@Ss.one _ _ _ _ (S.ret (E.call G_with_other hr (by omega) tx.m_with_other tx.F_with_other.kp tx.b_with_other (A.cons (E.v 0) (A.cons (E.add (E.add (E.sl (E.v 4) P.none (P.some (E.globI tx.c_LEFT))) (E.tup (A.cons (E.v 2) (A.cons (E.v 3) A.nil)))) (E.sl (E.v 4) (P.some (E.globI tx.c_WIDTH)) P.none)) A.nil))))))
noncomputable abbrev N_Plan__lay : List Str := ["self", "name", "left", "top", "box"]
theorem sc_Plan__lay : FnScope ["self", "name", "left", "top", "box"] ["self", "name", "left", "top"] (defScope s_Plan__lay) := ⟨rfl, rfl, rfl, by decide +kernel, rfl, by decide +kernel, by decide +kernel⟩
noncomputable def g_Plan__lay (fn_box_of : List PyData → Option PyData) (fn_Plan__step_to : List D → Sto → Option (D × Sto)) (fn_put_at : List PyData → Option PyData) : Wd → Option MOut :=
  (mSeq (mSet 4 (mP (lA fn_box_of (aC (eFld 0 "scene") (aC (eV 1) aN)))))
    (mSeq (mExp (mMeth 0 "step_to" fn_Plan__step_to (mV 0) (maC (mP (eC (.str "lay"))) (maC (mP (lA fn_put_at (aC (eFld 0 "scene") (aC (eV 1) (aC (eV 2) (aC (eV 3) aN)))))) maN))))
    (mRet (mP (eSl (eV 4) (pS (eC (.int 2))) (pS (eC (.int 4))))))))
set_option maxHeartbeats 4000000 in
theorem ok_Plan__lay {k : Nat} (tx : Tx K mg t) {k_box_of : Nat} {fn_box_of : List PyData → Option PyData} (G_box_of : FnOk Pr w K mg base CX0 k_box_of t.box_of t.d_box_of ["scene", "name"] (spP K fn_box_of)) (hk_box_of : k_box_of ≤ k) {k_Plan__step_to : Nat} {fn_Plan__step_to : List D → Sto → Option (D × Sto)} (G_Plan__step_to : FnOk Pr w K mg base CX0 k_Plan__step_to t.Plan__step_to t.d_Plan__step_to ["self", "word", "scene"] (spM K (cl t) fn_Plan__step_to)) (hk_Plan__step_to : k_Plan__step_to ≤ k) {k_put_at : Nat} {fn_put_at : List PyData → Option PyData} (G_put_at : FnOk Pr w K mg base CX0 k_put_at t.put_at t.d_put_at ["scene", "name", "left", "top"] (spP K fn_put_at)) (hk_put_at : k_put_at ≤ k) : FnOk Pr w K mg base CX0 (k + 1) t.Plan__lay t.d_Plan__lay ["self", "name", "left", "top"] (spM K (cl t) (runM 4 5 (g_Plan__lay fn_box_of fn_Plan__step_to fn_put_at))) :=
  fnM tx.F_Plan__lay sc_Plan__lay fun _ _ _ _ _ _ hr =>
    (@MSs.cons _ _ _ _ _ _ (MS.set 4 sc_Plan__lay.nd (ME.pu fun _ => (E.call G_box_of hr (by omega) tx.m_box_of tx.F_box_of.kp tx.b_box_of (A.cons (E.fld 0) (A.cons (E.v 1) A.nil)))))
    (@MSs.cons _ _ _ _ _ _ (MS.exp (ME.meth (kc := 0) (ME.v 0) tx.cl_Plan tx.me_Plan__step_to G_Plan__step_to hr (by omega) tx.b_Plan__step_to (MA.cons (ME.pu fun _ => E.str) (MA.cons (ME.pu fun _ => (E.call G_put_at hr (by omega) tx.m_put_at tx.F_put_at.kp tx.b_put_at (A.cons (E.fld 0) (A.cons (E.v 1) (A.cons (E.v 2) (A.cons (E.v 3) A.nil)))))) MA.nil))))
    (@MSs.one _ _ _ _ (MS.ret (ME.pu fun _ => (E.sl (E.v 4) (P.some (E.globI tx.c_LEFT)) (P.some (E.globI tx.c_WIDTH))))))))
noncomputable abbrev N_has_box : List Str := ["scene", "name"]
theorem sc_has_box : FnScope ["scene", "name"] ["scene", "name"] (defScope s_has_box) := ⟨rfl, rfl, rfl, by decide +kernel, rfl, by decide +kernel, by decide +kernel⟩
noncomputable def g_has_box  : En → Option Out :=
  (sRet (lA pAny (aC (oE (sComp [none, some 1] (lI asTu (eV 0)) (tgN 0) tTrue (l2 pEq (l2 pIx (eV 0) (eC (.int 0))) (eV 1)))) aN)))
set_option maxHeartbeats 4000000 in
theorem ok_has_box {k : Nat} (tx : Tx K mg t)  : FnOk Pr w K mg base CX0 (k + 1) t.has_box t.d_has_box ["scene", "name"] (spP K (runF 2 2 (g_has_box))) :=
  fnP tx.F_has_box sc_has_box fun _ _ _ _ _ _ _ hr =>
    (@Ss.one _ _ _ _ (S.ret (E.any rfl tx.z_any (A.cons (EO.toE (EO.comp (N' := ["box", "name"]) (mp := [none, some 1]) rfl (CompSc.of' N_has_box (defScope s_has_box) rfl rfl (by decide +kernel)) (TgP.name (i := 0)) (by decide) (I.tup (E.v 0)) (fun _ _ _ => ⟨(pg_name (i := 0) (show (["box", "name"] : List Str).Nodup by decide +kernel) rfl (Or.inl rfl) (.inr rfl)), Ts.nil, (E.eq hr (E.at (E.v 0) (E.globI tx.c_NAME)) (E.v 1))⟩))) A.nil))))
noncomputable abbrev N_with_box : List Str := ["scene", "box", "name", "around"]
theorem sc_with_box : FnScope ["scene", "box", "name", "around"] ["scene", "box"] (defScope s_with_box) := ⟨rfl, rfl, rfl, by decide +kernel, rfl, by decide +kernel, by decide +kernel⟩
noncomputable def g_with_box (fn_has_box : List PyData → Option PyData) : En → Option Out :=
  (sSeq (sSet 2 (l2 pIx (eV 1) (eC (.int 0))))
    (sSeq (sSet 3 (l2 pIx (eV 1) (eC (.int 1))))
    (sSeq (sIf (bT (lA fn_has_box (aC (eV 0) (aC (eV 2) aN)))) (fun _ => none) sNx)
    (sSeq (sIf (bAnd (bT (l2 pNe (eV 3) (eC (.str "")))) (bNot (bT (lA fn_has_box (aC (eV 0) (aC (eV 3) aN)))))) (fun _ => none) sNx)
    (sSeq (sIf (bT (l2 pGe (lA pLen (aC (eV 0) aN)) (eC (.int 12)))) (fun _ => none) sNx)
    (sRet (l2 pAdd (eV 0) (lA (fun ds => if ds.length ≤ sizeLine then some (.tuple ds) else none) (aC (eV 1) aN)))))))))
set_option maxHeartbeats 4000000 in
theorem ok_with_box {k : Nat} (tx : Tx K mg t) {k_has_box : Nat} {fn_has_box : List PyData → Option PyData} (G_has_box : FnOk Pr w K mg base CX0 k_has_box t.has_box t.d_has_box ["scene", "name"] (spP K fn_has_box)) (hk_has_box : k_has_box ≤ k) : FnOk Pr w K mg base CX0 (k + 1) t.with_box t.d_with_box ["scene", "box"] (spP K (runF 2 4 (g_with_box fn_has_box))) :=
  fnP tx.F_with_box sc_with_box fun _ _ _ _ _ _ _ hr =>
    (@Ss.cons _ _ _ _ _ _ (S.set 2 sc_with_box.nd (E.at (E.v 1) (E.globI tx.c_NAME)))
    (@Ss.cons _ _ _ _ _ _ (S.set 3 sc_with_box.nd (E.at (E.v 1) (E.globI tx.c_AROUND)))
    (@Ss.cons _ _ _ _ _ _ (@S.ifS _ _ _ _ _ _ _ _ _ (T.val (E.call G_has_box hr (by omega) tx.m_has_box tx.F_has_box.kp tx.b_has_box (A.cons (E.v 0) (A.cons (E.v 2) A.nil)))) (@Ss.one _ _ _ _ S.never) Ss.nil)
    (@Ss.cons _ _ _ _ _ _ (@S.ifS _ _ _ _ _ _ _ _ _ (TW.t (TW.and (T.ne hr (E.v 3) E.str) (TW.and1 (T.not (T.val (E.call G_has_box hr (by omega) tx.m_has_box tx.F_has_box.kp tx.b_has_box (A.cons (E.v 0) (A.cons (E.v 3) A.nil)))))))) (@Ss.one _ _ _ _ S.never) Ss.nil)
    (@Ss.cons _ _ _ _ _ _ (@S.ifS _ _ _ _ _ _ _ _ _ (T.ge (E.len tx.z_len (A.cons (E.v 0) A.nil)) (E.globI tx.c_MOST_BOXES)) (@Ss.one _ _ _ _ S.never) Ss.nil)
    (@Ss.one _ _ _ _ (S.ret (E.add (E.v 0) (E.tup (A.cons (E.v 1) A.nil))))))))))
noncomputable abbrev N_Plan__put : List Str := ["self", "box"]
theorem sc_Plan__put : FnScope ["self", "box"] ["self", "box"] (defScope s_Plan__put) := ⟨rfl, rfl, rfl, by decide +kernel, rfl, by decide +kernel, by decide +kernel⟩
noncomputable def g_Plan__put (fn_Plan__step_to : List D → Sto → Option (D × Sto)) (fn_with_box : List PyData → Option PyData) : Wd → Option MOut :=
  (mExp (mMeth 0 "step_to" fn_Plan__step_to (mV 0) (maC (mP (eC (.str "put"))) (maC (mP (lA fn_with_box (aC (eFld 0 "scene") (aC (eV 1) aN)))) maN))))
set_option maxHeartbeats 4000000 in
theorem ok_Plan__put {k : Nat} (tx : Tx K mg t) {k_Plan__step_to : Nat} {fn_Plan__step_to : List D → Sto → Option (D × Sto)} (G_Plan__step_to : FnOk Pr w K mg base CX0 k_Plan__step_to t.Plan__step_to t.d_Plan__step_to ["self", "word", "scene"] (spM K (cl t) fn_Plan__step_to)) (hk_Plan__step_to : k_Plan__step_to ≤ k) {k_with_box : Nat} {fn_with_box : List PyData → Option PyData} (G_with_box : FnOk Pr w K mg base CX0 k_with_box t.with_box t.d_with_box ["scene", "box"] (spP K fn_with_box)) (hk_with_box : k_with_box ≤ k) : FnOk Pr w K mg base CX0 (k + 1) t.Plan__put t.d_Plan__put ["self", "box"] (spM K (cl t) (runM 2 2 (g_Plan__put fn_Plan__step_to fn_with_box))) :=
  fnM tx.F_Plan__put sc_Plan__put fun _ _ _ _ _ _ hr =>
    (@MSs.one _ _ _ _ (MS.exp (ME.meth (kc := 0) (ME.v 0) tx.cl_Plan tx.me_Plan__step_to G_Plan__step_to hr (by omega) tx.b_Plan__step_to (MA.cons (ME.pu fun _ => E.str) (MA.cons (ME.pu fun _ => (E.call G_with_box hr (by omega) tx.m_with_box tx.F_with_box.kp tx.b_with_box (A.cons (E.fld 0) (A.cons (E.v 1) A.nil)))) MA.nil)))))
noncomputable abbrev N__law_step : List Str := ["_law_script", "_law_at", "_law_plan", "_law_names", "_law_way", "_law_name", "_law_fresh", "_law_sizes"]
theorem sc__law_step : FnScope ["_law_script", "_law_at", "_law_plan", "_law_names", "_law_way", "_law_name", "_law_fresh", "_law_sizes"] ["_law_script", "_law_at", "_law_plan"] (defScope s__law_step) := ⟨rfl, rfl, rfl, by decide +kernel, rfl, by decide +kernel, by decide +kernel⟩
noncomputable def g__law_step (fn_Plan__now : List D → Sto → Option (D × Sto)) (fn__law_drawn : List PyData → Option PyData) (fn_Plan__take : List D → Sto → Option (D × Sto)) (fn_Plan__lift : List D → Sto → Option (D × Sto)) (fn_Plan__mark : List D → Sto → Option (D × Sto)) (fn_Plan__lay : List D → Sto → Option (D × Sto)) (fn_Plan__put : List D → Sto → Option (D × Sto)) : Wd → Option MOut :=
  (mSeq (mSet 3 (mFz (mcL [none] (iMT (mMeth 0 "now" fn_Plan__now (mV 2) maN)) [0] (tgN 0) tmTrue (mP (l2 pIx (eV 0) (eC (.int 0)))))))
    (mSeq (mSet 4 (mP (lA fn__law_drawn (aC (eV 0) (aC (eV 1) (aC (eC (.int 6)) aN))))))
    (mSeq (mSet 5 (mP (vIf (bT (l2 pNe (eV 3) (oE (fun η => (aN η).bind gL)))) (l2 pIx (eV 3) (lA fn__law_drawn (aC (eV 0) (aC (l2 pAdd (eV 1) (eC (.int 1))) (aC (lA pLen (aC (eV 3) aN)) aN))))) (eC (.str "")))))
    (mIf (tPv (bAnd (bT (l2 pEq (eV 4) (eC (.int 0)))) (bT (l2 pNe (eV 5) (eC (.str "")))))) (mExp (mMeth 0 "take" fn_Plan__take (mV 2) (maC (mP (eV 5)) maN))) (mIf (tPv (bAnd (bT (l2 pEq (eV 4) (eC (.int 1)))) (bT (l2 pNe (eV 5) (eC (.str "")))))) (mExp (mMeth 0 "lift" fn_Plan__lift (mV 2) (maC (mP (eV 5)) maN))) (mIf (tPv (bAnd (bT (l2 pEq (eV 4) (eC (.int 2)))) (bT (l2 pNe (eV 5) (eC (.str "")))))) (mExp (mMeth 0 "mark" fn_Plan__mark (mV 2) (maC (mP (eV 5)) (maC (mP (l2 pIx (eC (.list [(.str ""), (.str "c"), (.str "f"), (.str "h"), (.str "l"), (.str "cf")])) (lA fn__law_drawn (aC (eV 0) (aC (l2 pAdd (eV 1) (eC (.int 2))) (aC (eC (.int 6)) aN)))))) maN)))) (mIf (tPv (bAnd (bT (l2 pEq (eV 4) (eC (.int 3)))) (bT (l2 pNe (eV 5) (eC (.str "")))))) (mExp (mMeth 0 "lay" fn_Plan__lay (mV 2) (maC (mP (eV 5)) (maC (mP (l2 pSub (lA fn__law_drawn (aC (eV 0) (aC (l2 pAdd (eV 1) (eC (.int 2))) (aC (eC (.int 9)) aN)))) (eC (.int 4)))) (maC (mP (l2 pSub (lA fn__law_drawn (aC (eV 0) (aC (l2 pAdd (eV 1) (eC (.int 3))) (aC (eC (.int 9)) aN)))) (eC (.int 4)))) maN))))) (mIf (tPv (bT (l2 pLt (lA pLen (aC (eV 3) aN)) (eC (.int 12))))) (mSeq (mSet 6 (mC (sComp [none, some 3] (lI asL (eC (.list [(.str "x"), (.str "y"), (.str "z"), (.str "w"), (.str "v"), (.str "u"), (.str "t"), (.str "s"), (.str "r"), (.str "q"), (.str "p"), (.str "o")]))) (tgN 0) (bT (l2 (pIn true) (eV 0) (eV 1))) (eV 0))))
    (mSeq (mSet 7 (mP (lA (fun ds => if ds.length ≤ sizeLine then some (.tuple ds) else none) (aC (lA fn__law_drawn (aC (eV 0) (aC (l2 pAdd (eV 1) (eC (.int 4))) (aC (eC (.int 9)) aN)))) (aC (lA fn__law_drawn (aC (eV 0) (aC (l2 pAdd (eV 1) (eC (.int 5))) (aC (eC (.int 9)) aN)))) aN)))))
    (mExp (mMeth 0 "put" fn_Plan__put (mV 2) (maC (mP (l2 pAdd (l2 pAdd (lA (fun ds => if ds.length ≤ sizeLine then some (.tuple ds) else none) (aC (l2 pIx (eV 6) (eC (.int 0))) (aC (eV 5) (aC (eC (.int 1)) (aC (eC (.int 1)) aN))))) (eV 7)) (lA (fun ds => if ds.length ≤ sizeLine then some (.tuple ds) else none) (aC (eC (.str "")) aN)))) maN))))) (mExp (mMeth 0 "take" fn_Plan__take (mV 2) (maC (mP (eV 5)) maN)))))))))))
set_option maxHeartbeats 4000000 in
theorem ok__law_step {k : Nat} (tx : Tx K mg t) {k_Plan__now : Nat} {fn_Plan__now : List D → Sto → Option (D × Sto)} (G_Plan__now : FnOk Pr w K mg base CX0 k_Plan__now t.Plan__now t.d_Plan__now ["self"] (spM K (cl t) fn_Plan__now)) (hk_Plan__now : k_Plan__now ≤ k) {k__law_drawn : Nat} {fn__law_drawn : List PyData → Option PyData} (G__law_drawn : FnOk Pr w K mg base CX0 k__law_drawn t._law_drawn t.d__law_drawn ["_law_script", "_law_k", "_law_many"] (spP K fn__law_drawn)) (hk__law_drawn : k__law_drawn ≤ k) {k_Plan__take : Nat} {fn_Plan__take : List D → Sto → Option (D × Sto)} (G_Plan__take : FnOk Pr w K mg base CX0 k_Plan__take t.Plan__take t.d_Plan__take ["self", "name"] (spM K (cl t) fn_Plan__take)) (hk_Plan__take : k_Plan__take ≤ k) {k_Plan__lift : Nat} {fn_Plan__lift : List D → Sto → Option (D × Sto)} (G_Plan__lift : FnOk Pr w K mg base CX0 k_Plan__lift t.Plan__lift t.d_Plan__lift ["self", "name"] (spM K (cl t) fn_Plan__lift)) (hk_Plan__lift : k_Plan__lift ≤ k) {k_Plan__mark : Nat} {fn_Plan__mark : List D → Sto → Option (D × Sto)} (G_Plan__mark : FnOk Pr w K mg base CX0 k_Plan__mark t.Plan__mark t.d_Plan__mark ["self", "name", "marks"] (spM K (cl t) fn_Plan__mark)) (hk_Plan__mark : k_Plan__mark ≤ k) {k_Plan__lay : Nat} {fn_Plan__lay : List D → Sto → Option (D × Sto)} (G_Plan__lay : FnOk Pr w K mg base CX0 k_Plan__lay t.Plan__lay t.d_Plan__lay ["self", "name", "left", "top"] (spM K (cl t) fn_Plan__lay)) (hk_Plan__lay : k_Plan__lay ≤ k) {k_Plan__put : Nat} {fn_Plan__put : List D → Sto → Option (D × Sto)} (G_Plan__put : FnOk Pr w K mg base CX0 k_Plan__put t.Plan__put t.d_Plan__put ["self", "box"] (spM K (cl t) fn_Plan__put)) (hk_Plan__put : k_Plan__put ≤ k) : FnOk Pr w K mg base CX0 (k + 1) t._law_step t.d__law_step ["_law_script", "_law_at", "_law_plan"] (spM K (cl t) (runM 3 8 (g__law_step fn_Plan__now fn__law_drawn fn_Plan__take fn_Plan__lift fn_Plan__mark fn_Plan__lay fn_Plan__put))) :=
  fnM tx.F__law_step sc__law_step fun _ _ _ _ _ _ hr =>
    (@MSs.cons _ _ _ _ _ _ (MS.set 3 sc__law_step.nd (ME.fz (ME.lcomp (N' := ["_law_box"]) (mp := [none]) rfl (CompSc.of' N__law_step (defScope s__law_step) rfl rfl (by decide +kernel)) (TgP.name (i := 0)) (by decide) (MI.tup (ME.meth0 (kc := 0) (ME.v 2) tx.cl_Plan tx.me_Plan__now G_Plan__now hr (by omega) tx.b_Plan__now)) (fun _ _ _ => ⟨(pg_name (i := 0) (show (["_law_box"] : List Str).Nodup by decide +kernel) rfl (Or.inl rfl) (.inr rfl)), MTs.nil, (ME.pu fun _ => (E.at (E.v 0) E.int))⟩))))
    (@MSs.cons _ _ _ _ _ _ (MS.set 4 sc__law_step.nd (ME.pu fun _ => (E.call G__law_drawn hr (by omega) tx.m__law_drawn tx.F__law_drawn.kp tx.b__law_drawn (A.cons (E.v 0) (A.cons (E.v 1) (A.cons E.int A.nil))))))
    (@MSs.cons _ _ _ _ _ _ (MS.set 5 sc__law_step.nd (ME.pu fun _ => (E.ifE (T.ne hr (E.v 3) (EO.toE (EO.lst A.nil))) (E.at (E.v 3) (E.call G__law_drawn hr (by omega) tx.m__law_drawn tx.F__law_drawn.kp tx.b__law_drawn (A.cons (E.v 0) (A.cons (E.add (E.v 1) E.int) (A.cons (E.len tx.z_len (A.cons (E.v 3) A.nil)) A.nil))))) E.str)))
    (@MSs.one _ _ _ _ (@MS.ifS _ _ _ _ _ _ _ _ _ (MT.pu fun _ => (TW.t (TW.and (T.eq hr (E.v 4) E.int) (TW.and1 (T.ne hr (E.v 5) E.str))))) (@MSs.one _ _ _ _ (MS.exp (ME.meth (kc := 0) (ME.v 2) tx.cl_Plan tx.me_Plan__take G_Plan__take hr (by omega) tx.b_Plan__take (MA.cons (ME.pu fun _ => (E.v 5)) MA.nil)))) (@MSs.one _ _ _ _ (@MS.ifS _ _ _ _ _ _ _ _ _ (MT.pu fun _ => (TW.t (TW.and (T.eq hr (E.v 4) E.int) (TW.and1 (T.ne hr (E.v 5) E.str))))) (@MSs.one _ _ _ _ (MS.exp (ME.meth (kc := 0) (ME.v 2) tx.cl_Plan tx.me_Plan__lift G_Plan__lift hr (by omega) tx.b_Plan__lift (MA.cons (ME.pu fun _ => (E.v 5)) MA.nil)))) (@MSs.one _ _ _ _ (@MS.ifS _ _ _ _ _ _ _ _ _ (MT.pu fun _ => (TW.t (TW.and (T.eq hr (E.v 4) E.int) (TW.and1 (T.ne hr (E.v 5) E.str))))) (@MSs.one _ _ _ _ (MS.exp (ME.meth (kc := 0) (ME.v 2) tx.cl_Plan tx.me_Plan__mark G_Plan__mark hr (by omega) tx.b_Plan__mark (MA.cons (ME.pu fun _ => (E.v 5)) (MA.cons (ME.pu fun _ => (E.at (@E.cst _ _ _ _ rfl) (E.call G__law_drawn hr (by omega) tx.m__law_drawn tx.F__law_drawn.kp tx.b__law_drawn (A.cons (E.v 0) (A.cons (E.add (E.v 1) E.int) (A.cons E.int A.nil)))))) MA.nil))))) (@MSs.one _ _ _ _ (@MS.ifS _ _ _ _ _ _ _ _ _ (MT.pu fun _ => (TW.t (TW.and (T.eq hr (E.v 4) E.int) (TW.and1 (T.ne hr (E.v 5) E.str))))) (@MSs.one _ _ _ _ (MS.exp (ME.meth (kc := 0) (ME.v 2) tx.cl_Plan tx.me_Plan__lay G_Plan__lay hr (by omega) tx.b_Plan__lay (MA.cons (ME.pu fun _ => (E.v 5)) (MA.cons (ME.pu fun _ => (E.sub (E.call G__law_drawn hr (by omega) tx.m__law_drawn tx.F__law_drawn.kp tx.b__law_drawn (A.cons (E.v 0) (A.cons (E.add (E.v 1) E.int) (A.cons E.int A.nil)))) E.int)) (MA.cons (ME.pu fun _ => (E.sub (E.call G__law_drawn hr (by omega) tx.m__law_drawn tx.F__law_drawn.kp tx.b__law_drawn (A.cons (E.v 0) (A.cons (E.add (E.v 1) E.int) (A.cons E.int A.nil)))) E.int)) MA.nil)))))) (@MSs.one _ _ _ _ (@MS.ifS _ _ _ _ _ _ _ _ _ (MT.pu fun _ => (T.lt (E.len tx.z_len (A.cons (E.v 3) A.nil)) E.int)) (@MSs.cons _ _ _ _ _ _ (@MS.setC _ _ _ _ _ _ _ ["_law_one", "_law_names"] [none, some 3] _ _ _ _ _ _ _ 6 _ _ _ rfl sc__law_step.nd (CompSc.of' N__law_step (defScope s__law_step) rfl rfl (by decide +kernel)) (TgP.name (i := 0)) (by decide) (fun _ => (@I.list _ _ _ _ _ (@E.cst _ _ _ _ rfl))) (fun _ _ _ _ => ⟨(pg_name (i := 0) (show (["_law_one", "_law_names"] : List Str).Nodup by decide +kernel) rfl (Or.inl rfl) (.inr rfl)), (Ts.one (T.notIn (E.v 0) (E.v 1))), (E.v 0)⟩) rfl rfl rfl (fun _ => rfl))
    (@MSs.cons _ _ _ _ _ _ (MS.set 7 sc__law_step.nd (ME.pu fun _ => (E.tup (A.cons (E.call G__law_drawn hr (by omega) tx.m__law_drawn tx.F__law_drawn.kp tx.b__law_drawn (A.cons (E.v 0) (A.cons (E.add (E.v 1) E.int) (A.cons E.int A.nil)))) (A.cons (E.call G__law_drawn hr (by omega) tx.m__law_drawn tx.F__law_drawn.kp tx.b__law_drawn (A.cons (E.v 0) (A.cons (E.add (E.v 1) E.int) (A.cons E.int A.nil)))) A.nil)))))
    (@MSs.one _ _ _ _ (MS.exp (ME.meth (kc := 0) (ME.v 2) tx.cl_Plan tx.me_Plan__put G_Plan__put hr (by omega) tx.b_Plan__put (MA.cons (ME.pu fun _ => (E.add (E.add (E.tup (A.cons (E.at (E.v 6) E.int) (A.cons (E.v 5) (A.cons E.int (A.cons E.int A.nil))))) (E.v 7)) (E.tup (A.cons E.str A.nil)))) MA.nil)))))) (@MSs.one _ _ _ _ (MS.exp (ME.meth (kc := 0) (ME.v 2) tx.cl_Plan tx.me_Plan__take G_Plan__take hr (by omega) tx.b_Plan__take (MA.cons (ME.pu fun _ => (E.v 5)) MA.nil)))))))))))))))))
noncomputable abbrev N_Plan__back : List Str := ["self", "step"]
theorem sc_Plan__back : FnScope ["self", "step"] ["self"] (defScope s_Plan__back) := ⟨rfl, rfl, rfl, by decide +kernel, rfl, by decide +kernel, by decide +kernel⟩
noncomputable def g_Plan__back  : Wd → Option MOut :=
  (mSeq (mIf (tmNot (mTruL (mFld (mV 0) "done"))) (fun _ => none) mNx)
    (mSeq (mSet 1 (mPopL (mFld (mV 0) "done")))
    (mSeq (mExp (mAppC (mFld (mV 0) "undone") (mP (lA (fun ds => if ds.length ≤ sizeLine then some (.tuple ds) else none) (aC (l2 pIx (eV 1) (eC (.int 0))) (aC (eFld 0 "scene") aN))))))
    (mSeq (mPut 0 "scene" (mV 0) (mP (l2 pIx (eV 1) (eC (.int 1)))))
    (mRet (mP (l2 pIx (eV 1) (eC (.int 0)))))))))
set_option maxHeartbeats 4000000 in
theorem ok_Plan__back {k : Nat} (tx : Tx K mg t)  : FnOk Pr w K mg base CX0 (k + 1) t.Plan__back t.d_Plan__back ["self"] (spM K (cl t) (runM 1 2 (g_Plan__back))) :=
  fnM tx.F_Plan__back sc_Plan__back fun _ _ _ _ _ _ hr =>
    (@MSs.cons _ _ _ _ _ _ (@MS.ifS _ _ _ _ _ _ _ _ _ (MT.not (MT.truL (ME.fld (ME.v 0)))) (@MSs.one _ _ _ _ MS.never) MSs.nil)
    (@MSs.cons _ _ _ _ _ _ (MS.set 1 sc_Plan__back.nd (ME.popL (ME.fld (ME.v 0))))
    (@MSs.cons _ _ _ _ _ _ (MS.exp (ME.appC (ME.fld (ME.v 0)) (ME.pu fun _ => (E.tup (A.cons (E.at (E.v 1) (E.globI tx.c_WORD)) (A.cons (E.fld 0) A.nil))))))
    (@MSs.cons _ _ _ _ _ _ (MS.put (k := 0) (ME.v 0) (ME.pu fun _ => (E.at (E.v 1) (E.globI tx.c_SCENE))) tx.na_Plan_scene)
    (@MSs.one _ _ _ _ (MS.ret (ME.pu fun _ => (E.at (E.v 1) (E.globI tx.c_WORD)))))))))
noncomputable abbrev N_Plan__sizes : List Str := ["self"]
theorem sc_Plan__sizes : FnScope ["self"] ["self"] (defScope s_Plan__sizes) := ⟨rfl, rfl, rfl, by decide +kernel, rfl, by decide +kernel, by decide +kernel⟩
noncomputable def g_Plan__sizes  : Wd → Option MOut :=
  (mRet (mTupD (maC (mLenL (mFld (mV 0) "done")) (maC (mLenL (mFld (mV 0) "undone")) maN))))
set_option maxHeartbeats 4000000 in
theorem ok_Plan__sizes {k : Nat} (tx : Tx K mg t)  : FnOk Pr w K mg base CX0 (k + 1) t.Plan__sizes t.d_Plan__sizes ["self"] (spM K (cl t) (runM 1 1 (g_Plan__sizes))) :=
  fnM tx.F_Plan__sizes sc_Plan__sizes fun _ _ _ _ _ _ hr =>
    (@MSs.one _ _ _ _ (MS.ret (ME.tupM (MA.cons (ME.lenL tx.z_len (ME.fld (ME.v 0))) (MA.cons (ME.lenL tx.z_len (ME.fld (ME.v 0))) MA.nil)))))
noncomputable abbrev N_Plan__forth : List Str := ["self", "step"]
theorem sc_Plan__forth : FnScope ["self", "step"] ["self"] (defScope s_Plan__forth) := ⟨rfl, rfl, rfl, by decide +kernel, rfl, by decide +kernel, by decide +kernel⟩
noncomputable def g_Plan__forth  : Wd → Option MOut :=
  (mSeq (mIf (tmNot (mTruL (mFld (mV 0) "undone"))) (fun _ => none) mNx)
    (mSeq (mSet 1 (mPopL (mFld (mV 0) "undone")))
    (mSeq (mExp (mAppC (mFld (mV 0) "done") (mP (lA (fun ds => if ds.length ≤ sizeLine then some (.tuple ds) else none) (aC (l2 pIx (eV 1) (eC (.int 0))) (aC (eFld 0 "scene") aN))))))
    (mSeq (mPut 0 "scene" (mV 0) (mP (l2 pIx (eV 1) (eC (.int 1)))))
    (mRet (mP (l2 pIx (eV 1) (eC (.int 0)))))))))
set_option maxHeartbeats 4000000 in
theorem ok_Plan__forth {k : Nat} (tx : Tx K mg t)  : FnOk Pr w K mg base CX0 (k + 1) t.Plan__forth t.d_Plan__forth ["self"] (spM K (cl t) (runM 1 2 (g_Plan__forth))) :=
  fnM tx.F_Plan__forth sc_Plan__forth fun _ _ _ _ _ _ hr =>
    (@MSs.cons _ _ _ _ _ _ (@MS.ifS _ _ _ _ _ _ _ _ _ (MT.not (MT.truL (ME.fld (ME.v 0)))) (@MSs.one _ _ _ _ MS.never) MSs.nil)
    (@MSs.cons _ _ _ _ _ _ (MS.set 1 sc_Plan__forth.nd (ME.popL (ME.fld (ME.v 0))))
    (@MSs.cons _ _ _ _ _ _ (MS.exp (ME.appC (ME.fld (ME.v 0)) (ME.pu fun _ => (E.tup (A.cons (E.at (E.v 1) (E.globI tx.c_WORD)) (A.cons (E.fld 0) A.nil))))))
    (@MSs.cons _ _ _ _ _ _ (MS.put (k := 0) (ME.v 0) (ME.pu fun _ => (E.at (E.v 1) (E.globI tx.c_SCENE))) tx.na_Plan_scene)
    (@MSs.one _ _ _ _ (MS.ret (ME.pu fun _ => (E.at (E.v 1) (E.globI tx.c_WORD)))))))))
noncomputable abbrev N__law_goes : List Str := ["_law_plan", "_law_rows", "_law_many", "_law_words", "_law_k"]
theorem sc__law_goes : FnScope ["_law_plan", "_law_rows", "_law_many", "_law_words", "_law_k"] ["_law_plan", "_law_rows"] (defScope s__law_goes) := ⟨rfl, rfl, rfl, by decide +kernel, rfl, by decide +kernel, by decide +kernel⟩
noncomputable def g__law_goes (fn_Plan__back : List D → Sto → Option (D × Sto)) (fn_Plan__sizes : List D → Sto → Option (D × Sto)) (fn_Plan__now : List D → Sto → Option (D × Sto)) (fn_Plan__forth : List D → Sto → Option (D × Sto)) : Wd → Option MOut :=
  (mSeq (mSet 2 (mP (l2 pSub (lA pLen (aC (eV 1) aN)) (eC (.int 1)))))
    (mSeq (mSet 3 (mN (fun η => (aN η).bind gL)))
    (mSeq (mFor [4] (iPu (fun η => ((aC (l2 pSub (eV 2) (eC (.int 1))) (aC (l1 pNeg (eC (.int 1))) (aC (l1 pNeg (eC (.int 1))) aN))) η).bind rngD)) (tgN 4)
    (mSeq (mExp (mAppC (mV 3) (mMeth 0 "back" fn_Plan__back (mV 0) maN)))
    (mIf (tmOr (mB (mOpL pNe (mMeth 0 "now" fn_Plan__now (mV 0) maN) (mP (l2 pIx (eV 1) (eV 4))))) (mB (mOpL pNe (mMeth 0 "sizes" fn_Plan__sizes (mV 0) maN) (mP (lA (fun ds => if ds.length ≤ sizeLine then some (.tuple ds) else none) (aC (eV 4) (aC (l2 pSub (eV 2) (eV 4)) aN))))))) (mRet (mP (eC (.bool false)))) mNx)))
    (mSeq (mFor [4] (iPu (fun η => ((aC (eC (.int 1)) (aC (l2 pAdd (eV 2) (eC (.int 1))) aN)) η).bind rng2)) (tgN 4)
    (mSeq (mIf (tmOr (mB (mOpL pNe (mMeth 0 "forth" fn_Plan__forth (mV 0) maN) (mOp pIx (mFz (mV 3)) (mP (l2 pSub (eV 2) (eV 4)))))) (mB (mOpL pNe (mMeth 0 "now" fn_Plan__now (mV 0) maN) (mP (l2 pIx (eV 1) (eV 4)))))) (mRet (mP (eC (.bool false)))) mNx)
    (mIf (mB (mOpL pNe (mMeth 0 "sizes" fn_Plan__sizes (mV 0) maN) (mP (lA (fun ds => if ds.length ≤ sizeLine then some (.tuple ds) else none) (aC (eV 4) (aC (l2 pSub (eV 2) (eV 4)) aN)))))) (mRet (mP (eC (.bool false)))) mNx)))
    (mRet (mOpL pEq (mcL [none] (iM (mFz (mV 3))) [0] (tgN 0) (tPv (bT (l2 (pIn true) (eV 0) (lA (fun ds => if ds.length ≤ sizeLine then some (.tuple ds) else none) (aC (eC (.str "put")) (aC (eC (.str "take")) (aC (eC (.str "lift")) (aC (eC (.str "mark")) (aC (eC (.str "lay")) aN))))))))) (mP (eV 0))) (mP (oE (fun η => (aN η).bind gL)))))))))
set_option maxHeartbeats 4000000 in
theorem ok__law_goes {k : Nat} (tx : Tx K mg t) {k_Plan__back : Nat} {fn_Plan__back : List D → Sto → Option (D × Sto)} (G_Plan__back : FnOk Pr w K mg base CX0 k_Plan__back t.Plan__back t.d_Plan__back ["self"] (spM K (cl t) fn_Plan__back)) (hk_Plan__back : k_Plan__back ≤ k) {k_Plan__sizes : Nat} {fn_Plan__sizes : List D → Sto → Option (D × Sto)} (G_Plan__sizes : FnOk Pr w K mg base CX0 k_Plan__sizes t.Plan__sizes t.d_Plan__sizes ["self"] (spM K (cl t) fn_Plan__sizes)) (hk_Plan__sizes : k_Plan__sizes ≤ k) {k_Plan__now : Nat} {fn_Plan__now : List D → Sto → Option (D × Sto)} (G_Plan__now : FnOk Pr w K mg base CX0 k_Plan__now t.Plan__now t.d_Plan__now ["self"] (spM K (cl t) fn_Plan__now)) (hk_Plan__now : k_Plan__now ≤ k) {k_Plan__forth : Nat} {fn_Plan__forth : List D → Sto → Option (D × Sto)} (G_Plan__forth : FnOk Pr w K mg base CX0 k_Plan__forth t.Plan__forth t.d_Plan__forth ["self"] (spM K (cl t) fn_Plan__forth)) (hk_Plan__forth : k_Plan__forth ≤ k) : FnOk Pr w K mg base CX0 (k + 1) t._law_goes t.d__law_goes ["_law_plan", "_law_rows"] (spM K (cl t) (runM 2 5 (g__law_goes fn_Plan__back fn_Plan__sizes fn_Plan__now fn_Plan__forth))) :=
  fnM tx.F__law_goes sc__law_goes fun _ _ _ _ _ _ hr =>
    (@MSs.cons _ _ _ _ _ _ (MS.set 2 sc__law_goes.nd (ME.pu fun _ => (E.sub (E.len tx.z_len (A.cons (E.v 1) A.nil)) E.int)))
    (@MSs.cons _ _ _ _ _ _ (MS.set 3 sc__law_goes.nd (ME.nw fun _ => (EO.lst A.nil)))
    (@MSs.cons _ _ _ _ _ _ (@MS.for _ _ _ _ _ _ _ _ _ _ _ PassesOwn.never rfl (MI.pu fun _ => (I.rngD tx.z_range (A.cons (E.sub (E.v 2) E.int) (A.cons (E.neg E.int) (A.cons (E.neg E.int) A.nil))))) (pg_name (i := 4) sc__law_goes.nd rfl (by first | exact Or.inl rfl | exact Or.inr rfl) ) (TgP.name (i := 4))
    (@MSs.cons _ _ _ _ _ _ (MS.exp (ME.appC (ME.v 3) (ME.meth0 (kc := 0) (ME.v 0) tx.cl_Plan tx.me_Plan__back G_Plan__back hr (by omega) tx.b_Plan__back)))
    (@MSs.one _ _ _ _ (@MS.ifS _ _ _ _ _ _ _ _ _ (MTW.t (MTW.or (MT.ne hr (ME.meth0 (kc := 0) (ME.v 0) tx.cl_Plan tx.me_Plan__now G_Plan__now hr (by omega) tx.b_Plan__now) (ME.pu fun _ => (E.at (E.v 1) (E.v 4)))) (MTW.or1 (MT.ne hr (ME.meth0 (kc := 0) (ME.v 0) tx.cl_Plan tx.me_Plan__sizes G_Plan__sizes hr (by omega) tx.b_Plan__sizes) (ME.pu fun _ => (E.tup (A.cons (E.v 4) (A.cons (E.sub (E.v 2) (E.v 4)) A.nil)))))))) (@MSs.one _ _ _ _ (MS.ret (ME.pu fun _ => E.bl))) MSs.nil))) (fun _ => rfl))
    (@MSs.cons _ _ _ _ _ _ (@MS.for _ _ _ _ _ _ _ _ _ _ _ PassesOwn.never rfl (MI.pu fun _ => (I.rng2 tx.z_range (A.cons E.int (A.cons (E.add (E.v 2) E.int) A.nil)))) (pg_name (i := 4) sc__law_goes.nd rfl (by first | exact Or.inl rfl | exact Or.inr rfl) ) (TgP.name (i := 4))
    (@MSs.cons _ _ _ _ _ _ (@MS.ifS _ _ _ _ _ _ _ _ _ (MTW.t (MTW.or (MT.ne hr (ME.meth0 (kc := 0) (ME.v 0) tx.cl_Plan tx.me_Plan__forth G_Plan__forth hr (by omega) tx.b_Plan__forth) (ME.at (ME.fz (ME.v 3)) (ME.pu fun _ => (E.sub (E.v 2) (E.v 4))))) (MTW.or1 (MT.ne hr (ME.meth0 (kc := 0) (ME.v 0) tx.cl_Plan tx.me_Plan__now G_Plan__now hr (by omega) tx.b_Plan__now) (ME.pu fun _ => (E.at (E.v 1) (E.v 4))))))) (@MSs.one _ _ _ _ (MS.ret (ME.pu fun _ => E.bl))) MSs.nil)
    (@MSs.one _ _ _ _ (@MS.ifS _ _ _ _ _ _ _ _ _ (MT.ne hr (ME.meth0 (kc := 0) (ME.v 0) tx.cl_Plan tx.me_Plan__sizes G_Plan__sizes hr (by omega) tx.b_Plan__sizes) (ME.pu fun _ => (E.tup (A.cons (E.v 4) (A.cons (E.sub (E.v 2) (E.v 4)) A.nil))))) (@MSs.one _ _ _ _ (MS.ret (ME.pu fun _ => E.bl))) MSs.nil))) (fun _ => rfl))
    (@MSs.one _ _ _ _ (MS.ret (ME.eq hr (ME.lcomp (N' := ["_law_word"]) (mp := [none]) rfl (CompSc.of' N__law_goes (defScope s__law_goes) rfl rfl (by decide +kernel)) (TgP.name (i := 0)) (by decide) (MI.list (ME.fz (ME.v 3))) (fun _ _ _ => ⟨(pg_name (i := 0) (show (["_law_word"] : List Str).Nodup by decide +kernel) rfl (Or.inl rfl) (.inr rfl)), (MTs.one (MT.pu fun _ => (T.notIn (E.v 0) (E.tup (A.cons E.str (A.cons E.str (A.cons E.str (A.cons E.str (A.cons E.str A.nil))))))))), (ME.pu fun _ => (E.v 0))⟩)) (ME.pu fun _ => (EO.toE (EO.lst A.nil))))))))))
noncomputable abbrev N_Plan__twin : List Str := ["self", "other"]
theorem sc_Plan__twin : FnScope ["self", "other"] ["self"] (defScope s_Plan__twin) := ⟨rfl, rfl, rfl, by decide +kernel, rfl, by decide +kernel, by decide +kernel⟩
noncomputable def g_Plan__twin (fn_Plan____init__ : List D → Sto → Option (D × Sto)) : Wd → Option MOut :=
  (mSeq (mSet 1 (mMake 0 fn_Plan____init__ (maC (mP (eFld 0 "scene")) maN)))
    (mSeq (mPut 0 "done" (mV 1) (mCopyL (mFld (mV 0) "done")))
    (mSeq (mPut 0 "undone" (mV 1) (mCopyL (mFld (mV 0) "undone")))
    (mRet (mV 1)))))
set_option maxHeartbeats 4000000 in
theorem ok_Plan__twin {k : Nat} (tx : Tx K mg t) {k_Plan____init__ : Nat} {fn_Plan____init__ : List D → Sto → Option (D × Sto)} (G_Plan____init__ : FnOk Pr w K mg base CX0 k_Plan____init__ t.Plan____init__ t.d_Plan____init__ ["self", "scene"] (spM K (cl t) fn_Plan____init__)) (hk_Plan____init__ : k_Plan____init__ + 1 ≤ k) : FnOk Pr w K mg base CX0 (k + 1) t.Plan__twin t.d_Plan__twin ["self"] (spM K (cl t) (runM 1 2 (g_Plan__twin fn_Plan____init__))) :=
  fnM tx.F_Plan__twin sc_Plan__twin fun _ _ _ _ _ _ hr =>
    (@MSs.cons _ _ _ _ _ _ (MS.set 1 sc_Plan__twin.nd (ME.make (kc := 0) tx.cl_Plan tx.mk_Plan G_Plan____init__ hr (by omega) tx.mg_Plan tx.b_Plan____init__ (MA.cons (ME.pu fun _ => (E.fld 0)) MA.nil)))
    (@MSs.cons _ _ _ _ _ _ (MS.put (k := 0) (ME.v 1) (ME.copyL tx.z_list (ME.fld (ME.v 0))) tx.na_Plan_done)
    (@MSs.cons _ _ _ _ _ _ (MS.put (k := 0) (ME.v 1) (ME.copyL tx.z_list (ME.fld (ME.v 0))) tx.na_Plan_undone)
    (@MSs.one _ _ _ _ (MS.ret (ME.v 1))))))
noncomputable abbrev N__law_go_on : List Str := ["_law_script", "_law_plan", "_law_k"]
theorem sc__law_go_on : FnScope ["_law_script", "_law_plan", "_law_k"] ["_law_script", "_law_plan"] (defScope s__law_go_on) := ⟨rfl, rfl, rfl, by decide +kernel, rfl, by decide +kernel, by decide +kernel⟩
noncomputable def g__law_go_on (fn__law_step : List D → Sto → Option (D × Sto)) (fn_Plan__sizes : List D → Sto → Option (D × Sto)) (fn_Plan__now : List D → Sto → Option (D × Sto)) : Wd → Option MOut :=
  (mSeq (mFor [2] (iPu (fun η => ((aC (eC (.int 3)) aN) η).bind rng1)) (tgN 2)
    (mExp (mCall fn__law_step (maC (mP (eV 0)) (maC (mP (l2 pAdd (eC (.int 200)) (l2 pMul (eC (.int 6)) (eV 2)))) (maC (mV 1) maN))))))
    (mRet (mTupD (maC (mMeth 0 "now" fn_Plan__now (mV 1) maN) (maC (mMeth 0 "sizes" fn_Plan__sizes (mV 1) maN) maN)))))
set_option maxHeartbeats 4000000 in
theorem ok__law_go_on {k : Nat} (tx : Tx K mg t) {k__law_step : Nat} {fn__law_step : List D → Sto → Option (D × Sto)} (G__law_step : FnOk Pr w K mg base CX0 k__law_step t._law_step t.d__law_step ["_law_script", "_law_at", "_law_plan"] (spM K (cl t) fn__law_step)) (hk__law_step : k__law_step ≤ k) {k_Plan__sizes : Nat} {fn_Plan__sizes : List D → Sto → Option (D × Sto)} (G_Plan__sizes : FnOk Pr w K mg base CX0 k_Plan__sizes t.Plan__sizes t.d_Plan__sizes ["self"] (spM K (cl t) fn_Plan__sizes)) (hk_Plan__sizes : k_Plan__sizes ≤ k) {k_Plan__now : Nat} {fn_Plan__now : List D → Sto → Option (D × Sto)} (G_Plan__now : FnOk Pr w K mg base CX0 k_Plan__now t.Plan__now t.d_Plan__now ["self"] (spM K (cl t) fn_Plan__now)) (hk_Plan__now : k_Plan__now ≤ k) : FnOk Pr w K mg base CX0 (k + 1) t._law_go_on t.d__law_go_on ["_law_script", "_law_plan"] (spM K (cl t) (runM 2 3 (g__law_go_on fn__law_step fn_Plan__sizes fn_Plan__now))) :=
  fnM tx.F__law_go_on sc__law_go_on fun _ _ _ _ _ _ hr =>
    (@MSs.cons _ _ _ _ _ _ (@MS.for _ _ _ _ _ _ _ _ _ _ _ PassesOwn.never rfl (MI.pu fun _ => (I.rng1 tx.z_range (A.cons E.int A.nil))) (pg_name (i := 2) sc__law_go_on.nd rfl (by first | exact Or.inl rfl | exact Or.inr rfl) ) (TgP.name (i := 2))
    (@MSs.one _ _ _ _ (MS.exp (ME.call G__law_step hr (by omega) tx.m__law_step tx.F__law_step.kp tx.b__law_step (MA.cons (ME.pu fun _ => (E.v 0)) (MA.cons (ME.pu fun _ => (E.add E.int (E.mul E.int (E.v 2)))) (MA.cons (ME.v 1) MA.nil)))))) (fun _ => rfl))
    (@MSs.one _ _ _ _ (MS.ret (ME.tupM (MA.cons (ME.meth0 (kc := 0) (ME.v 1) tx.cl_Plan tx.me_Plan__now G_Plan__now hr (by omega) tx.b_Plan__now) (MA.cons (ME.meth0 (kc := 0) (ME.v 1) tx.cl_Plan tx.me_Plan__sizes G_Plan__sizes hr (by omega) tx.b_Plan__sizes) MA.nil))))))
noncomputable abbrev N_law : List Str := ["_law_script", "_law_plan", "_law_rows", "_law_k", "_law_many", "_law_back", "_law_turn", "_law_here", "_law_twin", "_law_third", "_law_there"]
theorem sc_law : FnScope ["_law_script", "_law_plan", "_law_rows", "_law_k", "_law_many", "_law_back", "_law_turn", "_law_here", "_law_twin", "_law_third", "_law_there"] ["_law_script"] (defScope s_law) := ⟨rfl, rfl, rfl, by decide +kernel, rfl, by decide +kernel, by decide +kernel⟩
noncomputable def g_law (fn_Plan____init__ : List D → Sto → Option (D × Sto)) (fn__law_scene : List PyData → Option PyData) (fn_Plan__now : List D → Sto → Option (D × Sto)) (fn__law_drawn : List PyData → Option PyData) (fn__law_step : List D → Sto → Option (D × Sto)) (fn__law_goes : List D → Sto → Option (D × Sto)) (fn_Plan__sizes : List D → Sto → Option (D × Sto)) (fn_Plan__back : List D → Sto → Option (D × Sto)) (fn_Plan__twin : List D → Sto → Option (D × Sto)) (fn__law_go_on : List D → Sto → Option (D × Sto)) (fn_Plan__forth : List D → Sto → Option (D × Sto)) : Wd → Option MOut :=
  (mSeq (mSet 1 (mMake 0 fn_Plan____init__ (maC (mP (lA fn__law_scene (aC (eV 0) (aC (eC (.int 0)) aN)))) maN)))
    (mSeq (mSet 2 (mLst (maC (mMeth 0 "now" fn_Plan__now (mV 1) maN) maN)))
    (mSeq (mFor [3] (iPu (fun η => ((aC (l2 pAdd (eC (.int 2)) (lA fn__law_drawn (aC (eV 0) (aC (eC (.int 100)) (aC (eC (.int 7)) aN))))) aN) η).bind rng1)) (tgN 3)
    (mSeq (mExp (mCall fn__law_step (maC (mP (eV 0)) (maC (mP (l2 pAdd (eC (.int 110)) (l2 pMul (eC (.int 6)) (eV 3)))) (maC (mV 1) maN)))))
    (mExp (mAppC (mV 2) (mMeth 0 "now" fn_Plan__now (mV 1) maN)))))
    (mSeq (mSet 4 (mOp pSub (mCB pLen (maC (mFz (mV 2)) maN)) (mP (eC (.int 1)))))
    (mSeq (mIf (tmOr (mB (mOpL pNe (mMeth 0 "sizes" fn_Plan__sizes (mV 1) maN) (mP (lA (fun ds => if ds.length ≤ sizeLine then some (.tuple ds) else none) (aC (eV 4) (aC (eC (.int 0)) aN)))))) (tmNot (mB (mCall fn__law_goes (maC (mV 1) (maC (mP (eV 2)) maN)))))) (mRet (mP (eC (.bool false)))) mNx)
    (mSeq (mSet 5 (mP (l2 pAdd (eC (.int 1)) (lA fn__law_drawn (aC (eV 0) (aC (eC (.int 101)) (aC (eV 4) aN)))))))
    (mSeq (mFor [6] (iPu (fun η => ((aC (eV 5) aN) η).bind rng1)) (tgN 6)
    (mExp (mMeth 0 "back" fn_Plan__back (mV 1) maN)))
    (mSeq (mSet 7 (mTupD (maC (mMeth 0 "now" fn_Plan__now (mV 1) maN) (maC (mMeth 0 "sizes" fn_Plan__sizes (mV 1) maN) maN))))
    (mSeq (mSet 8 (mMeth 0 "twin" fn_Plan__twin (mV 1) maN))
    (mSeq (mSet 9 (mMeth 0 "twin" fn_Plan__twin (mV 8) maN))
    (mSeq (mIf (tPv (bT (l2 pNe (eV 7) (lA (fun ds => if ds.length ≤ sizeLine then some (.tuple ds) else none) (aC (l2 pIx (eV 2) (l2 pSub (eV 4) (eV 5))) (aC (lA (fun ds => if ds.length ≤ sizeLine then some (.tuple ds) else none) (aC (l2 pSub (eV 4) (eV 5)) (aC (eV 5) aN))) aN)))))) (mRet (mP (eC (.bool false)))) mNx)
    (mSeq (mSet 10 (mCall fn__law_go_on (maC (mP (eV 0)) (maC (mV 1) maN))))
    (mSeq (mIf (tmOr (tPv (bT (l2 pNe (l2 pIx (eV 10) (eC (.int 1))) (lA (fun ds => if ds.length ≤ sizeLine then some (.tuple ds) else none) (aC (l2 pAdd (l2 pSub (eV 4) (eV 5)) (eC (.int 3))) (aC (eC (.int 0)) aN)))))) (mB (mOpL pNe (mTupD (maC (mMeth 0 "now" fn_Plan__now (mV 8) maN) (maC (mMeth 0 "sizes" fn_Plan__sizes (mV 8) maN) maN))) (mP (eV 7))))) (mRet (mP (eC (.bool false)))) mNx)
    (mSeq (mIf (tmOr (mB (mOpL pNe (mCall fn__law_go_on (maC (mP (eV 0)) (maC (mV 8) maN))) (mP (eV 10)))) (mB (mOpL pNe (mTupD (maC (mMeth 0 "now" fn_Plan__now (mV 9) maN) (maC (mMeth 0 "sizes" fn_Plan__sizes (mV 9) maN) maN))) (mP (eV 7))))) (mRet (mP (eC (.bool false)))) mNx)
    (mSeq (mFor [6] (iPu (fun η => ((aC (eV 5) aN) η).bind rng1)) (tgN 6)
    (mExp (mMeth 0 "forth" fn_Plan__forth (mV 9) maN)))
    (mSeq (mFor [6] (iPu (fun η => ((aC (l2 pAdd (l2 pSub (eV 4) (eV 5)) (eC (.int 3))) aN) η).bind rng1)) (tgN 6)
    (mIf (tmOr (mB (mOpL pNe (mMeth 0 "back" fn_Plan__back (mV 8) maN) (mMeth 0 "back" fn_Plan__back (mV 1) maN))) (mB (mOpL pNe (mMeth 0 "now" fn_Plan__now (mV 8) maN) (mMeth 0 "now" fn_Plan__now (mV 1) maN)))) (mRet (mP (eC (.bool false)))) mNx))
    (mRet (mAnd (mOpL pEq (mMeth 0 "now" fn_Plan__now (mV 9) maN) (mP (l2 pIx (eV 2) (l1 pNeg (eC (.int 1)))))) (mAnd (mOpL pEq (mMeth 0 "now" fn_Plan__now (mV 8) maN) (mP (l2 pIx (eV 2) (eC (.int 0))))) (mOpL pEq (mMeth 0 "sizes" fn_Plan__sizes (mV 9) maN) (mP (lA (fun ds => if ds.length ≤ sizeLine then some (.tuple ds) else none) (aC (eV 4) (aC (eC (.int 0)) aN))))))))))))))))))))))))
set_option maxHeartbeats 4000000 in
theorem ok_law {k : Nat} (tx : Tx K mg t) {k_Plan____init__ : Nat} {fn_Plan____init__ : List D → Sto → Option (D × Sto)} (G_Plan____init__ : FnOk Pr w K mg base CX0 k_Plan____init__ t.Plan____init__ t.d_Plan____init__ ["self", "scene"] (spM K (cl t) fn_Plan____init__)) (hk_Plan____init__ : k_Plan____init__ + 1 ≤ k) {k__law_scene : Nat} {fn__law_scene : List PyData → Option PyData} (G__law_scene : FnOk Pr w K mg base CX0 k__law_scene t._law_scene t.d__law_scene ["_law_script", "_law_at"] (spP K fn__law_scene)) (hk__law_scene : k__law_scene ≤ k) {k_Plan__now : Nat} {fn_Plan__now : List D → Sto → Option (D × Sto)} (G_Plan__now : FnOk Pr w K mg base CX0 k_Plan__now t.Plan__now t.d_Plan__now ["self"] (spM K (cl t) fn_Plan__now)) (hk_Plan__now : k_Plan__now ≤ k) {k__law_drawn : Nat} {fn__law_drawn : List PyData → Option PyData} (G__law_drawn : FnOk Pr w K mg base CX0 k__law_drawn t._law_drawn t.d__law_drawn ["_law_script", "_law_k", "_law_many"] (spP K fn__law_drawn)) (hk__law_drawn : k__law_drawn ≤ k) {k__law_step : Nat} {fn__law_step : List D → Sto → Option (D × Sto)} (G__law_step : FnOk Pr w K mg base CX0 k__law_step t._law_step t.d__law_step ["_law_script", "_law_at", "_law_plan"] (spM K (cl t) fn__law_step)) (hk__law_step : k__law_step ≤ k) {k__law_goes : Nat} {fn__law_goes : List D → Sto → Option (D × Sto)} (G__law_goes : FnOk Pr w K mg base CX0 k__law_goes t._law_goes t.d__law_goes ["_law_plan", "_law_rows"] (spM K (cl t) fn__law_goes)) (hk__law_goes : k__law_goes ≤ k) {k_Plan__sizes : Nat} {fn_Plan__sizes : List D → Sto → Option (D × Sto)} (G_Plan__sizes : FnOk Pr w K mg base CX0 k_Plan__sizes t.Plan__sizes t.d_Plan__sizes ["self"] (spM K (cl t) fn_Plan__sizes)) (hk_Plan__sizes : k_Plan__sizes ≤ k) {k_Plan__back : Nat} {fn_Plan__back : List D → Sto → Option (D × Sto)} (G_Plan__back : FnOk Pr w K mg base CX0 k_Plan__back t.Plan__back t.d_Plan__back ["self"] (spM K (cl t) fn_Plan__back)) (hk_Plan__back : k_Plan__back ≤ k) {k_Plan__twin : Nat} {fn_Plan__twin : List D → Sto → Option (D × Sto)} (G_Plan__twin : FnOk Pr w K mg base CX0 k_Plan__twin t.Plan__twin t.d_Plan__twin ["self"] (spM K (cl t) fn_Plan__twin)) (hk_Plan__twin : k_Plan__twin ≤ k) {k__law_go_on : Nat} {fn__law_go_on : List D → Sto → Option (D × Sto)} (G__law_go_on : FnOk Pr w K mg base CX0 k__law_go_on t._law_go_on t.d__law_go_on ["_law_script", "_law_plan"] (spM K (cl t) fn__law_go_on)) (hk__law_go_on : k__law_go_on ≤ k) {k_Plan__forth : Nat} {fn_Plan__forth : List D → Sto → Option (D × Sto)} (G_Plan__forth : FnOk Pr w K mg base CX0 k_Plan__forth t.Plan__forth t.d_Plan__forth ["self"] (spM K (cl t) fn_Plan__forth)) (hk_Plan__forth : k_Plan__forth ≤ k) : FnOk Pr w K mg base CX0 (k + 1) t.law t.d_law ["_law_script"] (spM K (cl t) (runM 1 11 (g_law fn_Plan____init__ fn__law_scene fn_Plan__now fn__law_drawn fn__law_step fn__law_goes fn_Plan__sizes fn_Plan__back fn_Plan__twin fn__law_go_on fn_Plan__forth))) :=
  fnM tx.F_law sc_law fun _ _ _ _ _ _ hr =>
    (@MSs.cons _ _ _ _ _ _ (MS.set 1 sc_law.nd (ME.make (kc := 0) tx.cl_Plan tx.mk_Plan G_Plan____init__ hr (by omega) tx.mg_Plan tx.b_Plan____init__ (MA.cons (ME.pu fun _ => (E.call G__law_scene hr (by omega) tx.m__law_scene tx.F__law_scene.kp tx.b__law_scene (A.cons (E.v 0) (A.cons E.int A.nil)))) MA.nil)))
    (@MSs.cons _ _ _ _ _ _ (MS.set 2 sc_law.nd (ME.lstM (MA.cons (ME.meth0 (kc := 0) (ME.v 1) tx.cl_Plan tx.me_Plan__now G_Plan__now hr (by omega) tx.b_Plan__now) MA.nil)))
    (@MSs.cons _ _ _ _ _ _ (@MS.for _ _ _ _ _ _ _ _ _ _ _ PassesOwn.never rfl (MI.pu fun _ => (I.rng1 tx.z_range (A.cons (E.add E.int (E.call G__law_drawn hr (by omega) tx.m__law_drawn tx.F__law_drawn.kp tx.b__law_drawn (A.cons (E.v 0) (A.cons E.int (A.cons E.int A.nil))))) A.nil))) (pg_name (i := 3) sc_law.nd rfl (by first | exact Or.inl rfl | exact Or.inr rfl) ) (TgP.name (i := 3))
    (@MSs.cons _ _ _ _ _ _ (MS.exp (ME.call G__law_step hr (by omega) tx.m__law_step tx.F__law_step.kp tx.b__law_step (MA.cons (ME.pu fun _ => (E.v 0)) (MA.cons (ME.pu fun _ => (E.add E.int (E.mul E.int (E.v 3)))) (MA.cons (ME.v 1) MA.nil)))))
    (@MSs.one _ _ _ _ (MS.exp (ME.appC (ME.v 2) (ME.meth0 (kc := 0) (ME.v 1) tx.cl_Plan tx.me_Plan__now G_Plan__now hr (by omega) tx.b_Plan__now))))) (fun _ => rfl))
    (@MSs.cons _ _ _ _ _ _ (MS.set 4 sc_law.nd (ME.sub (ME.len tx.z_len (MA.cons (ME.fz (ME.v 2)) MA.nil)) (ME.pu fun _ => E.int)))
    (@MSs.cons _ _ _ _ _ _ (@MS.ifS _ _ _ _ _ _ _ _ _ (MTW.t (MTW.or (MT.ne hr (ME.meth0 (kc := 0) (ME.v 1) tx.cl_Plan tx.me_Plan__sizes G_Plan__sizes hr (by omega) tx.b_Plan__sizes) (ME.pu fun _ => (E.tup (A.cons (E.v 4) (A.cons E.int A.nil))))) (MTW.or1 (MT.not (MT.val (ME.call G__law_goes hr (by omega) tx.m__law_goes tx.F__law_goes.kp tx.b__law_goes (MA.cons (ME.v 1) (MA.cons (ME.pu fun _ => (E.v 2)) MA.nil)))))))) (@MSs.one _ _ _ _ (MS.ret (ME.pu fun _ => E.bl))) MSs.nil)
    (@MSs.cons _ _ _ _ _ _ (MS.set 5 sc_law.nd (ME.pu fun _ => (E.add E.int (E.call G__law_drawn hr (by omega) tx.m__law_drawn tx.F__law_drawn.kp tx.b__law_drawn (A.cons (E.v 0) (A.cons E.int (A.cons (E.v 4) A.nil)))))))
    (@MSs.cons _ _ _ _ _ _ (@MS.for _ _ _ _ _ _ _ _ _ _ _ PassesOwn.never rfl (MI.pu fun _ => (I.rng1 tx.z_range (A.cons (E.v 5) A.nil))) (pg_name (i := 6) sc_law.nd rfl (by first | exact Or.inl rfl | exact Or.inr rfl) ) (TgP.name (i := 6))
    (@MSs.one _ _ _ _ (MS.exp (ME.meth0 (kc := 0) (ME.v 1) tx.cl_Plan tx.me_Plan__back G_Plan__back hr (by omega) tx.b_Plan__back))) (fun _ => rfl))
    (@MSs.cons _ _ _ _ _ _ (MS.set 7 sc_law.nd (ME.tupM (MA.cons (ME.meth0 (kc := 0) (ME.v 1) tx.cl_Plan tx.me_Plan__now G_Plan__now hr (by omega) tx.b_Plan__now) (MA.cons (ME.meth0 (kc := 0) (ME.v 1) tx.cl_Plan tx.me_Plan__sizes G_Plan__sizes hr (by omega) tx.b_Plan__sizes) MA.nil))))
    (@MSs.cons _ _ _ _ _ _ (MS.set 8 sc_law.nd (ME.meth0 (kc := 0) (ME.v 1) tx.cl_Plan tx.me_Plan__twin G_Plan__twin hr (by omega) tx.b_Plan__twin))
    (@MSs.cons _ _ _ _ _ _ (MS.set 9 sc_law.nd (ME.meth0 (kc := 0) (ME.v 8) tx.cl_Plan tx.me_Plan__twin G_Plan__twin hr (by omega) tx.b_Plan__twin))
    (@MSs.cons _ _ _ _ _ _ (@MS.ifS _ _ _ _ _ _ _ _ _ (MT.pu fun _ => (T.ne hr (E.v 7) (E.tup (A.cons (E.at (E.v 2) (E.sub (E.v 4) (E.v 5))) (A.cons (E.tup (A.cons (E.sub (E.v 4) (E.v 5)) (A.cons (E.v 5) A.nil))) A.nil))))) (@MSs.one _ _ _ _ (MS.ret (ME.pu fun _ => E.bl))) MSs.nil)
    (@MSs.cons _ _ _ _ _ _ (MS.set 10 sc_law.nd (ME.call G__law_go_on hr (by omega) tx.m__law_go_on tx.F__law_go_on.kp tx.b__law_go_on (MA.cons (ME.pu fun _ => (E.v 0)) (MA.cons (ME.v 1) MA.nil))))
    (@MSs.cons _ _ _ _ _ _ (@MS.ifS _ _ _ _ _ _ _ _ _ (MTW.t (MTW.or (MT.pu fun _ => (T.ne hr (E.at (E.v 10) E.int) (E.tup (A.cons (E.add (E.sub (E.v 4) (E.v 5)) E.int) (A.cons E.int A.nil))))) (MTW.or1 (MT.ne hr (ME.tupM (MA.cons (ME.meth0 (kc := 0) (ME.v 8) tx.cl_Plan tx.me_Plan__now G_Plan__now hr (by omega) tx.b_Plan__now) (MA.cons (ME.meth0 (kc := 0) (ME.v 8) tx.cl_Plan tx.me_Plan__sizes G_Plan__sizes hr (by omega) tx.b_Plan__sizes) MA.nil))) (ME.pu fun _ => (E.v 7)))))) (@MSs.one _ _ _ _ (MS.ret (ME.pu fun _ => E.bl))) MSs.nil)
    (@MSs.cons _ _ _ _ _ _ (@MS.ifS _ _ _ _ _ _ _ _ _ (MTW.t (MTW.or (MT.ne hr (ME.call G__law_go_on hr (by omega) tx.m__law_go_on tx.F__law_go_on.kp tx.b__law_go_on (MA.cons (ME.pu fun _ => (E.v 0)) (MA.cons (ME.v 8) MA.nil))) (ME.pu fun _ => (E.v 10))) (MTW.or1 (MT.ne hr (ME.tupM (MA.cons (ME.meth0 (kc := 0) (ME.v 9) tx.cl_Plan tx.me_Plan__now G_Plan__now hr (by omega) tx.b_Plan__now) (MA.cons (ME.meth0 (kc := 0) (ME.v 9) tx.cl_Plan tx.me_Plan__sizes G_Plan__sizes hr (by omega) tx.b_Plan__sizes) MA.nil))) (ME.pu fun _ => (E.v 7)))))) (@MSs.one _ _ _ _ (MS.ret (ME.pu fun _ => E.bl))) MSs.nil)
    (@MSs.cons _ _ _ _ _ _ (@MS.for _ _ _ _ _ _ _ _ _ _ _ PassesOwn.never rfl (MI.pu fun _ => (I.rng1 tx.z_range (A.cons (E.v 5) A.nil))) (pg_name (i := 6) sc_law.nd rfl (by first | exact Or.inl rfl | exact Or.inr rfl) ) (TgP.name (i := 6))
    (@MSs.one _ _ _ _ (MS.exp (ME.meth0 (kc := 0) (ME.v 9) tx.cl_Plan tx.me_Plan__forth G_Plan__forth hr (by omega) tx.b_Plan__forth))) (fun _ => rfl))
    (@MSs.cons _ _ _ _ _ _ (@MS.for _ _ _ _ _ _ _ _ _ _ _ PassesOwn.never rfl (MI.pu fun _ => (I.rng1 tx.z_range (A.cons (E.add (E.sub (E.v 4) (E.v 5)) E.int) A.nil))) (pg_name (i := 6) sc_law.nd rfl (by first | exact Or.inl rfl | exact Or.inr rfl) ) (TgP.name (i := 6))
    (@MSs.one _ _ _ _ (@MS.ifS _ _ _ _ _ _ _ _ _ (MTW.t (MTW.or (MT.ne hr (ME.meth0 (kc := 0) (ME.v 8) tx.cl_Plan tx.me_Plan__back G_Plan__back hr (by omega) tx.b_Plan__back) (ME.meth0 (kc := 0) (ME.v 1) tx.cl_Plan tx.me_Plan__back G_Plan__back hr (by omega) tx.b_Plan__back)) (MTW.or1 (MT.ne hr (ME.meth0 (kc := 0) (ME.v 8) tx.cl_Plan tx.me_Plan__now G_Plan__now hr (by omega) tx.b_Plan__now) (ME.meth0 (kc := 0) (ME.v 1) tx.cl_Plan tx.me_Plan__now G_Plan__now hr (by omega) tx.b_Plan__now))))) (@MSs.one _ _ _ _ (MS.ret (ME.pu fun _ => E.bl))) MSs.nil)) (fun _ => rfl))
    (@MSs.one _ _ _ _ (MS.ret (ME.and (ME.eq hr (ME.meth0 (kc := 0) (ME.v 9) tx.cl_Plan tx.me_Plan__now G_Plan__now hr (by omega) tx.b_Plan__now) (ME.pu fun _ => (E.at (E.v 2) (E.neg E.int)))) (ME.and (ME.eq hr (ME.meth0 (kc := 0) (ME.v 8) tx.cl_Plan tx.me_Plan__now G_Plan__now hr (by omega) tx.b_Plan__now) (ME.pu fun _ => (E.at (E.v 2) E.int))) (ME.one (ME.eq hr (ME.meth0 (kc := 0) (ME.v 9) tx.cl_Plan tx.me_Plan__sizes G_Plan__sizes hr (by omega) tx.b_Plan__sizes) (ME.pu fun _ => (E.tup (A.cons (E.v 4) (A.cons E.int A.nil))))))))))))))))))))))))))
noncomputable def F_Plan____init__ : List D → Sto → Option (D × Sto) := runM 2 2 (g_Plan____init__ )
theorem G_Plan____init__ (tx : Tx K mg t) : FnOk Pr w K mg base CX0 1 t.Plan____init__ t.d_Plan____init__ ["self", "scene"] (spM K (cl t) F_Plan____init__) := ok_Plan____init__ (k := 0) tx 
noncomputable def F__law_cell : List PyData → Option PyData := runF 2 2 (g__law_cell )
theorem G__law_cell (tx : Tx K mg t) : FnOk Pr w K mg base CX0 1 t._law_cell t.d__law_cell ["_law_script", "_law_k"] (spP K F__law_cell) := ok__law_cell (k := 0) tx 
noncomputable def F__law_drawn : List PyData → Option PyData := runF 3 4 (g__law_drawn F__law_cell)
theorem G__law_drawn (tx : Tx K mg t) : FnOk Pr w K mg base CX0 2 t._law_drawn t.d__law_drawn ["_law_script", "_law_k", "_law_many"] (spP K F__law_drawn) := ok__law_drawn (k := 1) tx (G__law_cell tx) (by omega)
noncomputable def F__law_scene : List PyData → Option PyData := runF 2 13 (g__law_scene F__law_drawn)
theorem G__law_scene (tx : Tx K mg t) : FnOk Pr w K mg base CX0 3 t._law_scene t.d__law_scene ["_law_script", "_law_at"] (spP K F__law_scene) := ok__law_scene (k := 2) tx (G__law_drawn tx) (by omega)
noncomputable def F_Plan__now : List D → Sto → Option (D × Sto) := runM 1 1 (g_Plan__now )
theorem G_Plan__now (tx : Tx K mg t) : FnOk Pr w K mg base CX0 1 t.Plan__now t.d_Plan__now ["self"] (spM K (cl t) F_Plan__now) := ok_Plan__now (k := 0) tx 
noncomputable def F_box_of : List PyData → Option PyData := runF 2 3 (g_box_of )
theorem G_box_of (tx : Tx K mg t) : FnOk Pr w K mg base CX0 1 t.box_of t.d_box_of ["scene", "name"] (spP K F_box_of) := ok_box_of (k := 0) tx 
noncomputable def F_children : List PyData → Option PyData := runF 2 2 (g_children )
theorem G_children (tx : Tx K mg t) : FnOk Pr w K mg base CX0 1 t.children t.d_children ["scene", "name"] (spP K F_children) := ok_children (k := 0) tx 
noncomputable def F_below : Nat → List PyData → Option PyData
  | 0 => fun _ => none
  | n + 1 => runF 2 4 (g_below F_box_of F_children (F_below n))
theorem G_below (tx : Tx K mg t) : ∀ n : Nat, FnOk Pr w K mg base CX0 (n + 1) t.below t.d_below ["scene", "name"] (spP K (F_below n))
  | 0 => fn0
  | n + 1 => (ok_below (k := n + 1) tx (G_box_of tx) (by omega) (G_children tx) (by omega) (G_below tx n) (by omega)).mono (by omega)
noncomputable def F_Plan__step_to : List D → Sto → Option (D × Sto) := runM 3 3 (g_Plan__step_to )
theorem G_Plan__step_to (tx : Tx K mg t) : FnOk Pr w K mg base CX0 1 t.Plan__step_to t.d_Plan__step_to ["self", "word", "scene"] (spM K (cl t) F_Plan__step_to) := ok_Plan__step_to (k := 0) tx 
noncomputable def F_cut : List PyData → Option PyData := runF 2 3 (g_cut (F_below 13))
theorem G_cut (tx : Tx K mg t) : FnOk Pr w K mg base CX0 15 t.cut t.d_cut ["scene", "name"] (spP K F_cut) := ok_cut (k := 14) tx (G_below tx 13) (by omega)
noncomputable def F_Plan__take : List D → Sto → Option (D × Sto) := runM 2 3 (g_Plan__take (F_below 13) F_Plan__step_to F_cut)
theorem G_Plan__take (tx : Tx K mg t) : FnOk Pr w K mg base CX0 16 t.Plan__take t.d_Plan__take ["self", "name"] (spM K (cl t) F_Plan__take) := ok_Plan__take (k := 15) tx (G_below tx 13) (by omega) (G_Plan__step_to tx) (by omega) (G_cut tx) (by omega)
noncomputable def F_raised : List PyData → Option PyData := runF 2 3 (g_raised (F_below 13) F_cut)
theorem G_raised (tx : Tx K mg t) : FnOk Pr w K mg base CX0 16 t.raised t.d_raised ["scene", "name"] (spP K F_raised) := ok_raised (k := 15) tx (G_below tx 13) (by omega) (G_cut tx) (by omega)
noncomputable def F_Plan__lift : List D → Sto → Option (D × Sto) := runM 2 2 (g_Plan__lift F_Plan__step_to F_raised)
theorem G_Plan__lift (tx : Tx K mg t) : FnOk Pr w K mg base CX0 17 t.Plan__lift t.d_Plan__lift ["self", "name"] (spM K (cl t) F_Plan__lift) := ok_Plan__lift (k := 16) tx (G_Plan__step_to tx) (by omega) (G_raised tx) (by omega)
noncomputable def F_with_other : List PyData → Option PyData := runF 2 2 (g_with_other )
theorem G_with_other (tx : Tx K mg t) : FnOk Pr w K mg base CX0 1 t.with_other t.d_with_other ["scene", "other"] (spP K F_with_other) := ok_with_other (k := 0) tx 
noncomputable def F_marked : List PyData → Option PyData := runF 3 4 (g_marked F_box_of F_with_other)
theorem G_marked (tx : Tx K mg t) : FnOk Pr w K mg base CX0 2 t.marked t.d_marked ["scene", "name", "marks"] (spP K F_marked) := ok_marked (k := 1) tx (G_box_of tx) (by omega) (G_with_other tx) (by omega)
noncomputable def F_Plan__mark : List D → Sto → Option (D × Sto) := runM 3 4 (g_Plan__mark F_box_of F_Plan__step_to F_marked)
theorem G_Plan__mark (tx : Tx K mg t) : FnOk Pr w K mg base CX0 3 t.Plan__mark t.d_Plan__mark ["self", "name", "marks"] (spM K (cl t) F_Plan__mark) := ok_Plan__mark (k := 2) tx (G_box_of tx) (by omega) (G_Plan__step_to tx) (by omega) (G_marked tx) (by omega)
noncomputable def F_put_at : List PyData → Option PyData := runF 4 5 (g_put_at F_box_of F_with_other)
theorem G_put_at (tx : Tx K mg t) : FnOk Pr w K mg base CX0 2 t.put_at t.d_put_at ["scene", "name", "left", "top"] (spP K F_put_at) := ok_put_at (k := 1) tx (G_box_of tx) (by omega) (G_with_other tx) (by omega)
noncomputable def F_Plan__lay : List D → Sto → Option (D × Sto) := runM 4 5 (g_Plan__lay F_box_of F_Plan__step_to F_put_at)
theorem G_Plan__lay (tx : Tx K mg t) : FnOk Pr w K mg base CX0 3 t.Plan__lay t.d_Plan__lay ["self", "name", "left", "top"] (spM K (cl t) F_Plan__lay) := ok_Plan__lay (k := 2) tx (G_box_of tx) (by omega) (G_Plan__step_to tx) (by omega) (G_put_at tx) (by omega)
noncomputable def F_has_box : List PyData → Option PyData := runF 2 2 (g_has_box )
theorem G_has_box (tx : Tx K mg t) : FnOk Pr w K mg base CX0 1 t.has_box t.d_has_box ["scene", "name"] (spP K F_has_box) := ok_has_box (k := 0) tx 
noncomputable def F_with_box : List PyData → Option PyData := runF 2 4 (g_with_box F_has_box)
theorem G_with_box (tx : Tx K mg t) : FnOk Pr w K mg base CX0 2 t.with_box t.d_with_box ["scene", "box"] (spP K F_with_box) := ok_with_box (k := 1) tx (G_has_box tx) (by omega)
noncomputable def F_Plan__put : List D → Sto → Option (D × Sto) := runM 2 2 (g_Plan__put F_Plan__step_to F_with_box)
theorem G_Plan__put (tx : Tx K mg t) : FnOk Pr w K mg base CX0 3 t.Plan__put t.d_Plan__put ["self", "box"] (spM K (cl t) F_Plan__put) := ok_Plan__put (k := 2) tx (G_Plan__step_to tx) (by omega) (G_with_box tx) (by omega)
noncomputable def F__law_step : List D → Sto → Option (D × Sto) := runM 3 8 (g__law_step F_Plan__now F__law_drawn F_Plan__take F_Plan__lift F_Plan__mark F_Plan__lay F_Plan__put)
theorem G__law_step (tx : Tx K mg t) : FnOk Pr w K mg base CX0 18 t._law_step t.d__law_step ["_law_script", "_law_at", "_law_plan"] (spM K (cl t) F__law_step) := ok__law_step (k := 17) tx (G_Plan__now tx) (by omega) (G__law_drawn tx) (by omega) (G_Plan__take tx) (by omega) (G_Plan__lift tx) (by omega) (G_Plan__mark tx) (by omega) (G_Plan__lay tx) (by omega) (G_Plan__put tx) (by omega)
noncomputable def F_Plan__back : List D → Sto → Option (D × Sto) := runM 1 2 (g_Plan__back )
theorem G_Plan__back (tx : Tx K mg t) : FnOk Pr w K mg base CX0 1 t.Plan__back t.d_Plan__back ["self"] (spM K (cl t) F_Plan__back) := ok_Plan__back (k := 0) tx 
noncomputable def F_Plan__sizes : List D → Sto → Option (D × Sto) := runM 1 1 (g_Plan__sizes )
theorem G_Plan__sizes (tx : Tx K mg t) : FnOk Pr w K mg base CX0 1 t.Plan__sizes t.d_Plan__sizes ["self"] (spM K (cl t) F_Plan__sizes) := ok_Plan__sizes (k := 0) tx 
noncomputable def F_Plan__forth : List D → Sto → Option (D × Sto) := runM 1 2 (g_Plan__forth )
theorem G_Plan__forth (tx : Tx K mg t) : FnOk Pr w K mg base CX0 1 t.Plan__forth t.d_Plan__forth ["self"] (spM K (cl t) F_Plan__forth) := ok_Plan__forth (k := 0) tx 
noncomputable def F__law_goes : List D → Sto → Option (D × Sto) := runM 2 5 (g__law_goes F_Plan__back F_Plan__sizes F_Plan__now F_Plan__forth)
theorem G__law_goes (tx : Tx K mg t) : FnOk Pr w K mg base CX0 2 t._law_goes t.d__law_goes ["_law_plan", "_law_rows"] (spM K (cl t) F__law_goes) := ok__law_goes (k := 1) tx (G_Plan__back tx) (by omega) (G_Plan__sizes tx) (by omega) (G_Plan__now tx) (by omega) (G_Plan__forth tx) (by omega)
noncomputable def F_Plan__twin : List D → Sto → Option (D × Sto) := runM 1 2 (g_Plan__twin F_Plan____init__)
theorem G_Plan__twin (tx : Tx K mg t) : FnOk Pr w K mg base CX0 3 t.Plan__twin t.d_Plan__twin ["self"] (spM K (cl t) F_Plan__twin) := ok_Plan__twin (k := 2) tx (G_Plan____init__ tx) (by omega)
noncomputable def F__law_go_on : List D → Sto → Option (D × Sto) := runM 2 3 (g__law_go_on F__law_step F_Plan__sizes F_Plan__now)
theorem G__law_go_on (tx : Tx K mg t) : FnOk Pr w K mg base CX0 19 t._law_go_on t.d__law_go_on ["_law_script", "_law_plan"] (spM K (cl t) F__law_go_on) := ok__law_go_on (k := 18) tx (G__law_step tx) (by omega) (G_Plan__sizes tx) (by omega) (G_Plan__now tx) (by omega)
noncomputable def F_law : List D → Sto → Option (D × Sto) := runM 1 11 (g_law F_Plan____init__ F__law_scene F_Plan__now F__law_drawn F__law_step F__law_goes F_Plan__sizes F_Plan__back F_Plan__twin F__law_go_on F_Plan__forth)
theorem G_law (tx : Tx K mg t) : FnOk Pr w K mg base CX0 20 t.law t.d_law ["_law_script"] (spM K (cl t) F_law) := ok_law (k := 19) tx (G_Plan____init__ tx) (by omega) (G__law_scene tx) (by omega) (G_Plan__now tx) (by omega) (G__law_drawn tx) (by omega) (G__law_step tx) (by omega) (G__law_goes tx) (by omega) (G_Plan__sizes tx) (by omega) (G_Plan__back tx) (by omega) (G_Plan__twin tx) (by omega) (G__law_go_on tx) (by omega) (G_Plan__forth tx) (by omega)
end
end K54
namespace K54
noncomputable def chN (st : List (Nat × Nat)) (q : Nat) : List Nat := (st.filter fun x => decide (x.2 = q)).map (·.1)
noncomputable def parN : List (Nat × Nat) → Nat → Option Nat
  | [], _ => none
  | x :: r, q => if x.1 = q then some x.2 else parN r q
noncomputable def catN (f : Nat → Option (List Nat)) : List Nat → Option (List Nat)
  | [] => some []
  | x :: r => (f x).bind fun a => (catN f r).bind fun b => some (a ++ b)
noncomputable def pthN (st : List (Nat × Nat)) : Nat → Nat → Option (List Nat)
  | 0, _ => none
  | n + 1, q => (parN st q).bind fun p => if p = 0 then some [q] else (pthN st n p).bind fun l => if l.length + 1 ≤ 3000000 then some (l ++ [q]) else none
noncomputable def blwN (st : List (Nat × Nat)) : Nat → Nat → Option (List Nat)
  | 0, _ => none
  | n + 1, q => (parN st q).bind fun _ => (catN (blwN st n) (chN st q)).bind fun r => if r.length + 1 ≤ 3000000 then some (q :: r) else none
noncomputable def pntN (st : List (Nat × Nat)) : Option (List Nat) := (catN (blwN st 13) (chN st 0)).bind fun r => if r.length ≤ 3000000 then some r else none
noncomputable def stF (ps : List Nat) : List (Nat × Nat) := (List.range ps.length).map fun i => (i + 1, ps.getD i 0)
noncomputable def par (ps : List Nat) (q : Nat) : Nat := ps.getD (q - 1) 0
structure PsOk (ps : List Nat) : Prop where
  len : ps.length ≤ 12
  par : ∀ i, ps.getD i 0 ≤ i
noncomputable def pF (ps : List Nat) : Nat → Nat → List Nat
  | 0, _ => []
  | n + 1, q => if q = 0 then [] else pF ps n (par ps q) ++ [q]
noncomputable def P (ps : List Nat) (q : Nat) : List Nat := pF ps q q
noncomputable def blF (st : List (Nat × Nat)) : Nat → Nat → List Nat
  | 0, _ => []
  | n + 1, q => q :: (chN st q).flatMap (blF st n)
noncomputable def kids (st : List (Nat × Nat)) (n a : Nat) : List Nat := (chN st a).flatMap (blF st n)
theorem flat_congr {α β : Type} {f g : α → List β} : ∀ {l : List α}, (∀ x ∈ l, f x = g x) → l.flatMap f = l.flatMap g
  | [], _ => rfl
  | x :: r, h => by
    rw [List.flatMap_cons, List.flatMap_cons, h x List.mem_cons_self, flat_congr fun y hy => h y (List.mem_cons_of_mem _ hy)]
theorem flat_nil {α β : Type} {f : α → List β} : ∀ {l : List α}, (∀ x ∈ l, f x = []) → l.flatMap f = []
  | [], _ => rfl
  | x :: r, h => by
    rw [List.flatMap_cons, h x List.mem_cons_self, flat_nil fun y hy => h y (List.mem_cons_of_mem _ hy)]; rfl
section
variable {ps : List Nat} (ok : PsOk ps)
theorem pF_zero (n : Nat) : pF ps n 0 = [] := by
  cases n with
  | zero => rfl
  | succ n => rfl
theorem par_lt (ok : PsOk ps) {q : Nat} (h : 1 ≤ q) : par ps q < q := by
  have := ok.par (q - 1)
  unfold par
  omega
include ok
theorem pF_st : ∀ q n, q ≤ n → pF ps n q = pF ps q q := by
  intro q
  induction q using Nat.strongRecOn with
  | _ q ih =>
    intro n hn
    cases q with
    | zero => rw [pF_zero, pF_zero]
    | succ j =>
      cases n with
      | zero => omega
      | succ m =>
        have hp := par_lt ok (q := j + 1) (by omega)
        unfold pF
        rw [if_neg (by omega), if_neg (by omega), ih _ hp m (by omega), ih _ hp j (by omega)]
theorem P_succ {q : Nat} (h : 1 ≤ q) : P ps q = P ps (par ps q) ++ [q] := by
  obtain ⟨j, rfl⟩ : ∃ j, q = j + 1 := ⟨q - 1, by omega⟩
  have hp := par_lt ok (q := j + 1) h
  unfold P
  rw [pF, if_neg (by omega), pF_st ok _ j (by omega)]
omit ok in
theorem P_zero : P ps 0 = [] := rfl
omit ok in
theorem st_mem {x : Nat × Nat} (h : x ∈ stF ps) : 1 ≤ x.1 ∧ x.1 ≤ ps.length ∧ x.2 = par ps x.1 := by
  obtain ⟨i, hi, rfl⟩ := List.mem_map.mp h
  have := List.mem_range.mp hi
  refine ⟨by simp, by show i + 1 ≤ _; omega, ?_⟩
  show _ = ps.getD (i + 1 - 1) 0
  rfl
omit ok in
theorem mem_st {q : Nat} (h1 : 1 ≤ q) (h2 : q ≤ ps.length) : (q, par ps q) ∈ stF ps := by
  refine List.mem_map.mpr ⟨q - 1, List.mem_range.mpr (by omega), ?_⟩
  unfold par
  rw [show q - 1 + 1 = q by omega]
omit ok in
theorem parN_of {q p : Nat} : ∀ {st : List (Nat × Nat)}, (∀ y ∈ st, y.1 = q → y.2 = p) → (q, p) ∈ st → parN st q = some p
  | x :: r, hu, hm => by
    unfold parN
    by_cases e : x.1 = q
    · rw [if_pos e, hu x List.mem_cons_self e]
    · rw [if_neg e]
      rcases List.mem_cons.mp hm with z | z
      · exact absurd (by rw [← z]) e
      · exact parN_of (fun y hy => hu y (List.mem_cons_of_mem _ hy)) z
omit ok in
theorem parN_st {q : Nat} (h1 : 1 ≤ q) (h2 : q ≤ ps.length) : parN (stF ps) q = some (par ps q) :=
  parN_of (fun y hy e => by rw [(st_mem hy).2.2, e]) (mem_st h1 h2)
theorem ch_mem {a x : Nat} (h : x ∈ chN (stF ps) a) : 1 ≤ x ∧ x ≤ ps.length ∧ par ps x = a ∧ a < x := by
  obtain ⟨y, hy, rfl⟩ := List.mem_map.mp h
  obtain ⟨h1, h2⟩ := List.mem_filter.mp hy
  have h3 := st_mem h1
  have h4 := par_lt ok h3.1
  have h5 : y.2 = a := by simpa using h2
  exact ⟨h3.1, h3.2.1, by rw [← h3.2.2, h5], by rw [← h5, h3.2.2]; exact h4⟩
omit ok in
theorem mem_ch {x : Nat} (h1 : 1 ≤ x) (h2 : x ≤ ps.length) : x ∈ chN (stF ps) (par ps x) :=
  List.mem_map.mpr ⟨(x, par ps x), List.mem_filter.mpr ⟨mem_st h1 h2, by simp⟩, rfl⟩
omit ok in
theorem st_pw : (stF ps).Pairwise (fun a b => a.1 < b.1) := by
  unfold stF
  rw [List.pairwise_map]
  exact List.Pairwise.imp (fun h => by show _ + 1 < _ + 1; omega) List.pairwise_lt_range
omit ok in
theorem ch_pw (a : Nat) : (chN (stF ps) a).Pairwise (· < ·) := by
  unfold chN
  rw [List.pairwise_map]
  exact List.Pairwise.filter _ st_pw
omit ok in
theorem catN_eq {f : Nat → Option (List Nat)} {g : Nat → List Nat} : ∀ {xs : List Nat}, (∀ x ∈ xs, f x = some (g x)) → catN f xs = some (xs.flatMap g)
  | [], _ => rfl
  | x :: r, h => by
    unfold catN
    rw [h x List.mem_cons_self, Option.bind_some, catN_eq fun y hy => h y (List.mem_cons_of_mem _ hy)]
    simp
omit ok in
theorem flat_pow {n : Nat} {f : Nat → List Nat} : ∀ (l : List Nat) (s : Nat), l.Pairwise (· < ·) → (∀ x ∈ l, s < x ∧ x ≤ n) → (∀ x ∈ l, (f x).length ≤ 2 ^ (n - x)) → (l.flatMap f).length + 1 ≤ 2 ^ (n - s)
  | [], s, _, _, _ => Nat.one_le_two_pow
  | x :: r, s, hp, hs, hf => by
    obtain ⟨p1, p2⟩ := List.pairwise_cons.mp hp
    have ih := flat_pow r x p2 (fun y hy => ⟨p1 y hy, (hs y (List.mem_cons_of_mem _ hy)).2⟩) fun y hy => hf y (List.mem_cons_of_mem _ hy)
    have h1 := hf x List.mem_cons_self
    have h2 := hs x List.mem_cons_self
    rw [List.flatMap_cons, List.length_append]
    have h3 : 2 ^ (n - x) + 2 ^ (n - x) = 2 ^ (n - x + 1) := by rw [Nat.pow_succ]; omega
    have h4 : 2 ^ (n - x + 1) ≤ 2 ^ (n - s) := Nat.pow_le_pow_right (by decide) (by omega)
    omega
theorem blF_len : ∀ m q, 1 ≤ q → q ≤ ps.length → (blF (stF ps) m q).length ≤ 2 ^ (ps.length - q)
  | 0, q, _, _ => Nat.zero_le _
  | m + 1, q, h1, h2 => by
    unfold blF
    rw [List.length_cons]
    exact flat_pow _ q (ch_pw q) (fun x hx => ⟨(ch_mem ok hx).2.2.2, (ch_mem ok hx).2.1⟩) fun x hx => blF_len m x (ch_mem ok hx).1 (ch_mem ok hx).2.1
theorem pow_lim {q : Nat} (h1 : 1 ≤ q) : 2 ^ (ps.length - q) ≤ 4096 := by
  have := ok.len
  exact Nat.le_trans (Nat.pow_le_pow_right (by decide) (show ps.length - q ≤ 12 by omega)) (by decide)
theorem blwN_eq : ∀ n q, 1 ≤ q → q ≤ ps.length → ps.length < n + q → blwN (stF ps) n q = some (blF (stF ps) n q)
  | 0, q, _, h2, h3 => by omega
  | n + 1, q, h1, h2, h3 => by
    have hl := blF_len ok (n + 1) q h1 h2
    unfold blF at hl
    rw [List.length_cons] at hl
    have hp := pow_lim ok h1
    unfold blwN blF
    rw [parN_st h1 h2, Option.bind_some, catN_eq (g := blF (stF ps) n) fun x hx => blwN_eq n x (ch_mem ok hx).1 (ch_mem ok hx).2.1 (by have := ch_mem ok hx; omega), Option.bind_some, if_pos (by omega)]
omit ok in
theorem kids_step {q p : Nat} (hq : q ∈ chN (stF ps) p) : ∀ (m a : Nat), p ∈ kids (stF ps) m a → q ∈ kids (stF ps) (m + 1) a := by
  intro m
  induction m with
  | zero =>
    intro a h
    obtain ⟨y, _, hy⟩ := List.mem_flatMap.mp h
    cases hy
  | succ m ih =>
    intro a h
    obtain ⟨y, hy, hx⟩ := List.mem_flatMap.mp h
    refine List.mem_flatMap.mpr ⟨y, hy, List.mem_cons_of_mem _ ?_⟩
    rcases List.mem_cons.mp hx with rfl | z
    · exact List.mem_flatMap.mpr ⟨q, hq, List.mem_cons_self⟩
    · exact ih y z
theorem mem_kids : ∀ (n q : Nat), 1 ≤ q → q ≤ ps.length → q ≤ n → q ∈ kids (stF ps) n 0
  | 0, q, h1, _, h3 => by omega
  | n + 1, q, h1, h2, h3 => by
    have hp := par_lt ok h1
    have hc := mem_ch h1 h2
    by_cases e : par ps q = 0
    · rw [e] at hc
      exact List.mem_flatMap.mpr ⟨q, hc, List.mem_cons_self⟩
    · exact kids_step hc n 0 (mem_kids n _ (by omega) (by omega) (by omega))
end
noncomputable def cutN (st : List (Nat × Nat)) (q : Nat) : Option (List (Nat × Nat)) := (blwN st 13 q).bind fun g => some (st.filter fun x => !decide (x.1 ∈ g))
noncomputable def raiN (st : List (Nat × Nat)) (q : Nat) : Option (List (Nat × Nat)) := (blwN st 13 q).bind fun g => some (st.filter (fun x => !decide (x.1 ∈ g)) ++ st.filter fun x => decide (x.1 ∈ g))
noncomputable abbrev In (ps : List Nat) (q : Nat) : Prop := 1 ≤ q ∧ q ≤ ps.length
end K54
namespace K54
open PySem L2 L2.PU
theorem cGo_map {ι : Type} {t : En → PyData → Option En} {p : En → Option Bool} {f : En → Option PyData} {η : En} (D : ι → PyData) (P : ι → Bool) (Y : ι → PyData) :
    ∀ xs : List ι, (∀ x ∈ xs, ∃ η1, t η (D x) = some η1 ∧ p η1 = some (P x) ∧ (P x = true → f η1 = some (Y x))) → cGo t p f η (xs.map D) = some ((xs.filter P).map Y)
  | [], _ => rfl
  | x :: r, h => by
    obtain ⟨η1, h1, h2, h3⟩ := h x List.mem_cons_self
    have ih := cGo_map D P Y r fun y hy => h y (List.mem_cons_of_mem _ hy)
    rw [List.map_cons]
    unfold cGo
    rw [h1, Option.bind_some, h2, Option.bind_some, ih, List.filter_cons]
    cases hP : P x with
    | false => rfl
    | true => rw [if_pos rfl, h3 hP]; rfl
structure Sc where
  st : List (Nat × Nat)
  nm : Nat → Str
  L : Nat → Int
  T : Nat → Int
  W : Nat → Int
  H : Nat → Int
  mr : Nat → Str
structure Sc.Ok (c : Sc) : Prop where
  inj : ∀ a b, c.nm a = c.nm b → a = b
  top : c.nm 0 = ""
  ok : ∀ a, PyData.strOk (c.nm a) = true
  okm : ∀ a, PyData.strOk (c.mr a) = true
  len : c.st.length ≤ 12
noncomputable def Sc.box (c : Sc) (x : Nat × Nat) : PyData := .tuple [.str (c.nm x.1), .str (c.nm x.2), .int (c.L x.1), .int (c.T x.1), .int (c.W x.1), .int (c.H x.1), .str (c.mr x.1)]
noncomputable def Sc.d (c : Sc) : PyData := .tuple (c.st.map c.box)
noncomputable def Sc.s (c : Sc) (q : Nat) : PyData := .str (c.nm q)
noncomputable def Sc.S (c : Sc) (l : List Nat) : PyData := .list (l.map c.s)
theorem str_dec (a b : Str) : (a == b) = decide (a = b) := rfl
theorem shaped_str {a : Str} (h : PyData.strOk a = true) : SeqAt.shaped (.str a) = true := by
  simp [SeqAt.shaped, PyData.canLay0, PyData.depth, h]
theorem pEq_str {a b : Str} (ha : PyData.strOk a = true) (hb : PyData.strOk b = true) : pEq (.str a) (.str b) = some (.bool (decide (a = b))) := by
  unfold pEq
  rw [if_pos ⟨shaped_str ha, shaped_str hb⟩]
  simp [PyData.eqv, str_dec]
theorem pNe_str {a b : Str} (ha : PyData.strOk a = true) (hb : PyData.strOk b = true) : pNe (.str a) (.str b) = some (.bool (!decide (a = b))) := by
  unfold pNe
  rw [if_pos ⟨shaped_str ha, shaped_str hb⟩]
  simp [PyData.eqv, str_dec]
section
variable {c : Sc} (h : c.Ok)
include h
theorem Sc.Ok.dec (a b : Nat) : decide (c.nm a = c.nm b) = decide (a = b) := by
  by_cases e : a = b
  · subst e; simp
  · have : ¬ c.nm a = c.nm b := fun z => e (h.inj _ _ z)
    rw [decide_eq_false this, decide_eq_false e]
theorem Sc.Ok.eqs (a b : Nat) : pEq (c.s a) (c.s b) = some (.bool (decide (a = b))) := by
  unfold Sc.s
  rw [pEq_str (h.ok a) (h.ok b), h.dec]
end
end K54
namespace K54
open PySem L2 L2.PU
theorem big {n : Nat} (h : n ≤ 3000000) : n ≤ sizeLine := Nat.le_trans h (by show 3000000 ≤ 2 ^ 24; decide)
section
variable {c : Sc} (h : c.Ok)
include h
theorem size_d : (c.st.map c.box).length ≤ sizeLine := by
  rw [List.length_map]
  exact big (Nat.le_trans h.len (by decide))
theorem F_children_eq (q : Nat) : F_children [c.d, c.s q] = some (c.S (chN c.st q)) := by
  unfold F_children runF
  rw [if_pos (by rfl)]
  show (g_children [.val c.d, .val (c.s q)]).bind _ = _
  have e : cGo (tgN 0) (bT (l2 pEq (l2 pIx (eV 0) (eC (.int 1))) (eV 1))) (l2 pIx (eV 0) (eC (.int 0))) [.un, .val (c.s q)] (c.st.map c.box) = some ((c.st.filter fun x => decide (x.2 = q)).map fun x => c.s x.1) := by
    refine cGo_map c.box (fun x => decide (x.2 = q)) (fun x => c.s x.1) _ fun x _ => ⟨_, rfl, ?_, fun _ => rfl⟩
    show (pEq (c.s x.2) (c.s q)).bind asB = _
    rw [h.eqs]; rfl
  have e2 : sComp [none, some 1] (lI asTu (eV 0)) (tgN 0) (bT (l2 pEq (l2 pIx (eV 0) (eC (.int 1))) (eV 1))) (l2 pIx (eV 0) (eC (.int 0))) [.val c.d, .val (c.s q)] = some ((c.st.filter fun x => decide (x.2 = q)).map fun x => c.s x.1) := by
    show (if (c.st.map c.box).length ≤ sizeLine then cGo _ _ _ _ _ else none) = _
    rw [if_pos (size_d h)]
    exact e
  unfold g_children sRet oE
  rw [e2]
  show some (PyData.list _) = some (PyData.list _)
  unfold chN
  rw [List.map_map]; rfl
theorem box_go (q p : Nat) : ∀ (l : List (Nat × Nat)), parN l q = some p → ∀ s : Sl, sGo (tgN 2) (sIf (bT (l2 pEq (l2 pIx (eV 2) (eC (.int 0))) (eV 1))) (sRet (eV 2)) sNx) (l.map c.box) [.val c.d, .val (c.s q), s] = some (.rt (c.box (q, p)))
  | x :: r, hm, s => by
    rw [List.map_cons]
    unfold sGo
    have et : tgN 2 [.val c.d, .val (c.s q), s] (c.box x) = some [.val c.d, .val (c.s q), .val (c.box x)] := rfl
    rw [et, Option.bind_some]
    have eb : (bT (l2 pEq (l2 pIx (eV 2) (eC (.int 0))) (eV 1))) [.val c.d, .val (c.s q), .val (c.box x)] = some (decide (x.1 = q)) := by
      show (pEq (c.s x.1) (c.s q)).bind asB = _
      rw [h.eqs]; rfl
    unfold sIf
    rw [eb, Option.bind_some]
    unfold parN at hm
    by_cases e : x.1 = q
    · rw [if_pos e] at hm
      cases hm
      rw [if_pos (by simpa using e)]
      subst e
      rfl
    · rw [if_neg e] at hm
      rw [if_neg (by simpa using e)]
      show sGo _ _ (r.map c.box) _ = _
      exact box_go q p r hm _
theorem F_box_eq {q p : Nat} (h1 : parN c.st q = some p) : F_box_of [c.d, c.s q] = some (c.box (q, p)) := by
  unfold F_box_of runF
  rw [if_pos (by rfl)]
  show (g_box_of [.val c.d, .val (c.s q), .un]).bind _ = _
  have e2 : sFor (lI asTu (eV 0)) (tgN 2) (sIf (bT (l2 pEq (l2 pIx (eV 2) (eC (.int 0))) (eV 1))) (sRet (eV 2)) sNx) [.val c.d, .val (c.s q), .un] = some (.rt (c.box (q, p))) := box_go h q p c.st h1 .un
  unfold g_box_of sSeq
  rw [e2]; rfl
theorem below_go {F : List PyData → Option PyData} {f : Nat → Option (List Nat)} (hF : ∀ x l, f x = some l → F [c.d, c.s x] = some (c.S l)) (q : Nat) :
    ∀ (xs r : List Nat), catN f xs = some r → ∀ (done : List Nat) (s3 : Sl), done.length + r.length ≤ 3000000 → ∃ s3', sGo (tgN 3) (sExt 2 (lI asL (lA F (aC (eV 0) (aC (eV 3) aN))))) (xs.map c.s) [.val c.d, .val (c.s q), .own (done.map c.s), s3] = some (.nx [.val c.d, .val (c.s q), .own ((done ++ r).map c.s), s3'])
  | [], r, e, done, s3, _ => by
    cases e
    exact ⟨s3, by rw [List.append_nil]; rfl⟩
  | x :: xs, r, e, done, s3, hl => by
    obtain ⟨a, ea, e⟩ := bind_some e
    obtain ⟨b, eb, e⟩ := bind_some e
    cases e
    rw [List.length_append] at hl
    obtain ⟨s3', ih⟩ := below_go hF q xs b eb (done ++ a) (.val (c.s x)) (by rw [List.length_append]; omega)
    refine ⟨s3', ?_⟩
    have e1 : sExt 2 (lI asL (lA F (aC (eV 0) (aC (eV 3) aN)))) [.val c.d, .val (c.s q), .own (done.map c.s), .val (c.s x)] = some (.nx [.val c.d, .val (c.s q), .own ((done ++ a).map c.s), .val (c.s x)]) := by
      show Option.bind (Option.bind (F [c.d, c.s x]) asL) _ = _
      rw [hF x a ea]
      show (if (done.map c.s).length + (a.map c.s).length ≤ sizeLine then _ else _) = _
      rw [if_pos (by rw [List.length_map, List.length_map]; exact big (by omega)), List.map_append]
      rfl
    rw [List.map_cons]
    unfold sGo
    show Option.bind (sExt 2 _ [.val c.d, .val (c.s q), .own (done.map c.s), .val (c.s x)]) _ = _
    rw [e1, Option.bind_some]
    show sGo _ _ _ _ = _
    rw [ih, List.append_assoc]
theorem F_below_eq : ∀ (n q : Nat) (l : List Nat), blwN c.st n q = some l → F_below n [c.d, c.s q] = some (c.S l)
  | n + 1, q, l, e => by
    unfold blwN at e
    obtain ⟨p, hq, e⟩ := bind_some e
    · obtain ⟨r, hr, e⟩ := bind_some e
      split at e
      · rename_i hl
        cases e
        unfold F_below runF
        rw [if_pos (by rfl)]
        show (g_below F_box_of F_children (F_below n) [.val c.d, .val (c.s q), .un, .un]).bind _ = _
        have eb := F_box_eq h hq
        have e1 : sSetO 2 (fun η => ((aC (l2 pIx (lA F_box_of (aC (eV 0) (aC (eV 1) aN))) (eC (.int 0))) aN) η).bind gL) [.val c.d, .val (c.s q), .un, .un] = some (.nx [.val c.d, .val (c.s q), .own [c.s q], .un]) := by
          show Option.bind (Option.bind (Option.bind (Option.bind (F_box_of [c.d, c.s q]) _) _) _) _ = _
          rw [eb]
          rfl
        obtain ⟨s3', e2⟩ := below_go h (F_below_eq n) q (chN c.st q) r hr [q] .un (by simpa [Nat.add_comm] using hl)
        have e3 : sFor (lI asL (lA F_children (aC (eV 0) (aC (eV 1) aN)))) (tgN 3) (sExt 2 (lI asL (lA (F_below n) (aC (eV 0) (aC (eV 3) aN))))) [.val c.d, .val (c.s q), .own [c.s q], .un] = some (.nx [.val c.d, .val (c.s q), .own (([q] ++ r).map c.s), s3']) := by
          show Option.bind (Option.bind (F_children [c.d, c.s q]) asL) _ = _
          rw [F_children_eq h]
          exact e2
        unfold g_below sSeq
        rw [e1, Option.bind_some]
        show Option.bind (Option.bind (sFor _ _ _ _) _) _ = _
        rw [e3]
        rfl
      · cases e
end
end K54
namespace K54
open PySem L2 L2.PU
noncomputable def Sd (ns : List Int) : PyData := .list (ns.map PyData.int)
theorem can_ints : ∀ ns : List Int, PyData.canLayAll0 (ns.map PyData.int) = true
  | [] => rfl
  | _ :: r => by
    have ih := can_ints r
    simpa [PyData.canLayAll0, PyData.canLay0] using ih
theorem dep_ints : ∀ ns : List Int, PyData.depthAll (ns.map PyData.int) = 0
  | [] => rfl
  | _ :: r => by
    have ih := dep_ints r
    simpa [PyData.depthAll, PyData.depth] using ih
theorem shaped_ints (ns : List Int) : SeqAt.shaped (.list (ns.map PyData.int)) = true := by
  simp [SeqAt.shaped, PyData.canLay0, PyData.depth, can_ints, dep_ints]
theorem shaped_int (i : Int) : SeqAt.shaped (.int i) = true := by simp [SeqAt.shaped, PyData.canLay0, PyData.depth]
theorem pEq_int (i j : Int) : pEq (.int i) (.int j) = some (.bool (i == j)) := by
  unfold pEq
  rw [if_pos ⟨shaped_int i, shaped_int j⟩]
  simp [PyData.eqv]
theorem l2_of {o : PyData → PyData → Option PyData} {f g : En → Option PyData} {η : En} {x y z : PyData} (hf : f η = some x) (hg : g η = some y) (ho : o x y = some z) : l2 o f g η = some z := by
  unfold l2
  rw [hf, Option.bind_some, hg, Option.bind_some, ho]
theorem pMul_ok {i j : Int} (h : CMul i j) : pMul (.int i) (.int j) = some (.int (i * j)) := if_pos h
theorem pMod_ok {i j : Int} (h : 0 < j) : pMod (.int i) (.int j) = some (.int (i % j)) := if_pos h
theorem pFdiv_ok {i j : Int} (h : CDiv i j) : pFdiv (.int i) (.int j) = some (.int (i / j)) := if_pos h
theorem mulL {i j : Int} (h1 : -(2 ^ 64) < i) (h2 : i < 2 ^ 64) : CMul i j := Or.inl ⟨h1, h2⟩
theorem mulR {i j : Int} (h1 : -(2 ^ 64) < j) (h2 : j < 2 ^ 64) : CMul i j := Or.inr ⟨h1, h2⟩
section
variable {ns : List Int}
theorem cell_ok (hn : ns.length ≤ 63) {k : Int} (hk : 0 ≤ k) : ∃ v : Int, F__law_cell [Sd ns, .int k] = some (.int v) := by
  unfold F__law_cell runF
  rw [if_pos (by rfl)]
  have et : (bT (l2 pEq (eV 0) (oE (fun η => (aN η).bind gL)))) [.val (Sd ns), .val (.int k)] = some (decide (ns = [])) := by
    show Option.bind (pEq (Sd ns) (.list [])) asB = _
    unfold pEq
    rw [if_pos ⟨shaped_ints ns, by rfl⟩]
    cases ns <;> simp [Sd, PyData.eqv, PyData.eqvAll, asB]
  show ∃ v, Option.bind (g__law_cell [.val (Sd ns), .val (.int k)]) _ = _
  unfold g__law_cell sSeq sIf
  rw [et, Option.bind_some]
  by_cases h0 : ns = []
  · rw [if_pos (by simpa using h0)]
    refine ⟨7 * k, ?_⟩
    have : l2 pMul (eC (.int 7)) (eV 1) [.val (Sd ns), .val (.int k)] = some (.int (7 * k)) := l2_of rfl rfl (pMul_ok (mulL (by decide) (by decide)))
    unfold sRet
    rw [this]; rfl
  · rw [if_neg (by simpa using h0)]
    have hp : 0 < ns.length := by cases ns with | nil => exact absurd rfl h0 | cons => simp
    have hlen : lA pLen (aC (eV 0) aN) [.val (Sd ns), .val (.int k)] = some (.int (ns.length : Int)) := by
      show some (PyData.int ((ns.map PyData.int).length : Int)) = _
      rw [List.length_map]
    have hm : l2 pMod (eV 1) (lA pLen (aC (eV 0) aN)) [.val (Sd ns), .val (.int k)] = some (.int (k % (ns.length : Int))) := l2_of rfl hlen (pMod_ok (by omega))
    have hd : l2 pFdiv (eV 1) (lA pLen (aC (eV 0) aN)) [.val (Sd ns), .val (.int k)] = some (.int (k / (ns.length : Int))) := l2_of rfl hlen (pFdiv_ok ⟨by omega, by omega⟩)
    obtain ⟨j, hj⟩ : ∃ j : Nat, k % (ns.length : Int) = (j : Int) := ⟨(k % (ns.length : Int)).toNat, by have := Int.emod_nonneg k (show (ns.length : Int) ≠ 0 by omega); omega⟩
    have hjl : j < ns.length := by have := Int.emod_lt_of_pos k (show (0 : Int) < ns.length by omega); omega
    refine ⟨ns[j] + 6553 * (k / (ns.length : Int)), ?_⟩
    have hx : l2 pIx (eV 0) (l2 pMod (eV 1) (lA pLen (aC (eV 0) aN))) [.val (Sd ns), .val (.int k)] = some (.int ns[j]) := by
      refine l2_of rfl hm ?_
      rw [hj]
      show atI (ns.map PyData.int) (j : Int) = _
      exact atI_nat (by rw [List.getElem?_map, List.getElem?_eq_getElem hjl]; rfl)
    have hy : l2 pMul (eC (.int 6553)) (l2 pFdiv (eV 1) (lA pLen (aC (eV 0) aN))) [.val (Sd ns), .val (.int k)] = some (.int (6553 * (k / (ns.length : Int)))) := l2_of rfl hd (pMul_ok (mulL (by decide) (by decide)))
    have hz := l2_of (o := pAdd) hx hy rfl
    show Option.bind (sRet _ [.val (Sd ns), .val (.int k)]) _ = _
    unfold sRet
    rw [hz]
    rfl
theorem drawn_ok (hn : ns.length ≤ 63) {k m : Int} (hk : 0 ≤ k) (hm : 0 < m) : ∃ r : Nat, (r : Int) < m ∧ F__law_drawn [Sd ns, .int k, .int m] = some (.int r) := by
  obtain ⟨v, hv⟩ := cell_ok hn hk
  unfold F__law_drawn runF
  rw [if_pos (by rfl)]
  have hc : lA F__law_cell (aC (eV 0) (aC (eV 1) aN)) [.val (Sd ns), .val (.int k), .val (.int m), .un] = some (.int v) := hv
  have x1 : l2 pMod (l2 pAdd (l2 pMul (l2 pMod (lA F__law_cell (aC (eV 0) (aC (eV 1) aN))) (eC (.int 2147483563))) (eC (.int 69069))) (l2 pMul (eC (.int 104723)) (l2 pAdd (eV 1) (eC (.int 1))))) (eC (.int 2147483563)) [.val (Sd ns), .val (.int k), .val (.int m), .un] = some (.int ((v % 2147483563 * 69069 + 104723 * (k + 1)) % 2147483563)) :=
    l2_of (l2_of (l2_of (l2_of hc rfl (pMod_ok (by decide))) rfl (pMul_ok (mulR (by decide) (by decide)))) (l2_of rfl (l2_of rfl rfl rfl) (pMul_ok (mulL (by decide) (by decide)))) rfl) rfl (pMod_ok (by decide))
  generalize hx : (v % 2147483563 * 69069 + 104723 * (k + 1)) % 2147483563 = x at x1
  have bx : 0 ≤ x ∧ x < 2147483563 := by rw [← hx]; exact ⟨Int.emod_nonneg _ (by decide), Int.emod_lt_of_pos _ (by decide)⟩
  have x2 : l2 pMod (l2 pAdd (l2 pMul (eV 3) (eV 3)) (l2 pFdiv (eV 3) (eC (.int 3)))) (eC (.int 2147483399)) [.val (Sd ns), .val (.int k), .val (.int m), .val (.int x)] = some (.int ((x * x + x / 3) % 2147483399)) :=
    l2_of (l2_of (l2_of rfl rfl (pMul_ok (mulL (by omega) (by omega)))) (l2_of rfl rfl (pFdiv_ok ⟨by decide, by decide⟩)) rfl) rfl (pMod_ok (by decide))
  generalize hy : (x * x + x / 3) % 2147483399 = y at x2
  have byy : 0 ≤ y ∧ y < 2147483399 := by rw [← hy]; exact ⟨Int.emod_nonneg _ (by decide), Int.emod_lt_of_pos _ (by decide)⟩
  have x3 : l2 pMod (l2 pFdiv (l2 pMod (l2 pAdd (l2 pMul (eV 3) (eV 3)) (l2 pFdiv (eV 3) (eC (.int 7)))) (eC (.int 2147483647))) (eC (.int 11))) (eV 2) [.val (Sd ns), .val (.int k), .val (.int m), .val (.int y)] = some (.int ((y * y + y / 7) % 2147483647 / 11 % m)) :=
    l2_of (l2_of (l2_of (l2_of (l2_of rfl rfl (pMul_ok (mulL (by omega) (by omega)))) (l2_of rfl rfl (pFdiv_ok ⟨by decide, by decide⟩)) rfl) rfl (pMod_ok (by decide))) rfl (pFdiv_ok ⟨by decide, by decide⟩)) rfl (pMod_ok hm)
  refine ⟨((y * y + y / 7) % 2147483647 / 11 % m).toNat, ?_, ?_⟩
  · have h1 := Int.emod_nonneg ((y * y + y / 7) % 2147483647 / 11) (show m ≠ 0 by omega)
    have h2 := Int.emod_lt_of_pos ((y * y + y / 7) % 2147483647 / 11) hm
    omega
  · have h1 := Int.emod_nonneg ((y * y + y / 7) % 2147483647 / 11) (show m ≠ 0 by omega)
    have e : (((y * y + y / 7) % 2147483647 / 11 % m).toNat : Int) = (y * y + y / 7) % 2147483647 / 11 % m := by omega
    rw [e]
    show Option.bind (g__law_drawn F__law_cell [.val (Sd ns), .val (.int k), .val (.int m), .un]) _ = _
    unfold g__law_drawn sSeq sSet sRet
    rw [x1, Option.bind_some, Option.bind_some]
    show Option.bind (Option.bind (Option.bind (l2 pMod _ _ [.val (Sd ns), .val (.int k), .val (.int m), .val (.int x)]) _) _) _ = _
    rw [x2, Option.bind_some, Option.bind_some]
    show Option.bind (Option.bind (l2 pMod _ _ [.val (Sd ns), .val (.int k), .val (.int m), .val (.int y)]) _) _ = _
    rw [x3]
    rfl
end
end K54
namespace K54
open PySem L2 L2.PU
theorem seq_of {f g : En → Option Out} {η η1 : En} {r : Option Out} (h1 : f η = some (.nx η1)) (h2 : g η1 = r) : sSeq f g η = r := by
  unfold sSeq
  rw [h1]; exact h2
theorem set_of {i : Nat} {f : En → Option PyData} {η : En} {d : PyData} (h : f η = some d) : sSet i f η = some (.nx (η.set i (.val d))) := by
  unfold sSet
  rw [h]; rfl
theorem setO_of {i : Nat} {f : En → Option (List PyData)} {η : En} {d : List PyData} (h : f η = some d) : sSetO i f η = some (.nx (η.set i (.own d))) := by
  unfold sSetO
  rw [h]; rfl
theorem lA_of {o : List PyData → Option PyData} {fs : En → Option (List PyData)} {η : En} {ds : List PyData} {d : PyData} (h1 : fs η = some ds) (h2 : o ds = some d) : lA o fs η = some d := by
  unfold lA
  rw [h1]; exact h2
theorem aC_of {f : En → Option PyData} {g : En → Option (List PyData)} {η : En} {d : PyData} {ds : List PyData} (h1 : f η = some d) (h2 : g η = some ds) : aC f g η = some (d :: ds) := by
  unfold aC
  rw [h1, Option.bind_some, h2]; rfl
theorem if_of {c : En → Option Bool} {f g : En → Option Out} {η : En} {b : Bool} (h : c η = some b) : sIf c f g η = if b = true then f η else g η := by
  unfold sIf
  rw [h]; rfl
theorem bT_of {f : En → Option PyData} {η : En} {b : Bool} (h : f η = some (.bool b)) : bT f η = some b := by
  unfold bT
  rw [h]; rfl
theorem for_of {it : En → Option (List PyData)} {t : En → PyData → Option En} {body : En → Option Out} {η : En} {ds : List PyData} {r : Option Out} (h : it η = some ds) (h2 : sGo t body ds η = r) : sFor it t body η = r := by
  unfold sFor
  rw [h]; exact h2
theorem rng1_ok {j : Int} (h1 : -(2 ^ 62) ≤ j) (h2 : j < 2 ^ 62) : rng1 [.int j] = some (rngL 0 j.toNat) := if_pos ⟨h1, h2⟩
theorem sGo_rng {t : En → PyData → Option En} {body : En → Option Out} (Inv : Nat → En → Prop) (n : Nat)
    (st : ∀ k η, k < n → Inv k η → ∃ η1 η2, t η (.int (0 + (k : Nat))) = some η1 ∧ body η1 = some (.nx η2) ∧ Inv (k + 1) η2) {η : En} (h0 : Inv 0 η) : ∃ η', sGo t body (rngL 0 n) η = some (.nx η') ∧ Inv n η' := by
  have key : ∀ (m k : Nat) (η : En), k + m = n → Inv k η → ∃ η', sGo t body ((List.range' k m).map fun (k : Nat) => PyData.int (0 + (k : Nat))) η = some (.nx η') ∧ Inv n η' := by
    intro m
    induction m with
    | zero => intro k η e h; exact ⟨η, rfl, by rw [← e]; exact h⟩
    | succ m ih =>
      intro k η e h
      obtain ⟨η1, η2, h1, h2, h3⟩ := st k η (by omega) h
      obtain ⟨η', e1, e2⟩ := ih (k + 1) η2 (by omega) h3
      refine ⟨η', ?_, e2⟩
      rw [List.range'_succ, List.map_cons]
      unfold sGo
      rw [h1, Option.bind_some, h2, Option.bind_some]
      exact e1
  unfold rngL
  rw [List.range_eq_range']
  exact key n 0 η (by omega) h0
theorem sGo_all {ι : Type} {t : En → PyData → Option En} {body : En → Option Out} (D : ι → PyData) (Inv : List ι → En → Prop) (all : List ι)
    (st : ∀ done x rest η, all = done ++ x :: rest → Inv done η → ∃ η1 η2, t η (D x) = some η1 ∧ body η1 = some (.nx η2) ∧ Inv (done ++ [x]) η2) {η : En} (h0 : Inv [] η) : ∃ η', sGo t body (all.map D) η = some (.nx η') ∧ Inv all η' := by
  have key : ∀ (rest done : List ι) (η : En), all = done ++ rest → Inv done η → ∃ η', sGo t body (rest.map D) η = some (.nx η') ∧ Inv all η' := by
    intro rest
    induction rest with
    | nil => intro done η e h; exact ⟨η, rfl, by rw [e, List.append_nil]; exact h⟩
    | cons x r ih =>
      intro done η e h
      obtain ⟨η1, η2, h1, h2, h3⟩ := st done x r η e h
      obtain ⟨η', e1, e2⟩ := ih (done ++ [x]) η2 (by rw [e]; simp) h3
      refine ⟨η', ?_, e2⟩
      rw [List.map_cons]
      unfold sGo
      rw [h1, Option.bind_some, h2, Option.bind_some]
      exact e1
  exact key all [] η rfl h0
noncomputable def let8 : List Nat := [100, 98, 103, 97, 104, 99, 102, 101]
noncomputable def nmT (t : Nat) : Nat → Str
  | 0 => ""
  | j + 1 => if j < 8 then ⟨#[let8.getD ((j + t) % 8) 0]⟩ else ⟨(List.replicate (j + 1) 97).toArray⟩
theorem let8_inj : ∀ x : Fin 8, ∀ y : Fin 8, let8.getD x.val 0 = let8.getD y.val 0 → x = y := by decide
theorem nmT_lo {t j : Nat} (h : j < 8) : nmT t (j + 1) = ⟨#[let8.getD ((j + t) % 8) 0]⟩ := if_pos h
theorem nmT_hi {t j : Nat} (h : ¬ j < 8) : nmT t (j + 1) = ⟨(List.replicate (j + 1) 97).toArray⟩ := if_neg h
theorem empty_size : ("" : Str).cps.size = 0 := by decide
theorem nmT_inj (t : Nat) : ∀ a b, nmT t a = nmT t b → a = b := by
  have sz : ∀ a, (nmT t a).cps.size = if a = 0 then 0 else if a - 1 < 8 then 1 else a := fun a => by
    cases a with
    | zero => exact empty_size
    | succ j =>
      by_cases h : j < 8
      · rw [nmT_lo h]; simp [h]
      · rw [nmT_hi h]; simp [h]
  intro a b e
  have s1 := sz a
  have s2 := sz b
  rw [e, s2] at s1
  cases a with
  | zero =>
    cases b with
    | zero => rfl
    | succ k =>
      simp at s1
      split at s1 <;> omega
  | succ j =>
    cases b with
    | zero =>
      simp at s1
      split at s1 <;> omega
    | succ k =>
      by_cases hj : j < 8
      · by_cases hk : k < 8
        · rw [nmT_lo hj, nmT_lo hk] at e
          have e1 : (#[let8.getD ((j + t) % 8) 0] : Array Nat) = #[let8.getD ((k + t) % 8) 0] := by injection e
          have e2 : let8.getD ((j + t) % 8) 0 = let8.getD ((k + t) % 8) 0 := by simpa using e1
          have e3 := let8_inj ⟨(j + t) % 8, Nat.mod_lt _ (by decide)⟩ ⟨(k + t) % 8, Nat.mod_lt _ (by decide)⟩ e2
          have e4 : (j + t) % 8 = (k + t) % 8 := by injection e3
          omega
        · simp [hj, hk] at s1; omega
      · by_cases hk : k < 8
        · simp [hj, hk] at s1; omega
        · simp [hj, hk] at s1; omega
theorem let8_lt : ∀ x : Fin 8, let8.getD x.val 0 < 0x110000 := by decide
theorem nmT_ok (t : Nat) : ∀ a, PyData.strOk (nmT t a) = true := fun a => by
  cases a with
  | zero => exact (by decide +kernel : PyData.strOk ("" : Str) = true)
  | succ j =>
    by_cases h : j < 8
    · rw [nmT_lo h]
      have := let8_lt ⟨(j + t) % 8, Nat.mod_lt _ (by decide)⟩
      simp only [List.getD_eq_getElem?_getD] at this
      simp [PyData.strOk, this]
    · rw [nmT_hi h]
      unfold PyData.strOk
      rw [Array.all_eq_true]
      intro i hi
      simp
structure Dr where
  ps : List Nat
  nm : Nat → Str
  L : Nat → Int
  T : Nat → Int
  W : Nat → Int
  H : Nat → Int
  mr : Nat → Str
noncomputable def bd (l t w h : Int) : Prop := (-3 ≤ l ∧ l ≤ 5) ∧ (-3 ≤ t ∧ t ≤ 5) ∧ (0 ≤ w ∧ w ≤ 8) ∧ (0 ≤ h ∧ h ≤ 8)
noncomputable def mkS : List Bool → Str
  | [] => ""
  | b :: r => mkS r ++ (if b then (⟨#[[99, 102, 104, 108].getD r.length 0]⟩ : Str) else ("" : Str))
noncomputable def mkOk (m : Str) : Prop := ∃ bs : List Bool, bs.length = 4 ∧ m = mkS bs
structure Dr.Ok (c : Dr) : Prop where
  inj : ∀ a b, c.nm a = c.nm b → a = b
  top : c.nm 0 = ""
  ok : ∀ a, PyData.strOk (c.nm a) = true
  okm : ∀ a, PyData.strOk (c.mr a) = true
  len : c.ps.length ≤ 12
  par : ∀ i, c.ps.getD i 0 ≤ i
  bds : ∀ i, bd (c.L i) (c.T i) (c.W i) (c.H i)
  mks : ∀ i, mkOk (c.mr i)
noncomputable def Dr.box (c : Dr) (i : Nat) : PyData := .tuple [.str (c.nm (i + 1)), .str (c.nm (c.ps.getD i 0)), .int (c.L i), .int (c.T i), .int (c.W i), .int (c.H i), .str (c.mr i)]
noncomputable def Dr.d (c : Dr) : PyData := .tuple ((List.range c.ps.length).map c.box)
noncomputable def Dr.s (c : Dr) (q : Nat) : PyData := .str (c.nm q)
noncomputable def Dr.more (c : Dr) (p : Nat) (l t w h : Int) (m : Str) : Dr :=
  { ps := c.ps ++ [p], nm := c.nm, L := fun i => if i = c.ps.length then l else c.L i, T := fun i => if i = c.ps.length then t else c.T i, W := fun i => if i = c.ps.length then w else c.W i,
    H := fun i => if i = c.ps.length then h else c.H i, mr := fun i => if i = c.ps.length then m else c.mr i }
theorem Dr.more_d (c : Dr) (p : Nat) (l t w h : Int) (m : Str) : (c.more p l t w h m).d = .tuple ((List.range c.ps.length).map c.box ++ [.tuple [.str (c.nm (c.ps.length + 1)), .str (c.nm p), .int l, .int t, .int w, .int h, .str m]]) := by
  unfold Dr.d
  have e : (c.more p l t w h m).ps.length = c.ps.length + 1 := by unfold Dr.more; simp
  rw [e, List.range_succ, List.map_append]
  congr 2
  · refine List.map_congr_left fun i hi => ?_
    have hlt := List.mem_range.mp hi
    have hne : i ≠ c.ps.length := Nat.ne_of_lt hlt
    have hps : (c.ps ++ [p])[i]? = c.ps[i]? := List.getElem?_append_left hlt
    unfold Dr.box Dr.more
    simp only [hne, if_false, List.getD_eq_getElem?_getD, hps]
  · unfold Dr.box Dr.more
    simp
theorem Dr.more_ok {c : Dr} (h : c.Ok) (hl : c.ps.length < 12) {p : Nat} (hp : p ≤ c.ps.length) (l t w g : Int) {m : Str} (hm : PyData.strOk m = true) (hb : bd l t w g) (hk : mkOk m) : (c.more p l t w g m).Ok where
  inj := h.inj
  top := h.top
  ok := h.ok
  okm := fun i => by
    unfold Dr.more
    dsimp only
    split
    · exact hm
    · exact h.okm i
  len := by unfold Dr.more; simp; omega
  par := fun i => by
    unfold Dr.more
    dsimp only
    rw [List.getD_eq_getElem?_getD]
    by_cases hi : i < c.ps.length
    · rw [List.getElem?_append_left hi, ← List.getD_eq_getElem?_getD]
      exact h.par i
    · by_cases he : i = c.ps.length
      · subst he
        rw [List.getElem?_append_right (Nat.le_refl _)]
        simpa using hp
      · rw [List.getElem?_eq_none (by simp; omega)]
        exact Nat.zero_le _
  bds := fun i => by
    unfold Dr.more
    dsimp only
    by_cases e : i = c.ps.length
    · rw [if_pos e, if_pos e, if_pos e, if_pos e]; exact hb
    · rw [if_neg e, if_neg e, if_neg e, if_neg e]; exact h.bds i
  mks := fun i => by
    unfold Dr.more
    dsimp only
    split
    · exact hk
    · exact h.mks i
end K54
namespace K54
open PySem L2 L2.PU
noncomputable def sg4 : Nat → Str := fun j => ⟨#[[99, 102, 104, 108].getD j 0]⟩
theorem cfhl : enS [.str "cfhl"] = some ([0, 1, 2, 3].map fun (j : Nat) => PyData.tuple [.int (j : Nat), .str (sg4 j)]) := by
  have e : ("cfhl" : Str).cps.toList = [99, 102, 104, 108] := by decide +kernel
  unfold enS
  dsimp only
  unfold signD
  rw [e]
  rfl
theorem dbg : ("dbgahcfe" : Str).cps.toList = let8 := by decide +kernel
theorem dbg_len : ("dbgahcfe" : Str).length ≤ sizeLine := by decide +kernel
theorem strOk_app {a b : Str} (ha : PyData.strOk a = true) (hb : PyData.strOk b = true) : PyData.strOk (a ++ b) = true := by
  unfold PyData.strOk at ha hb ⊢
  show (a.cps ++ b.cps).all _ = true
  rw [Array.all_append, ha, hb]; rfl
theorem len_app (a b : Str) : (a ++ b).length = a.length + b.length := by
  show (a.cps ++ b.cps).size = _
  rw [Array.size_append]; rfl
theorem sg4_ok (j : Nat) (h : j ∈ [0, 1, 2, 3]) : PyData.strOk (sg4 j) = true := by
  simp at h
  rcases h with rfl | rfl | rfl | rfl <;> decide +kernel
theorem mkS_false (bs : List Bool) : mkS bs = mkS (false :: bs) := by
  show mkS bs = mkS bs ++ ("" : Str)
  apply str_ext
  show _ = ((mkS bs).cps ++ ("" : Str).cps).toList
  have : ("" : Str).cps = #[] := by decide +kernel
  rw [this]; simp
theorem sg4_len (j : Nat) : (sg4 j).length = 1 := rfl
section
variable {ns : List Int} (hn : ns.length ≤ 63)
include hn
theorem marks_ok {x1 x2 x3 x4 x6 x7 x8 : Sl} {hh : Int} (h0 : 0 ≤ hh) (s10 s11 s12 : Sl) : ∃ (m : Str) (u v : Sl), (PyData.strOk m = true ∧ mkOk m) ∧
    sFor (fun η => ((aC (eC (.str "cfhl")) aN) η).bind enS) (tgT (tgCons (tgN 10) (tgCons (tgN 11) tgNil)))
    (sIf (bT (l2 pEq (lA F__law_drawn (aC (eV 0) (aC (l2 pAdd (l2 pAdd (eV 5) (eC (.int 5))) (eV 10)) (aC (l2 pIx (oE (fun η => ((aC (eC (.int 4)) (aC (eC (.int 2)) (aC (eC (.int 9)) (aC (eC (.int 6)) aN)))) η).bind gL)) (eV 10)) aN)))) (eC (.int 0)))) (sSet 9 (l2 pAdd (eV 9) (eV 11))) sNx)
      [.val (Sd ns), x1, x2, x3, x4, .val (.int hh), x6, x7, x8, .val (.str ""), s10, s11, s12] = some (.nx [.val (Sd ns), x1, x2, x3, x4, .val (.int hh), x6, x7, x8, .val (.str m), u, v, s12]) := by
  have inv := sGo_all (t := tgT (tgCons (tgN 10) (tgCons (tgN 11) tgNil)))
    (body := (sIf (bT (l2 pEq (lA F__law_drawn (aC (eV 0) (aC (l2 pAdd (l2 pAdd (eV 5) (eC (.int 5))) (eV 10)) (aC (l2 pIx (oE (fun η => ((aC (eC (.int 4)) (aC (eC (.int 2)) (aC (eC (.int 9)) (aC (eC (.int 6)) aN)))) η).bind gL)) (eV 10)) aN)))) (eC (.int 0)))) (sSet 9 (l2 pAdd (eV 9) (eV 11))) sNx))
    (fun (j : Nat) => PyData.tuple [.int (j : Nat), .str (sg4 j)])
    (fun done η => ∃ (m : Str) (u v : Sl), (PyData.strOk m = true ∧ ∃ bs : List Bool, bs.length = done.length ∧ m = mkS bs) ∧ m.length ≤ done.length ∧ η = [.val (Sd ns), x1, x2, x3, x4, .val (.int hh), x6, x7, x8, .val (.str m), u, v, s12])
    [0, 1, 2, 3] ?_ (η := [.val (Sd ns), x1, x2, x3, x4, .val (.int hh), x6, x7, x8, .val (.str ""), s10, s11, s12]) ⟨"", s10, s11, ⟨by decide +kernel, [], rfl, rfl⟩, by decide +kernel, rfl⟩
  · obtain ⟨η', e1, m, u, v, hm, _, rfl⟩ := inv
    refine ⟨m, u, v, ⟨hm.1, hm.2⟩, for_of (ds := [0, 1, 2, 3].map fun (j : Nat) => PyData.tuple [.int (j : Nat), .str (sg4 j)]) cfhl e1⟩
  · rintro done j rest η hall ⟨m, u, v, hm, hml, rfl⟩
    have hj : j ∈ [0, 1, 2, 3] := by rw [hall]; simp
    have hdl : done.length ≤ 3 := by
      have := congrArg List.length hall
      simp at this
      omega
    have hjd : j = done.length := by
      match done, hall, hdl with
      | [], hall, _ => simp at hall; simp [hall.1]
      | [_], hall, _ => simp at hall; simp [hall.2.1]
      | [_, _], hall, _ => simp at hall; simp [hall.2.2.1]
      | [_, _, _], hall, _ => simp at hall; simp [hall.2.2.2.1]
    obtain ⟨hm, bs, hbs, hmm⟩ := hm
    have hmod : ∃ q : Int, 0 < q ∧ l2 pIx (oE (fun η => ((aC (eC (.int 4)) (aC (eC (.int 2)) (aC (eC (.int 9)) (aC (eC (.int 6)) aN)))) η).bind gL)) (eV 10) [.val (Sd ns), x1, x2, x3, x4, .val (.int hh), x6, x7, x8, .val (.str m), .val (.int (j : Nat)), .val (.str (sg4 j)), s12] = some (.int q) := by
      have eo : oE (fun η => ((aC (eC (.int 4)) (aC (eC (.int 2)) (aC (eC (.int 9)) (aC (eC (.int 6)) aN)))) η).bind gL) [.val (Sd ns), x1, x2, x3, x4, .val (.int hh), x6, x7, x8, .val (.str m), .val (.int (j : Nat)), .val (.str (sg4 j)), s12] = some (.list [.int 4, .int 2, .int 9, .int 6]) := by
        have : gL [.int 4, .int 2, .int 9, .int 6] = some [.int 4, .int 2, .int 9, .int 6] := if_pos (by show 4 ≤ sizeLine; decide)
        show Option.bind (gL [.int 4, .int 2, .int 9, .int 6]) _ = _
        rw [this]; rfl
      simp at hj
      rcases hj with rfl | rfl | rfl | rfl
      · exact ⟨4, by decide, l2_of eo rfl rfl⟩
      · exact ⟨2, by decide, l2_of eo rfl rfl⟩
      · exact ⟨9, by decide, l2_of eo rfl rfl⟩
      · exact ⟨6, by decide, l2_of eo rfl rfl⟩
    obtain ⟨q, hq, eq⟩ := hmod
    obtain ⟨r, hr, er⟩ := drawn_ok hn (k := hh + 5 + (j : Nat)) (m := q) (by omega) hq
    have eb : bT (l2 pEq (lA F__law_drawn (aC (eV 0) (aC (l2 pAdd (l2 pAdd (eV 5) (eC (.int 5))) (eV 10)) (aC (l2 pIx (oE (fun η => ((aC (eC (.int 4)) (aC (eC (.int 2)) (aC (eC (.int 9)) (aC (eC (.int 6)) aN)))) η).bind gL)) (eV 10)) aN)))) (eC (.int 0)))
        [.val (Sd ns), x1, x2, x3, x4, .val (.int hh), x6, x7, x8, .val (.str m), .val (.int (j : Nat)), .val (.str (sg4 j)), s12] = some ((r : Int) == 0) :=
      bT_of (l2_of (lA_of (aC_of rfl (aC_of (l2_of (l2_of rfl rfl rfl) rfl rfl) (aC_of eq rfl))) er) rfl (pEq_int _ _))
    refine ⟨[.val (Sd ns), x1, x2, x3, x4, .val (.int hh), x6, x7, x8, .val (.str m), .val (.int (j : Nat)), .val (.str (sg4 j)), s12], ?_⟩
    by_cases h0 : (r : Int) == 0
    · refine ⟨[.val (Sd ns), x1, x2, x3, x4, .val (.int hh), x6, x7, x8, .val (.str (m ++ sg4 j)), .val (.int (j : Nat)), .val (.str (sg4 j)), s12], rfl, ?_, m ++ sg4 j, _, _, ⟨strOk_app hm (sg4_ok j hj), true :: bs, by simp [hbs], by rw [hmm, hjd, ← hbs]; rfl⟩, ?_, rfl⟩
      · rw [if_of eb, if_pos h0]
        refine set_of (d := .str (m ++ sg4 j)) (l2_of rfl rfl ?_)
        show (if m.length + (sg4 j).length ≤ sizeLine then some (PyData.str (m ++ sg4 j)) else none) = _
        rw [if_pos (by rw [sg4_len]; exact big (by omega))]
      · rw [len_app, sg4_len, List.length_append]
        simpa using hml
    · refine ⟨[.val (Sd ns), x1, x2, x3, x4, .val (.int hh), x6, x7, x8, .val (.str m), .val (.int (j : Nat)), .val (.str (sg4 j)), s12], rfl, ?_, m, _, _, ⟨hm, false :: bs, by simp [hbs], by rw [hmm]; exact mkS_false bs⟩, ?_, rfl⟩
      · rw [if_of eb, if_neg h0]; rfl
      · rw [List.length_append]; simp; omega
end
end K54
namespace K54
open PySem L2 L2.PU
noncomputable def tup1 : List PyData → Option PyData := fun ds => if ds.length ≤ sizeLine then some (.tuple ds) else none
theorem tup1_ok {ds : List PyData} (h : ds.length ≤ 3000000) : (if ds.length ≤ sizeLine then some (PyData.tuple ds) else none) = some (.tuple ds) := if_pos (big h)
theorem gL_ok {ds : List PyData} (h : ds.length ≤ 3000000) : gL ds = some ds := if_pos (big h)
theorem addL {a b : List PyData} (h : a.length + b.length ≤ 3000000) : pAdd (.list a) (.list b) = some (.list (a ++ b)) := if_pos (big h)
theorem addT {a b : List PyData} (h : a.length + b.length ≤ 3000000) : pAdd (.tuple a) (.tuple b) = some (.tuple (a ++ b)) := if_pos (big h)
theorem oE_of {f : En → Option (List PyData)} {η : En} {ds : List PyData} (h : f η = some ds) : oE f η = some (.list ds) := by
  unfold oE
  rw [h]; rfl
theorem comp_eq {mp : List (Option Nat)} {fi : En → Option (List PyData)} {t : En → PyData → Option En} {p : En → Option Bool} {f : En → Option PyData} {η : En} {ds : List PyData} {r : Option (List PyData)} (h1 : fi η = some ds) (hz : ds.length ≤ 3000000) (h2 : cGo t p f (inEn mp η) ds = r) : sComp mp fi t p f η = r := by
  unfold sComp
  rw [h1, Option.bind_some, if_pos (big hz)]
  exact h2
noncomputable def sBody (fn__law_drawn : List PyData → Option PyData) : En → Option Out :=
  (sSeq (sSet 5 (l2 pAdd (l2 pAdd (eV 1) (eC (.int 3))) (l2 pMul (eC (.int 9)) (eV 4))))
    (sSeq (sSet 6 (l2 pIx (l2 pAdd (oE (fun η => ((aC (eC (.str "")) aN) η).bind gL)) (oE (sComp [none] (lI asTu (eV 2)) (tgN 0) tTrue (l2 pIx (eV 0) (eC (.int 0)))))) (lA fn__law_drawn (aC (eV 0) (aC (eV 5) (aC (l2 pAdd (eV 4) (eC (.int 1))) aN))))))
    (sSeq (sSetO 7 (sComp [none, some 0, some 5] (fun η => ((aC (eC (.int 2)) aN) η).bind rng1) (tgN 0) tTrue (l2 pSub (lA fn__law_drawn (aC (eV 1) (aC (l2 pAdd (l2 pAdd (eV 2) (eC (.int 1))) (eV 0)) (aC (eC (.int 9)) aN)))) (eC (.int 3)))))
    (fun η => (sSeq (sSetO 8 (sComp [none, some 0, some 5] (fun η => ((aC (eC (.int 2)) aN) η).bind rng1) (tgN 0) tTrue (lA fn__law_drawn (aC (eV 1) (aC (l2 pAdd (l2 pAdd (eV 2) (eC (.int 3))) (eV 0)) (aC (eC (.int 9)) aN))))))
    (fun η => (sSeq (sSet 9 (eC (.str "")))
    (sSeq (sFor (fun η => ((aC (eC (.str "cfhl")) aN) η).bind enS) (tgT (tgCons (tgN 10) (tgCons (tgN 11) tgNil)))
    (sIf (bT (l2 pEq (lA fn__law_drawn (aC (eV 0) (aC (l2 pAdd (l2 pAdd (eV 5) (eC (.int 5))) (eV 10)) (aC (l2 pIx (oE (fun η => ((aC (eC (.int 4)) (aC (eC (.int 2)) (aC (eC (.int 9)) (aC (eC (.int 6)) aN)))) η).bind gL)) (eV 10)) aN)))) (eC (.int 0)))) (sSet 9 (l2 pAdd (eV 9) (eV 11))) sNx))
    (sSeq (sSet 12 (l2 pIx (eC (.str "dbgahcfe")) (l2 pMod (l2 pAdd (eV 4) (eV 3)) (eC (.int 8)))))
    (sSet 2 (l2 pAdd (eV 2) (lA (fun ds => if ds.length ≤ sizeLine then some (.tuple ds) else none) (aC (l2 pAdd (l2 pAdd (lA (fun ds => if ds.length ≤ sizeLine then some (.tuple ds) else none) (aC (eV 12) (aC (eV 6) aN))) (lA pTup (aC (l2 pAdd (eV 7) (eV 8)) aN))) (lA (fun ds => if ds.length ≤ sizeLine then some (.tuple ds) else none) (aC (eV 9) aN))) aN))))))) (frz 8 η))) (frz 7 η)))))
section
variable {ns : List Int} (hn : ns.length ≤ 63)
include hn
theorem two_ok {f : En → Option PyData} {η : En} {mp : List (Option Nat)} (lo hi : Int) (h : ∀ k : Nat, k < 2 → ∃ y, (lo ≤ y ∧ y ≤ hi) ∧ f ((inEn mp η).set 0 (.val (.int (0 + (k : Nat))))) = some (.int y)) : ∃ a b : Int, ((lo ≤ a ∧ a ≤ hi) ∧ (lo ≤ b ∧ b ≤ hi)) ∧ sComp mp (fun η => ((aC (eC (.int 2)) aN) η).bind rng1) (tgN 0) tTrue f η = some [.int a, .int b] := by
  obtain ⟨a, ha, ea⟩ := h 0 (by decide)
  obtain ⟨b, hb, eb⟩ := h 1 (by decide)
  refine ⟨a, b, ⟨ha, hb⟩, comp_eq (ds := rngL 0 2) (rng1_ok (j := 2) (by decide) (by decide)) (by decide) ?_⟩
  have := cGo_map (t := tgN 0) (p := tTrue) (f := f) (η := inEn mp η) (fun (k : Nat) => PyData.int (0 + (k : Nat))) (fun _ => true) (fun k => .int (if k = 0 then a else b)) (List.range 2) fun k hk => by
    refine ⟨_, rfl, rfl, fun _ => ?_⟩
    have hk := List.mem_range.mp hk
    rcases (show k = 0 ∨ k = 1 by omega) with rfl | rfl
    · exact ea
    · exact eb
  exact this
theorem scene_ok : ∃ (c : Dr) (tn : Nat), c.Ok ∧ c.nm = nmT tn ∧ c.ps.length ≤ 7 ∧ F__law_scene [Sd ns, .int 0] = some c.d := by
  obtain ⟨tn, htn, et⟩ := drawn_ok hn (k := 0 + 1) (m := 8) (by decide) (by decide)
  obtain ⟨n, hnn, en⟩ := drawn_ok hn (k := 0) (m := 8) (by decide) (by decide)
  have main := sGo_rng (t := tgN 4) (body := sBody F__law_drawn) (fun k η => ∃ (c : Dr) (s4 s5 s6 s7 s8 s9 s10 s11 s12 : Sl), c.Ok ∧ c.nm = nmT tn ∧ c.ps.length = k ∧ η = [.val (Sd ns), .val (.int 0), .val c.d, .val (.int tn), s4, s5, s6, s7, s8, s9, s10, s11, s12]) n ?st
    (η := [.val (Sd ns), .val (.int 0), .val (.tuple []), .val (.int tn), .un, .un, .un, .un, .un, .un, .un, .un, .un]) ⟨⟨[], nmT tn, fun _ => 0, fun _ => 0, fun _ => 0, fun _ => 0, fun _ => ""⟩, .un, .un, .un, .un, .un, .un, .un, .un, .un,
      ⟨nmT_inj tn, rfl, nmT_ok tn, fun _ => nmT_ok 0 0, by simp, fun _ => by simp, fun _ => by show bd 0 0 0 0; unfold bd; decide, fun _ => ⟨[false, false, false, false], rfl, by show ("" : Str) = mkS [false, false, false, false]; decide +kernel⟩⟩, rfl, rfl, rfl⟩
  case st =>
    rintro k η hk ⟨c, s4, s5, s6, s7, s8, s9, s10, s11, s12, hc, hnm, hlen, rfl⟩
    have hk7 : k < 7 := by omega
    refine ⟨[.val (Sd ns), .val (.int 0), .val c.d, .val (.int tn), .val (.int (0 + (k : Nat))), s5, s6, s7, s8, s9, s10, s11, s12], ?_⟩
    have hh : l2 pAdd (l2 pAdd (eV 1) (eC (.int 3))) (l2 pMul (eC (.int 9)) (eV 4)) [.val (Sd ns), .val (.int 0), .val c.d, .val (.int tn), .val (.int (0 + (k : Nat))), s5, s6, s7, s8, s9, s10, s11, s12] = some (.int (0 + 3 + 9 * (0 + (k : Nat)))) :=
      l2_of (l2_of rfl rfl rfl) (l2_of rfl rfl (pMul_ok (mulL (by decide) (by decide)))) rfl
    generalize hhe : (0 + 3 + 9 * (0 + (k : Nat)) : Int) = hr at hh
    have hr0 : 0 ≤ hr := by omega
    obtain ⟨p, hp, ep⟩ := drawn_ok hn (k := hr) (m := 0 + (k : Nat) + 1) hr0 (by omega)
    have hp' : p ≤ k := by omega
    have ea : l2 pIx (l2 pAdd (oE (fun η => ((aC (eC (.str "")) aN) η).bind gL)) (oE (sComp [none] (lI asTu (eV 2)) (tgN 0) tTrue (l2 pIx (eV 0) (eC (.int 0)))))) (lA F__law_drawn (aC (eV 0) (aC (eV 5) (aC (l2 pAdd (eV 4) (eC (.int 1))) aN))))
        [.val (Sd ns), .val (.int 0), .val c.d, .val (.int tn), .val (.int (0 + (k : Nat))), .val (.int hr), s6, s7, s8, s9, s10, s11, s12] = some (c.s p) := by
      have e1 : oE (fun η => ((aC (eC (.str "")) aN) η).bind gL) [.val (Sd ns), .val (.int 0), .val c.d, .val (.int tn), .val (.int (0 + (k : Nat))), .val (.int hr), s6, s7, s8, s9, s10, s11, s12] = some (.list [c.s 0]) := by
        refine oE_of ?_
        show gL [.str ""] = _
        rw [gL_ok (by decide)]
        unfold Dr.s
        rw [hc.top]
      have e2 : oE (sComp [none] (lI asTu (eV 2)) (tgN 0) tTrue (l2 pIx (eV 0) (eC (.int 0)))) [.val (Sd ns), .val (.int 0), .val c.d, .val (.int tn), .val (.int (0 + (k : Nat))), .val (.int hr), s6, s7, s8, s9, s10, s11, s12] = some (.list ((List.range k).map fun i => c.s (i + 1))) := by
        refine oE_of (comp_eq (ds := (List.range c.ps.length).map c.box) rfl (by rw [List.length_map, List.length_range]; omega) ?_)
        rw [hlen]
        have := cGo_map (t := tgN 0) (p := tTrue) (f := l2 pIx (eV 0) (eC (.int 0))) (η := [.un]) c.box (fun _ => true) (fun i => c.s (i + 1)) (List.range k) fun i _ => ⟨_, rfl, rfl, fun _ => rfl⟩
        rw [show (List.range k).filter (fun _ => true) = List.range k by simp] at this
        exact this
      refine l2_of (l2_of e1 e2 (addL (by simp; omega))) (lA_of (aC_of rfl (aC_of rfl (aC_of (l2_of rfl rfl rfl) rfl))) ep) ?_
      show atI ([c.s 0] ++ (List.range k).map fun i => c.s (i + 1)) (p : Int) = _
      refine atI_nat ?_
      cases p with
      | zero => rfl
      | succ j =>
        show ((List.range k).map fun i => c.s (i + 1))[j]? = _
        rw [List.getElem?_map, List.getElem?_range (by omega)]
        rfl
    obtain ⟨pa, pb, hbp, epl⟩ := two_ok hn (-3) 5 (mp := [none, some 0, some 5]) (f := l2 pSub (lA F__law_drawn (aC (eV 1) (aC (l2 pAdd (l2 pAdd (eV 2) (eC (.int 1))) (eV 0)) (aC (eC (.int 9)) aN)))) (eC (.int 3)))
      (η := [.val (Sd ns), .val (.int 0), .val c.d, .val (.int tn), .val (.int (0 + (k : Nat))), .val (.int hr), .val (c.s p), s7, s8, s9, s10, s11, s12]) fun j hj => by
        obtain ⟨r, hr9, er⟩ := drawn_ok hn (k := hr + 1 + (0 + (j : Nat))) (m := 9) (by omega) (by decide)
        exact ⟨(r : Int) - 3, by omega, l2_of (lA_of (aC_of rfl (aC_of (l2_of (l2_of rfl rfl rfl) rfl rfl) (aC_of rfl rfl))) er) rfl rfl⟩
    obtain ⟨sa, sb, hbs, esz⟩ := two_ok hn 0 8 (mp := [none, some 0, some 5]) (f := lA F__law_drawn (aC (eV 1) (aC (l2 pAdd (l2 pAdd (eV 2) (eC (.int 3))) (eV 0)) (aC (eC (.int 9)) aN))))
      (η := [.val (Sd ns), .val (.int 0), .val c.d, .val (.int tn), .val (.int (0 + (k : Nat))), .val (.int hr), .val (c.s p), .val (.list [.int pa, .int pb]), s8, s9, s10, s11, s12]) fun j hj => by
        obtain ⟨r, hr9, er⟩ := drawn_ok hn (k := hr + 3 + (0 + (j : Nat))) (m := 9) (by omega) (by decide)
        exact ⟨(r : Int), by omega, lA_of (aC_of rfl (aC_of (l2_of (l2_of rfl rfl rfl) rfl rfl) (aC_of rfl rfl))) er⟩
    obtain ⟨m, u, v, hm, em⟩ := marks_ok hn (x1 := .val (.int 0)) (x2 := .val c.d) (x3 := .val (.int tn)) (x4 := .val (.int (0 + (k : Nat)))) (x6 := .val (c.s p)) (x7 := .val (.list [.int pa, .int pb])) (x8 := .val (.list [.int sa, .int sb])) hr0 s10 s11 s12
    have enm : l2 pIx (eC (.str "dbgahcfe")) (l2 pMod (l2 pAdd (eV 4) (eV 3)) (eC (.int 8))) [.val (Sd ns), .val (.int 0), .val c.d, .val (.int tn), .val (.int (0 + (k : Nat))), .val (.int hr), .val (c.s p), .val (.list [.int pa, .int pb]), .val (.list [.int sa, .int sb]), .val (.str m), u, v, s12] = some (c.s (k + 1)) := by
      refine l2_of rfl (l2_of (l2_of rfl rfl rfl) rfl (pMod_ok (by decide))) ?_
      show (if ("dbgahcfe" : Str).length ≤ sizeLine then (atI ("dbgahcfe" : Str).cps.toList ((0 + (k : Nat) + (tn : Int)) % 8)).bind _ else none) = _
      rw [if_pos dbg_len, dbg]
      have e8 : ((0 + (k : Nat) + (tn : Int)) % 8 : Int) = (((k + tn) % 8 : Nat) : Int) := by omega
      have hlt : (k + tn) % 8 < 8 := Nat.mod_lt _ (by decide)
      rw [e8, atI_nat (v := let8.getD ((k + tn) % 8) 0) (by rw [List.getD_eq_getElem?_getD, List.getElem?_eq_getElem (show (k + tn) % 8 < let8.length from hlt)]; rfl)]
      unfold Dr.s
      rw [hnm, nmT_lo (by omega)]
      rfl
    have hcd : c.d = .tuple ((List.range c.ps.length).map c.box) := rfl
    have efin : l2 pAdd (eV 2) (lA (fun ds => if ds.length ≤ sizeLine then some (.tuple ds) else none) (aC (l2 pAdd (l2 pAdd (lA (fun ds => if ds.length ≤ sizeLine then some (.tuple ds) else none) (aC (eV 12) (aC (eV 6) aN))) (lA pTup (aC (l2 pAdd (eV 7) (eV 8)) aN))) (lA (fun ds => if ds.length ≤ sizeLine then some (.tuple ds) else none) (aC (eV 9) aN))) aN))
        [.val (Sd ns), .val (.int 0), .val c.d, .val (.int tn), .val (.int (0 + (k : Nat))), .val (.int hr), .val (c.s p), .val (.list [.int pa, .int pb]), .val (.list [.int sa, .int sb]), .val (.str m), u, v, .val (c.s (k + 1))] = some (c.more p pa pb sa sb m).d := by
      rw [Dr.more_d]
      refine l2_of (x := c.d) rfl (lA_of (aC_of (l2_of (l2_of (lA_of (aC_of rfl (aC_of rfl rfl)) (tup1_ok (by simp))) (lA_of (aC_of (l2_of rfl rfl (addL (by simp))) rfl) rfl) (addT (by simp))) (lA_of (aC_of rfl rfl) (tup1_ok (by simp))) (addT (by simp))) rfl) (tup1_ok (by simp))) ?_
      rw [hcd]
      refine (addT (by simp; omega)).trans ?_
      rw [hlen]
      rfl
    refine ⟨[.val (Sd ns), .val (.int 0), .val (c.more p pa pb sa sb m).d, .val (.int tn), .val (.int (0 + (k : Nat))), .val (.int hr), .val (c.s p), .val (.list [.int pa, .int pb]), .val (.list [.int sa, .int sb]), .val (.str m), u, v, .val (c.s (k + 1))], rfl, ?_,
      c.more p pa pb sa sb m, _, _, _, _, _, _, _, _, _, Dr.more_ok hc (by omega) (by omega) pa pb sa sb hm.1 ⟨hbp.1, hbp.2, hbs.1, hbs.2⟩ hm.2, hnm, by simp [Dr.more, hlen], rfl⟩
    refine seq_of (set_of hh) (seq_of (set_of ea) (seq_of (setO_of epl) ?_))
    refine seq_of (setO_of esz) ?_
    refine seq_of (set_of rfl) (seq_of em (seq_of (set_of enm) (set_of efin)))
  obtain ⟨η', e1, c, s4, s5, s6, s7, s8, s9, s10, s11, s12, hc, hnm, hlen, rfl⟩ := main
  refine ⟨c, tn, hc, hnm, by omega, ?_⟩
  unfold F__law_scene runF
  rw [if_pos (by rfl)]
  show Option.bind (g__law_scene F__law_drawn [.val (Sd ns), .val (.int 0), .un, .un, .un, .un, .un, .un, .un, .un, .un, .un, .un]) _ = _
  have e2 : g__law_scene F__law_drawn [.val (Sd ns), .val (.int 0), .un, .un, .un, .un, .un, .un, .un, .un, .un, .un, .un] = some (.rt c.d) := by
    refine seq_of (set_of (lA_of rfl (tup1_ok (by decide)))) (seq_of (set_of (lA_of (aC_of rfl (aC_of (l2_of rfl rfl rfl) (aC_of rfl rfl))) et)) (seq_of (for_of ?_ e1) rfl))
    show Option.bind (aC (lA F__law_drawn _) aN _) rng1 = _
    rw [aC_of (lA_of (aC_of rfl (aC_of rfl (aC_of rfl rfl))) en) rfl]
    rw [Option.bind_some, rng1_ok (by omega) (by omega), Int.toNat_natCast]
  rw [e2]; rfl
end
end K54
namespace K54
open PySem L2 L2.PU
theorem shaped_strs {ss : List Str} (h : ∀ s ∈ ss, PyData.strOk s = true) : SeqAt.shaped (.list (ss.map PyData.str)) = true := by
  have h1 : PyData.canLayAll0 (ss.map PyData.str) = true := by
    induction ss with
    | nil => rfl
    | cons x r ih => simp [PyData.canLayAll0, PyData.canLay0, h x List.mem_cons_self, ih fun s hs => h s (List.mem_cons_of_mem _ hs)]
  have h2 : PyData.depthAll (ss.map PyData.str) = 0 := by
    clear h h1
    induction ss with
    | nil => rfl
    | cons x r ih => simp [PyData.depthAll, PyData.depth, ih]
  simp [SeqAt.shaped, PyData.canLay0, PyData.depth, h1, h2]
theorem ifF {c : En → Option Bool} {f g : En → Option Out} {η : En} (h : c η = some false) : sIf c f g η = g η := by
  rw [if_of h]; rfl
theorem vIf_of {c : En → Option Bool} {f g : En → Option PyData} {η : En} {b : Bool} (h : c η = some b) : vIf c f g η = if b = true then f η else g η := by
  unfold vIf
  rw [h]; rfl
theorem eSl_of {f : En → Option PyData} {fl fh : En → Option (Option Int)} {η : En} {x d : PyData} {l h : Option Int} (h1 : f η = some x) (h2 : fl η = some l) (h3 : fh η = some h) (h4 : pSl x l h = some d) : eSl f fl fh η = some d := by
  unfold eSl
  rw [h1, Option.bind_some, h2, Option.bind_some, h3]; exact h4
theorem pS_of {f : En → Option PyData} {η : En} {i : Int} (h : f η = some (.int i)) : pS f η = some (some i) := by
  unfold pS
  rw [h]; rfl
theorem lI_of {k : PyData → Option (List PyData)} {f : En → Option PyData} {η : En} {d : PyData} {ds : List PyData} (h : f η = some d) (h2 : k d = some ds) : lI k f η = some ds := by
  unfold lI
  rw [h]; exact h2
section
variable {c : Sc} (h : c.Ok)
theorem flat_all (l : List Nat) : (l.map c.s).all flatD = true := by
  rw [List.all_map, List.all_eq_true]
  intro x _
  rfl
include h
theorem eqv_s (a b : Nat) : PyData.eqv (c.s a) (c.s b) = decide (a = b) := by
  unfold Sc.s PyData.eqv
  rw [str_dec, h.dec]
theorem any_s (x : Nat) (l : List Nat) : ((l.map c.s).any fun y => PyData.eqv y (c.s x)) = decide (x ∈ l) := by
  induction l with
  | nil => simp
  | cons y r ih =>
    rw [List.map_cons, List.any_cons, ih, eqv_s h]
    by_cases e : y = x
    · subst e; simp
    · have : ¬ x = y := fun z => e z.symm
      simp [e, this]
theorem pIn_s (neg : Bool) (x : Nat) (l : List Nat) : pIn neg (c.s x) (c.S l) = some (.bool (if neg then !decide (x ∈ l) else decide (x ∈ l))) := by
  unfold pIn Sc.S
  dsimp only
  rw [if_pos ⟨rfl, flat_all l⟩, any_s h]
end
end K54
namespace K54
open PySem L2 L2.PU
noncomputable def Sc.on (c : Sc) (st : List (Nat × Nat)) : Sc := { c with st := st }
noncomputable def updI (f : Nat → Int) (q : Nat) (v : Int) : Nat → Int := fun x => if x = q then v else f x
noncomputable def Sc.put (c : Sc) (q : Nat) (l t : Int) : Sc := { c with L := updI c.L q l, T := updI c.T q t }
noncomputable def Sc.mark (c : Sc) (q : Nat) (m : Str) : Sc := { c with mr := fun x => if x = q then m else c.mr x }
section
variable {c : Sc} (h : c.Ok)
include h
theorem pick_eq (neg : Bool) (g : List Nat) (η : En) (h0 : eV 0 η = some c.d) (h2 : eV 2 η = some (c.S g)) (hi : inEn [none, some 2] η = [.un, .val (c.S g)]) :
    lA pTup (aC (oE (sComp [none, some 2] (lI asTu (eV 0)) (tgN 0) (bT (l2 (pIn neg) (l2 pIx (eV 0) (eC (.int 0))) (eV 1))) (eV 0))) aN) η = some (.tuple ((c.st.filter fun x => if neg then !decide (x.1 ∈ g) else decide (x.1 ∈ g)).map c.box)) := by
  have e : sComp [none, some 2] (lI asTu (eV 0)) (tgN 0) (bT (l2 (pIn neg) (l2 pIx (eV 0) (eC (.int 0))) (eV 1))) (eV 0) η = some ((c.st.filter fun x => if neg then !decide (x.1 ∈ g) else decide (x.1 ∈ g)).map c.box) := by
    show Option.bind (Option.bind (eV 0 η) asTu) _ = _
    rw [h0]
    show (if (c.st.map c.box).length ≤ sizeLine then cGo _ _ _ (inEn [none, some 2] η) _ else none) = _
    rw [if_pos (size_d h), hi]
    refine cGo_map c.box (fun x => if neg then !decide (x.1 ∈ g) else decide (x.1 ∈ g)) c.box _ fun x _ => ⟨_, rfl, ?_, fun _ => rfl⟩
    show (pIn neg (c.s x.1) (c.S g)).bind asB = _
    rw [pIn_s h]; rfl
  show Option.bind (Option.bind (Option.bind (sComp _ _ _ _ _ η) _) _) _ = _
  rw [e]; rfl
theorem F_cut_eq {q : Nat} {st : List (Nat × Nat)} (e : cutN c.st q = some st) : F_cut [c.d, c.s q] = some (c.on st).d := by
  obtain ⟨g, hg, e⟩ := bind_some e
  cases e
  unfold F_cut runF
  rw [if_pos (by rfl)]
  show (g_cut (F_below 13) [.val c.d, .val (c.s q), .un]).bind _ = _
  have e1 : sSet 2 (lA (F_below 13) (aC (eV 0) (aC (eV 1) aN))) [.val c.d, .val (c.s q), .un] = some (.nx [.val c.d, .val (c.s q), .val (c.S g)]) := by
    show ((F_below 13 [c.d, c.s q])).bind _ = _
    rw [F_below_eq h 13 q g hg]; rfl
  unfold g_cut sSeq
  rw [e1, Option.bind_some]
  have e2 := pick_eq h true g [.val c.d, .val (c.s q), .val (c.S g)] rfl rfl rfl
  show Option.bind (Option.bind (lA _ _ _) _) _ = _
  rw [e2]; rfl
theorem F_raised_eq {q : Nat} {st : List (Nat × Nat)} (e : raiN c.st q = some st) : F_raised [c.d, c.s q] = some (c.on st).d := by
  obtain ⟨g, hg, e⟩ := bind_some e
  cases e
  unfold F_raised runF
  rw [if_pos (by rfl)]
  show (g_raised (F_below 13) F_cut [.val c.d, .val (c.s q), .un]).bind _ = _
  have e1 : sSet 2 (lA (F_below 13) (aC (eV 0) (aC (eV 1) aN))) [.val c.d, .val (c.s q), .un] = some (.nx [.val c.d, .val (c.s q), .val (c.S g)]) := by
    show ((F_below 13 [c.d, c.s q])).bind _ = _
    rw [F_below_eq h 13 q g hg]; rfl
  unfold g_raised sSeq
  rw [e1, Option.bind_some]
  have e2 := pick_eq h false g [.val c.d, .val (c.s q), .val (c.S g)] rfl rfl rfl
  have e3 : F_cut [c.d, c.s q] = some (c.on (c.st.filter fun x => !decide (x.1 ∈ g))).d := F_cut_eq h (by unfold cutN; rw [hg]; rfl)
  show Option.bind (Option.bind (Option.bind (F_cut [c.d, c.s q]) _) _) _ = _
  rw [e3, Option.bind_some, e2]
  show Option.bind (Option.bind (pAdd (.tuple (List.map c.box (c.st.filter fun x => !decide (x.1 ∈ g)))) (.tuple (List.map c.box (c.st.filter fun x => decide (x.1 ∈ g))))) _) _ = _
  have l1 := List.length_filter_le (fun x : Nat × Nat => !decide (x.1 ∈ g)) c.st
  have l2 := List.length_filter_le (fun x : Nat × Nat => decide (x.1 ∈ g)) c.st
  have l3 := h.len
  unfold pAdd
  dsimp only
  rw [if_pos (by rw [List.length_map, List.length_map]; exact big (by omega)), ← List.map_append]
  rfl
theorem F_other_eq {c' : Sc} {q p : Nat} (hs : c'.st = c.st) (hn : c'.nm = c.nm) (hu : ∀ x ∈ c.st, x.1 = q → x.2 = p) (hb : ∀ x ∈ c.st, x.1 ≠ q → c'.box x = c.box x) : F_with_other [c.d, c'.box (q, p)] = some c'.d := by
  unfold F_with_other runF
  rw [if_pos (by rfl)]
  show (g_with_other [.val c.d, .val (c'.box (q, p))]).bind _ = _
  have e : sComp [none, some 1] (lI asTu (eV 0)) (tgN 0) tTrue (vIf (bT (l2 pEq (l2 pIx (eV 0) (eC (.int 0))) (l2 pIx (eV 1) (eC (.int 0))))) (eV 1) (eV 0)) [.val c.d, .val (c'.box (q, p))] = some (c.st.map c'.box) := by
    show (if (c.st.map c.box).length ≤ sizeLine then cGo _ _ _ _ _ else none) = _
    rw [if_pos (size_d h)]
    have := cGo_map (t := tgN 0) (p := tTrue) (f := vIf (bT (l2 pEq (l2 pIx (eV 0) (eC (.int 0))) (l2 pIx (eV 1) (eC (.int 0))))) (eV 1) (eV 0)) (η := [.un, .val (c'.box (q, p))]) c.box (fun _ => true) c'.box c.st fun x hx => ⟨_, rfl, rfl, fun _ => ?_⟩
    · rw [show c.st.filter (fun _ => true) = c.st by simp] at this
      exact this
    · have eb : bT (l2 pEq (l2 pIx (eV 0) (eC (.int 0))) (l2 pIx (eV 1) (eC (.int 0)))) [.val (c.box x), .val (c'.box (q, p))] = some (decide (x.1 = q)) := by
        show (pEq (c.s x.1) (.str (c'.nm q))).bind asB = _
        rw [hn]
        show (pEq (c.s x.1) (c.s q)).bind asB = _
        rw [h.eqs]; rfl
      show vIf _ _ _ [.val (c.box x), .val (c'.box (q, p))] = _
      rw [vIf_of eb]
      by_cases e : x.1 = q
      · rw [if_pos (by simpa using e)]
        have : x = (q, p) := by
          have := hu x hx e
          cases x; simp at e this; simp [e, this]
        rw [this]; rfl
      · rw [if_neg (by simpa using e), hb x hx e]; rfl
  unfold g_with_other sRet
  show Option.bind (Option.bind (Option.bind (Option.bind (Option.bind (sComp _ _ _ _ _ _) _) _) _) _) _ = _
  rw [e]
  show some (PyData.tuple _) = some (Sc.d c')
  unfold Sc.d
  rw [hs]
theorem F_mark_eq {q p : Nat} {m : Str} (hp : parN c.st q = some p) (hu : ∀ x ∈ c.st, x.1 = q → x.2 = p) : F_marked [c.d, c.s q, .str m] = some (c.mark q m).d := by
  have e1 := F_box_eq h hp
  have e2 : F_with_other [c.d, (c.mark q m).box (q, p)] = some (c.mark q m).d := F_other_eq h rfl rfl hu fun x _ hx => by
    unfold Sc.box Sc.mark
    dsimp only
    rw [if_neg hx]
  unfold F_marked runF
  rw [if_pos (by rfl)]
  show (g_marked F_box_of F_with_other [.val c.d, .val (c.s q), .val (.str m), .un]).bind _ = _
  unfold g_marked sSeq
  show Option.bind (Option.bind (Option.bind (F_box_of [c.d, c.s q]) _) _) _ = _
  rw [e1]
  have e3 : (c.mark q m).box (q, p) = .tuple [.str (c.nm q), .str (c.nm p), .int (c.L q), .int (c.T q), .int (c.W q), .int (c.H q), .str m] := by
    unfold Sc.box Sc.mark
    dsimp only
    rw [if_pos rfl]
  rw [e3] at e2
  show Option.bind (Option.bind (F_with_other [c.d, .tuple [.str (c.nm q), .str (c.nm p), .int (c.L q), .int (c.T q), .int (c.W q), .int (c.H q), .str m]]) _) _ = _
  rw [e2]; rfl
end
end K54
namespace K54
open PySem L2 L2.PU
theorem bind_of {α β : Type} {o : Option α} {k : α → Option β} {x : α} {r : Option β} (h : o = some x) (h2 : k x = r) : o.bind k = r := by
  rw [h]; exact h2
theorem l1_of {o : PyData → Option PyData} {f : En → Option PyData} {η : En} {x d : PyData} (h1 : f η = some x) (h2 : o x = some d) : l1 o f η = some d := by
  unfold l1
  rw [h1]; exact h2
theorem pNe_self {d : PyData} (h : SeqAt.shaped d = true) : pNe d d = some (.bool false) := by
  unfold pNe
  rw [if_pos ⟨h, h⟩, SeqAt.eqv_refl d (SeqAt.canLay_of_shaped h)]; rfl
theorem ifN {c : En → Option Bool} {f : En → Option Out} {η : En} (h : c η = some false) : sIf c f sNx η = some (.nx η) := by
  rw [ifF h]; rfl
theorem bNot_of {f : En → Option Bool} {η : En} {b : Bool} (h : f η = some b) : bNot f η = some (!b) := by
  unfold bNot
  rw [h]; rfl
theorem bAnd_of {f g : En → Option Bool} {η : En} {a b : Bool} (h1 : f η = some a) (h2 : g η = some b) : bAnd f g η = some (a && b) := by
  unfold bAnd
  rw [h1]
  cases a with
  | false => rfl
  | true => exact h2
theorem run_of {n m : Nat} {g : En → Option Out} {ds : List PyData} {d : PyData} (hl : ds.length = n) (h : g (ds.map Sl.val ++ List.replicate (m - n) .un) = some (.rt d)) : runF n m g ds = some d := by
  unfold runF
  rw [if_pos hl, h]; rfl
theorem ret_of {f : En → Option PyData} {η : En} {d : PyData} (h : f η = some d) : sRet f η = some (.rt d) := by
  unfold sRet
  rw [h]; rfl
theorem cGo_mapT {ι : Type} {t : En → PyData → Option En} {f : En → Option PyData} {η : En} (D : ι → PyData) (Y : ι → PyData) (xs : List ι) (h : ∀ x ∈ xs, ∃ η1, t η (D x) = some η1 ∧ f η1 = some (Y x)) : cGo t tTrue f η (xs.map D) = some (xs.map Y) := by
  have := cGo_map (t := t) (p := tTrue) (f := f) (η := η) D (fun _ => true) Y xs fun x hx => by
    obtain ⟨η1, h1, h2⟩ := h x hx
    exact ⟨η1, h1, rfl, fun _ => h2⟩
  rw [show xs.filter (fun _ => true) = xs by simp] at this
  exact this
theorem pAny_of (bs : List Bool) : pAny [.list (bs.map PyData.bool)] = some (.bool (bs.any id)) := by
  unfold pAny pBools
  dsimp only
  rw [asBs_bools]; rfl
structure Tr (c : Sc) (ps : List Nat) : Prop where
  ok : c.Ok
  st : c.st = stF ps
  ps : PsOk ps
theorem ix0 (d : PyData) (l : List PyData) : pIx (.list (d :: l)) (.int 0) = some d := by
  show atI (d :: l) ((0 : Nat) : Int) = _
  exact atI_nat rfl
section
variable {c : Sc} {ps : List Nat} (t : Tr c ps)
include t
theorem T_box {q : Nat} (hq : In ps q) : F_box_of [c.d, c.s q] = some (c.box (q, par ps q)) := F_box_eq t.ok (by rw [t.st]; exact parN_st hq.1 hq.2)
end
end K54
namespace K54
open PySem L2 L2.PU
section
variable {ps : List Nat} (ok : PsOk ps)
include ok
theorem blF_st : ∀ n m q, 1 ≤ q → ps.length < n + q → ps.length < m + q → q ≤ ps.length → blF (stF ps) n q = blF (stF ps) m q
  | 0, m, q, _, h, _, h2 => by omega
  | n + 1, 0, q, _, _, h, h2 => by omega
  | n + 1, m + 1, q, h1, h2, h3, h4 => by
    show q :: (chN (stF ps) q).flatMap (blF (stF ps) n) = q :: (chN (stF ps) q).flatMap (blF (stF ps) m)
    rw [flat_congr fun x hx => ?_]
    have := ch_mem ok hx
    exact blF_st n m x this.1 (by omega) (by omega) this.2.1
theorem P_le : ∀ r x, x ∈ P ps r → x ≤ r := by
  intro r
  induction r using Nat.strongRecOn with
  | _ r ih =>
    intro x hx
    by_cases hr : 1 ≤ r
    · rw [P_succ ok hr] at hx
      have := par_lt ok hr
      rcases List.mem_append.mp hx with z | z
      · have := ih _ this x z; omega
      · rw [List.mem_singleton] at z; omega
    · have : r = 0 := by omega
      subst this
      rw [P_zero] at hx; cases hx
theorem P_self {q : Nat} (h : 1 ≤ q) : q ∈ P ps q := by rw [P_succ ok h]; simp
theorem P_one : ∀ r x, x ∈ P ps r → 1 ≤ x := by
  intro r
  induction r using Nat.strongRecOn with
  | _ r ih =>
    intro x hx
    by_cases hr : 1 ≤ r
    · rw [P_succ ok hr] at hx
      rcases List.mem_append.mp hx with z | z
      · exact ih _ (par_lt ok hr) x z
      · rw [List.mem_singleton] at z; omega
    · have : r = 0 := by omega
      subst this
      rw [P_zero] at hx; cases hx
theorem P_next : ∀ q, 1 ≤ q → ∀ a, (a = 0 ∨ a ∈ P ps q) → a ≠ q → ∃ x ∈ P ps q, par ps x = a := by
  intro q
  induction q using Nat.strongRecOn with
  | _ q ih =>
    intro hq a ha hne
    by_cases hp : a = par ps q
    · exact ⟨q, P_self ok hq, hp.symm⟩
    · have ha' : a = 0 ∨ a ∈ P ps (par ps q) := by
        rcases ha with z | z
        · exact .inl z
        · rw [P_succ ok hq] at z
          rcases List.mem_append.mp z with z | z
          · exact .inr z
          · rw [List.mem_singleton] at z; exact absurd z hne
      by_cases h0 : 1 ≤ par ps q
      · obtain ⟨x, hx, e⟩ := ih _ (par_lt ok hq) h0 a ha' hp
        exact ⟨x, by rw [P_succ ok hq]; exact List.mem_append_left _ hx, e⟩
      · have z : par ps q = 0 := by omega
        rw [z, P_zero] at ha'
        rcases ha' with y | y
        · exact absurd (y.trans z.symm) hp
        · cases y
theorem P_par : ∀ q x, x ∈ P ps q → par ps x = 0 ∨ par ps x ∈ P ps q := by
  intro q
  induction q using Nat.strongRecOn with
  | _ q ih =>
    intro x hx
    by_cases hq : 1 ≤ q
    · rw [P_succ ok hq] at hx
      rcases List.mem_append.mp hx with z | z
      · rcases ih _ (par_lt ok hq) x z with y | y
        · exact .inl y
        · exact .inr (by rw [P_succ ok hq]; exact List.mem_append_left _ y)
      · rw [List.mem_singleton] at z
        subst z
        by_cases h0 : 1 ≤ par ps x
        · exact .inr (by rw [P_succ ok hq]; exact List.mem_append_left _ (P_self ok h0))
        · exact .inl (by omega)
    · have : q = 0 := by omega
      subst this
      rw [P_zero] at hx; cases hx
theorem P_uniq : ∀ q x y, x ∈ P ps q → y ∈ P ps q → par ps x = par ps y → x = y := by
  intro q
  induction q using Nat.strongRecOn with
  | _ q ih =>
    intro x y hx hy e
    by_cases hq : 1 ≤ q
    · have hlt := par_lt ok hq
      have hx1 := P_one ok _ _ hx
      have hy1 := P_one ok _ _ hy
      have px := par_lt ok hx1
      have py := par_lt ok hy1
      rw [P_succ ok hq] at hx hy
      rcases List.mem_append.mp hx with zx | zx <;> rcases List.mem_append.mp hy with zy | zy
      · exact ih _ hlt x y zx zy e
      · rw [List.mem_singleton] at zy
        have := P_le ok _ _ zx
        rw [zy] at e; omega
      · rw [List.mem_singleton] at zx
        have := P_le ok _ _ zy
        rw [zx] at e; omega
      · rw [List.mem_singleton] at zx zy; rw [zx, zy]
    · have : q = 0 := by omega
      subst this
      rw [P_zero] at hx; cases hx
omit ok in
theorem ch_nodup (a : Nat) : (chN (stF ps) a).Nodup := by
  have h : ((stF ps).map (·.1)).Nodup := by
    unfold stF
    rw [List.map_map]
    exact List.Pairwise.map _ (fun i j hij => by show i + 1 ≠ j + 1; omega) (List.nodup_range (n := ps.length))
  exact h.sublist ((List.filter_sublist).map _)
omit ok in
theorem flat_one {α β : Type} {p : α → Prop} [DecidablePred p] {B : List β} {x : α} : ∀ {l : List α}, l.Nodup → x ∈ l → p x → (∀ y ∈ l, p y → y = x) → l.flatMap (fun y => if p y then B else []) = B
  | [], _, h, _, _ => by cases h
  | y :: l, nd, h, hp, hu => by
    rw [List.flatMap_cons]
    have nd' := List.nodup_cons.mp nd
    by_cases hy : y = x
    · subst hy
      rw [if_pos hp, flat_nil (f := fun y => if p y then B else []) fun z hz => ?_, List.append_nil]
      rw [if_neg fun hz' => ?_]
      have := hu z (List.mem_cons_of_mem _ hz) hz'
      subst this
      exact nd'.1 hz
    · rw [if_neg fun hz => hy (hu y List.mem_cons_self hz), List.nil_append]
      refine flat_one nd'.2 ?_ hp fun z hz => hu z (List.mem_cons_of_mem _ hz)
      rcases List.mem_cons.mp h with z | z
      · exact absurd z.symm hy
      · exact z
theorem bl_all {q : Nat} : ∀ n a, 1 ≤ a → a ≤ ps.length → q ∈ P ps a → ∀ x ∈ blF (stF ps) n a, q ∈ P ps x
  | 0, _, _, _, _, x, hx => by cases hx
  | n + 1, a, h1, h2, hq, x, hx => by
    rcases List.mem_cons.mp hx with z | z
    · rw [z]; exact hq
    · obtain ⟨y, hy, hx⟩ := List.mem_flatMap.mp z
      have m := ch_mem ok hy
      exact bl_all n y m.1 m.2.1 (by rw [P_succ ok m.1, m.2.2.1]; exact List.mem_append_left _ hq) x hx
theorem kids_filter {q : Nat} (hq : In ps q) : ∀ n a, q ∉ P ps a → ps.length ≤ n + a → a ≤ ps.length →
    (kids (stF ps) n a).filter (fun x => decide (q ∈ P ps x)) = if a = 0 ∨ a ∈ P ps q then blF (stF ps) 13 q else [] := by
  intro n
  induction n with
  | zero =>
    intro a hn hl ha
    have e : a = ps.length := by omega
    have hk : kids (stF ps) 0 a = [] := by unfold kids; exact flat_nil fun x _ => rfl
    rw [hk, List.filter_nil, if_neg]
    rintro (z | z)
    · have := hq.1; have := hq.2; omega
    · have := P_le ok _ _ z
      have e2 : a = q := by have := hq.2; omega
      exact hn (by rw [e2]; exact P_self ok hq.1)
  | succ n ih =>
    intro a hn hl ha
    have one : ∀ x ∈ chN (stF ps) a, (blF (stF ps) (n + 1) x).filter (fun x => decide (q ∈ P ps x)) = if x ∈ P ps q then blF (stF ps) 13 q else [] := fun x hx => by
      have m := ch_mem ok hx
      by_cases hxq : x = q
      · subst hxq
        rw [if_pos (P_self ok m.1), List.filter_eq_self.mpr fun y hy => decide_eq_true (bl_all ok _ _ m.1 m.2.1 (P_self ok m.1) y hy)]
        have := ok.len
        exact blF_st ok _ _ _ m.1 (by omega) (by omega) m.2.1
      · have hnx : q ∉ P ps x := by
          rw [P_succ ok m.1, m.2.2.1]
          intro z
          rcases List.mem_append.mp z with z | z
          · exact hn z
          · rw [List.mem_singleton] at z; exact hxq z.symm
        show (x :: kids (stF ps) n x).filter _ = _
        rw [List.filter_cons_of_neg (by simpa using hnx), ih x hnx (by omega) m.2.1]
        have : x ≠ 0 := by have := m.1; omega
        simp only [this, false_or]
    unfold kids
    rw [List.filter_flatMap, flat_congr one]
    by_cases hc : a = 0 ∨ a ∈ P ps q
    · rw [if_pos hc]
      have hne : a ≠ q := by
        rintro rfl
        exact hn (P_self ok hq.1)
      obtain ⟨x, hx, e⟩ := P_next ok q hq.1 a hc hne
      have hx1 := P_one ok _ _ hx
      have hxl : x ≤ ps.length := Nat.le_trans (P_le ok _ _ hx) hq.2
      refine flat_one (x := x) (ch_nodup a) (by rw [← e]; exact mem_ch hx1 hxl) hx fun y hy hyq => ?_
      have m := ch_mem ok hy
      exact P_uniq ok q y x hyq hx (m.2.2.1.trans e.symm)
    · rw [if_neg hc]
      refine flat_nil fun x hx => ?_
      have m := ch_mem ok hx
      rw [if_neg fun hxq => ?_]
      have := P_par ok q x hxq
      rw [m.2.2.1] at this
      exact hc this
theorem below_eq {q : Nat} (hq : In ps q) : (kids (stF ps) 13 0).filter (fun x => decide (q ∈ P ps x)) = blF (stF ps) 13 q := by
  have := ok.len
  rw [kids_filter ok hq 13 0 (by rw [P_zero]; exact fun z => by cases z) (by omega) (by omega), if_pos (.inl rfl)]
end
end K54
namespace K54
open PySem L2 L2.PU
section
variable {c : Sc} {ps : List Nat} (t : Tr c ps)
include t
theorem blw {q : Nat} (hq : In ps q) : blwN c.st 13 q = some (blF (stF ps) 13 q) := by
  have := t.ps.len
  rw [t.st]; exact blwN_eq t.ps 13 q hq.1 hq.2 (by omega)
theorem T_below {q : Nat} (hq : In ps q) : F_below 13 [c.d, c.s q] = some (c.S (blF (stF ps) 13 q)) := F_below_eq t.ok 13 q _ (blw t hq)
theorem blw_mem {q x : Nat} (hq : In ps q) (hx : In ps x) : x ∈ blF (stF ps) 13 q ↔ q ∈ P ps x := by
  have h12 := t.ps.len
  rw [← below_eq t.ps hq, List.mem_filter, decide_eq_true_eq]
  exact ⟨fun h => h.2, fun h => ⟨mem_kids t.ps 13 x hx.1 hx.2 (by have := hx.2; omega), h⟩⟩
theorem F_put_eq {q : Nat} (hq : In ps q) (l r : Int) : F_put_at [c.d, c.s q, .int l, .int r] = some (c.put q l r).d := by
  have hp : parN c.st q = some (par ps q) := by rw [t.st]; exact parN_st hq.1 hq.2
  have hu : ∀ x ∈ c.st, x.1 = q → x.2 = par ps q := fun x hx e => by rw [t.st] at hx; rw [(st_mem hx).2.2, e]
  have e1 := F_box_eq t.ok hp
  have e2 : F_with_other [c.d, (c.put q l r).box (q, par ps q)] = some (c.put q l r).d := F_other_eq t.ok rfl rfl hu fun x _ hx => by
    unfold Sc.box Sc.put updI
    dsimp only
    rw [if_neg hx, if_neg hx]
  have e3 : (c.put q l r).box (q, par ps q) = .tuple [.str (c.nm q), .str (c.nm (par ps q)), .int l, .int r, .int (c.W q), .int (c.H q), .str (c.mr q)] := by
    unfold Sc.box Sc.put updI
    dsimp only
    rw [if_pos rfl, if_pos rfl]
  rw [e3] at e2
  refine run_of rfl (show g_put_at F_box_of F_with_other [.val c.d, .val (c.s q), .val (.int l), .val (.int r), .un] = _ from seq_of (set_of (lA_of (aC_of rfl (aC_of rfl rfl)) e1)) (ret_of (lA_of (aC_of rfl (aC_of ?_ rfl)) e2)))
  exact l2_of (l2_of (eSl_of rfl rfl (pS_of rfl) rfl) (lA_of (aC_of rfl (aC_of rfl rfl)) (tup1_ok (by simp))) (addT (by simp [cutL, HT.sIx]))) (eSl_of rfl (pS_of rfl) rfl rfl) rfl
end
end K54
namespace K54
open PySem L2 L2.PU
structure Bx where
  nm : Str
  ar : Str
  l : Int
  t : Int
  w : Int
  h : Int
  mr : Str
noncomputable def Bx.d (b : Bx) : PyData := .tuple [.str b.nm, .str b.ar, .int b.l, .int b.t, .int b.w, .int b.h, .str b.mr]
structure VB (bs : List Bx) : Prop where
  len : bs.length ≤ 12
  nd : (bs.map (·.nm)).Nodup
  one : ∀ b ∈ bs, (1 ≤ b.nm.length ∧ b.nm.length ≤ 3) ∧ PyData.strOk b.nm = true ∧ PyData.strOk b.mr = true
  ar : ∀ (i : Nat) b, bs[i]? = some b → b.ar = "" ∨ ∃ j b', j < i ∧ bs[j]? = some b' ∧ b'.nm = b.ar
noncomputable def nmB (bs : List Bx) (a : Nat) : Str := if a = 0 then "" else match bs[a - 1]? with
  | some b => b.nm
  | none => ⟨(List.replicate (a + 3) 97).toArray⟩
noncomputable def psB (bs : List Bx) : List Nat := bs.map fun b => if b.ar = ("" : Str) then 0 else (bs.map (·.nm)).idxOf b.ar + 1
noncomputable def scB (bs : List Bx) : Sc := ⟨stF (psB bs), nmB bs, fun i => ((bs[i - 1]?).map (·.l)).getD 0, fun i => ((bs[i - 1]?).map (·.t)).getD 0, fun i => ((bs[i - 1]?).map (·.w)).getD 0, fun i => ((bs[i - 1]?).map (·.h)).getD 0, fun i => ((bs[i - 1]?).map (·.mr)).getD ""⟩
theorem nmB_in {bs : List Bx} {i : Nat} {b : Bx} (h : bs[i]? = some b) : nmB bs (i + 1) = b.nm := by
  unfold nmB
  rw [if_neg (by omega), show i + 1 - 1 = i from rfl, h]
theorem e_len : ("" : Str).length = 0 := by decide
theorem nmB_sz {bs : List Bx} (v : VB bs) (a : Nat) : (a = 0 ∧ (nmB bs a).length = 0) ∨ ((∃ b, bs[a - 1]? = some b ∧ nmB bs a = b.nm ∧ b ∈ bs) ∧ 1 ≤ a ∧ (1 ≤ (nmB bs a).length ∧ (nmB bs a).length ≤ 3)) ∨ (1 ≤ a ∧ bs[a - 1]? = none ∧ (nmB bs a).length = a + 3) := by
  by_cases h : a = 0
  · exact .inl ⟨h, by unfold nmB; rw [if_pos h]; exact e_len⟩
  · cases hb : bs[a - 1]? with
    | some b =>
      have e : nmB bs a = b.nm := by unfold nmB; rw [if_neg h, hb]
      have hm := List.mem_of_getElem? hb
      exact .inr (.inl ⟨⟨b, rfl, e, hm⟩, by omega, by rw [e]; exact (v.one b hm).1⟩)
    | none =>
      refine .inr (.inr ⟨by omega, rfl, ?_⟩)
      unfold nmB
      rw [if_neg h, hb]
      show (List.replicate (a + 3) 97).toArray.size = a + 3
      simp
theorem nmB_inj {bs : List Bx} (v : VB bs) : ∀ a b, nmB bs a = nmB bs b → a = b := fun a b e => by
  have s : (nmB bs a).length = (nmB bs b).length := by rw [e]
  rcases nmB_sz v a with ⟨ha, la⟩ | ⟨⟨x, hx, ex, _⟩, ha, la⟩ | ⟨ha, _, la⟩ <;> rcases nmB_sz v b with ⟨hb, lb⟩ | ⟨⟨y, hy, ey, _⟩, hb, lb⟩ | ⟨hb, _, lb⟩
  · omega
  · omega
  · omega
  · omega
  · have h1 : (bs.map (·.nm))[a - 1]? = some x.nm := by rw [List.getElem?_map, hx]; rfl
    have h2 : (bs.map (·.nm))[b - 1]? = some y.nm := by rw [List.getElem?_map, hy]; rfl
    rw [ex, ey] at e
    rw [← e] at h2
    have hlt : a - 1 < (bs.map (·.nm)).length := by
      rw [List.length_map]
      exact (List.getElem?_eq_some_iff.mp hx).1
    have := (List.getElem?_inj hlt v.nd).mp (h1.trans h2.symm)
    omega
  · omega
  · omega
  · omega
  · omega
theorem psB_len (bs : List Bx) : (psB bs).length = bs.length := List.length_map ..
theorem psB_at {bs : List Bx} (v : VB bs) {i : Nat} {b : Bx} (h : bs[i]? = some b) : (psB bs).getD i 0 ≤ i ∧ nmB bs ((psB bs).getD i 0) = b.ar := by
  have e : (psB bs).getD i 0 = if b.ar = ("" : Str) then 0 else (bs.map (·.nm)).idxOf b.ar + 1 := by
    unfold psB
    rw [List.getD_eq_getElem?_getD, List.getElem?_map, h]; rfl
  rw [e]
  by_cases ha : b.ar = ""
  · rw [if_pos ha]
    exact ⟨Nat.zero_le _, ha.symm⟩
  · rw [if_neg ha]
    obtain ⟨j, b', hj, hb, en⟩ := (v.ar i b h).resolve_left ha
    have hm : (bs.map (·.nm))[j]? = some b.ar := by rw [List.getElem?_map, hb]; show some b'.nm = _; rw [en]
    have hin : b.ar ∈ bs.map (·.nm) := List.mem_of_getElem? hm
    have hl := List.idxOf_lt_length_of_mem hin
    have hg : (bs.map (·.nm))[(bs.map (·.nm)).idxOf b.ar]? = some b.ar := by
      rw [List.getElem?_eq_getElem hl, List.getElem_idxOf hl]
    have := (List.getElem?_inj hl v.nd).mp (hg.trans hm.symm)
    rw [this]
    exact ⟨hj, (nmB_in hb).trans en⟩
theorem psB_ok {bs : List Bx} (v : VB bs) : PsOk (psB bs) := ⟨by rw [psB_len]; exact v.len, fun i => by
  cases h : bs[i]? with
  | some b => exact (psB_at v h).1
  | none =>
    have : (psB bs)[i]? = none := by unfold psB; rw [List.getElem?_map, h]; rfl
    rw [List.getD_eq_getElem?_getD, this]; exact Nat.zero_le _⟩
theorem scB_ok {bs : List Bx} (v : VB bs) : (scB bs).Ok := ⟨nmB_inj v, rfl, fun a => by
    show PyData.strOk (nmB bs a) = true
    rcases nmB_sz v a with ⟨h, _⟩ | ⟨⟨b, _, e, hm⟩, _, _⟩ | ⟨h, hb, _⟩
    · rw [h]; show PyData.strOk ("" : Str) = true; decide +kernel
    · rw [e]; exact (v.one b hm).2.1
    · unfold nmB
      rw [if_neg (by omega), hb]
      unfold PyData.strOk
      rw [Array.all_eq_true]
      intro i hi
      simp, fun a => by
    show PyData.strOk (((bs[a - 1]?).map (·.mr)).getD "") = true
    cases h : bs[a - 1]? with
    | some b => exact (v.one b (List.mem_of_getElem? h)).2.2
    | none => show PyData.strOk ("" : Str) = true; decide +kernel, by
    show (stF (psB bs)).length ≤ 12
    unfold stF
    rw [List.length_map, List.length_range, psB_len]; exact v.len⟩
theorem scB_d {bs : List Bx} (v : VB bs) : (scB bs).d = .tuple (bs.map Bx.d) := by
  unfold Sc.d
  show PyData.tuple ((stF (psB bs)).map (scB bs).box) = _
  congr 1
  refine List.ext_getElem? fun i => ?_
  rw [List.getElem?_map, List.getElem?_map]
  unfold stF
  rw [List.getElem?_map, psB_len]
  cases h : bs[i]? with
  | none =>
    have := List.getElem?_eq_none_iff.mp h
    rw [List.getElem?_eq_none (by rw [List.length_range]; exact this)]; rfl
  | some b =>
    have hl := (List.getElem?_eq_some_iff.mp h).1
    rw [List.getElem?_range hl]
    show some ((scB bs).box (i + 1, (psB bs).getD i 0)) = some b.d
    unfold Sc.box scB Bx.d
    dsimp only
    rw [nmB_in h, (psB_at v h).2, show i + 1 - 1 = i from rfl, h]
    rfl
end K54
namespace K54
open PySem L2 L2.PU
noncomputable def up : List Str → List Bx → Prop
  | _, [] => True
  | seen, b :: r => (b.ar = ("" : Str) ∨ b.ar ∈ seen) ∧ up (seen ++ [b.nm]) r
theorem up_ar : ∀ {bs : List Bx} {seen : List Str}, up seen bs → ∀ (i : Nat) b, bs[i]? = some b → b.ar = "" ∨ b.ar ∈ seen ∨ ∃ j b', j < i ∧ bs[j]? = some b' ∧ b'.nm = b.ar
  | [], _, _, i, b, h => by simp at h
  | b0 :: r, seen, ⟨h1, h2⟩, 0, b, h => by
    have : b0 = b := by simpa using h
    subst this
    exact h1.imp_right .inl
  | b0 :: r, seen, ⟨h1, h2⟩, i + 1, b, h => by
    rcases up_ar h2 i b (by simpa using h) with z | z | ⟨j, b', hj, hb, e⟩
    · exact .inl z
    · rcases List.mem_append.mp z with y | y
      · exact .inr (.inl y)
      · have y : b.ar = b0.nm := by simpa using y
        exact .inr (.inr ⟨0, b0, by omega, by simp, y.symm⟩)
    · exact .inr (.inr ⟨j + 1, b', by omega, by simpa using hb, e⟩)
theorem ar_up : ∀ {bs : List Bx} {seen : List Str}, (∀ (i : Nat) b, bs[i]? = some b → b.ar = "" ∨ b.ar ∈ seen ∨ ∃ j b', j < i ∧ bs[j]? = some b' ∧ b'.nm = b.ar) → up seen bs
  | [], _, _ => trivial
  | b0 :: r, seen, h => by
    refine ⟨?_, ar_up fun i b hb => ?_⟩
    · rcases h 0 b0 (by simp) with z | z | ⟨j, _, hj, _⟩
      · exact .inl z
      · exact .inr z
      · omega
    · rcases h (i + 1) b (by simpa using hb) with z | z | ⟨j, b', hj, hb', e⟩
      · exact .inl z
      · exact .inr (.inl (List.mem_append_left _ z))
      · cases j with
        | zero =>
          have : b0 = b' := by simpa using hb'
          subst this
          exact .inr (.inl (List.mem_append_right _ (by simp [e])))
        | succ j => exact .inr (.inr ⟨j, b', by omega, by simpa using hb', e⟩)
theorem VB.up {bs : List Bx} (v : VB bs) : up [] bs := ar_up fun i b h => (v.ar i b h).imp_right .inr
theorem VB.of {bs : List Bx} (hl : bs.length ≤ 12) (nd : (bs.map (·.nm)).Nodup) (one : ∀ b ∈ bs, (1 ≤ b.nm.length ∧ b.nm.length ≤ 3) ∧ PyData.strOk b.nm = true ∧ PyData.strOk b.mr = true) (h : K54.up [] bs) : VB bs :=
  ⟨hl, nd, one, fun i b hb => (up_ar h i b hb).imp_right fun z => z.resolve_left (by simp)⟩
theorem up_app : ∀ {as bs : List Bx} {seen : List Str}, up seen as → up (seen ++ as.map (·.nm)) bs → up seen (as ++ bs)
  | [], bs, seen, _, h => by simpa using h
  | a :: r, bs, seen, ⟨h1, h2⟩, h => ⟨h1, up_app h2 (by rw [List.append_assoc]; exact h)⟩
theorem up_filter {G : Str → Prop} {p : Bx → Bool} : ∀ {bs : List Bx} {seen seen' : List Str}, (∀ x ∈ seen, G x → x ∈ seen') → (∀ b ∈ bs, G b.nm → p b = true) → (∀ b ∈ bs, p b = true → b.ar = "" ∨ G b.ar) → up seen bs → up seen' (bs.filter p)
  | [], _, _, _, _, _, _ => trivial
  | b :: r, seen, seen', hs, hn, ha, ⟨h1, h2⟩ => by
    have tl1 := fun b' hb' => hn b' (List.mem_cons_of_mem _ hb')
    have tl2 := fun b' hb' => ha b' (List.mem_cons_of_mem _ hb')
    cases hp : p b with
    | true =>
      rw [List.filter_cons_of_pos hp]
      refine ⟨?_, up_filter (fun x hx g => ?_) tl1 tl2 h2⟩
      · rcases h1 with z | z
        · exact .inl z
        · exact (ha b List.mem_cons_self hp).imp_right fun g => hs _ z g
      · rcases List.mem_append.mp hx with y | y
        · exact List.mem_append_left _ (hs x y g)
        · exact List.mem_append_right _ y
    | false =>
      rw [List.filter_cons_of_neg (by rw [hp]; decide)]
      refine up_filter (fun x hx g => ?_) tl1 tl2 h2
      rcases List.mem_append.mp hx with y | y
      · exact hs x y g
      · have : x = b.nm := by simpa using y
        rw [this] at g
        rw [hn b List.mem_cons_self g] at hp
        cases hp
theorem up_rest {p : Bx → Bool} : ∀ {bs : List Bx} {seen seen' : List Str}, (∀ x ∈ seen, x ∈ seen') → (∀ b ∈ bs, p b = false → b.nm ∈ seen') → up seen bs → up seen' (bs.filter p)
  | [], _, _, _, _, _ => trivial
  | b :: r, seen, seen', hs, hn, ⟨h1, h2⟩ => by
    have tl := fun b' hb' => hn b' (List.mem_cons_of_mem _ hb')
    cases hp : p b with
    | true =>
      rw [List.filter_cons_of_pos hp]
      refine ⟨h1.imp_right (hs _), up_rest (fun x hx => ?_) (fun b' hb' e => List.mem_append_left _ (tl b' hb' e)) h2⟩
      rcases List.mem_append.mp hx with y | y
      · exact List.mem_append_left _ (hs x y)
      · exact List.mem_append_right _ y
    | false =>
      rw [List.filter_cons_of_neg (by rw [hp]; decide)]
      refine up_rest (fun x hx => ?_) tl h2
      rcases List.mem_append.mp hx with y | y
      · exact hs x y
      · have : x = b.nm := by simpa using y
        rw [this]; exact hn b List.mem_cons_self hp
theorem VB.more {bs : List Bx} (v : VB bs) {b : Bx} (hl : bs.length < 12) (hn : b.nm ∉ bs.map (·.nm)) (ha : b.ar = "" ∨ b.ar ∈ bs.map (·.nm)) (h1 : (1 ≤ b.nm.length ∧ b.nm.length ≤ 3) ∧ PyData.strOk b.nm = true ∧ PyData.strOk b.mr = true) : VB (bs ++ [b]) := by
  refine VB.of (by simp; omega) ?_ (fun x hx => ?_) (up_app v.up ⟨by simpa using ha, trivial⟩)
  · rw [List.map_append, List.nodup_append]
    refine ⟨v.nd, by simp, fun x hx y hy e => ?_⟩
    have : y = b.nm := by simpa using hy
    rw [e, this] at hx
    exact hn hx
  · rcases List.mem_append.mp hx with z | z
    · exact v.one x z
    · have : x = b := by simpa using z
      rw [this]; exact h1
theorem VB.cut {bs : List Bx} (v : VB bs) {p : Bx → Bool} (h : ∀ b ∈ bs, p b = true → b.ar = "" ∨ ∃ b' ∈ bs, b'.nm = b.ar ∧ p b' = true) : VB (bs.filter p) := by
  refine VB.of (Nat.le_trans (List.length_filter_le ..) v.len) (v.nd.sublist (List.Sublist.map _ List.filter_sublist)) (fun x hx => v.one x (List.mem_filter.mp hx).1) (up_filter (G := fun x => ∃ b' ∈ bs, b'.nm = x ∧ p b' = true) (fun x hx => by cases hx) (fun b hb g => ?_) h v.up)
  obtain ⟨b', hb', e, hp⟩ := g
  obtain ⟨i, hi⟩ := List.mem_iff_getElem?.mp hb
  obtain ⟨j, hj⟩ := List.mem_iff_getElem?.mp hb'
  have h1 : (bs.map (·.nm))[i]? = some b.nm := by rw [List.getElem?_map, hi]; rfl
  have h2 : (bs.map (·.nm))[j]? = some b.nm := by rw [List.getElem?_map, hj]; show some b'.nm = _; rw [e]
  have hlt : i < (bs.map (·.nm)).length := by rw [List.length_map]; exact (List.getElem?_eq_some_iff.mp hi).1
  have := (List.getElem?_inj hlt v.nd).mp (h1.trans h2.symm)
  rw [this, hj] at hi
  cases hi
  exact hp
theorem VB.lift {bs : List Bx} (v : VB bs) {p : Bx → Bool} (h : ∀ b ∈ bs, p b = false → b.ar = "" ∨ ∃ b' ∈ bs, b'.nm = b.ar ∧ p b' = false) : VB (bs.filter (fun b => !p b) ++ bs.filter p) := by
  have c := v.cut (p := fun b => !p b) (fun b hb hp => (h b hb (by simpa using hp)).imp_right fun ⟨b', x, y, z⟩ => ⟨b', x, y, by rw [z]; rfl⟩)
  have pm : (bs.filter (fun b => !p b) ++ bs.filter p).Perm bs := (List.perm_append_comm).trans (List.filter_append_perm p bs)
  refine VB.of (by rw [pm.length_eq]; exact v.len) ((pm.map _).nodup_iff.mpr v.nd) (fun x hx => v.one x (pm.mem_iff.mp hx)) (up_app c.up ?_)
  refine up_rest (seen := []) (fun x hx => by cases hx) (fun b hb e => ?_) v.up
  rw [List.nil_append]
  exact List.mem_map.mpr ⟨b, List.mem_filter.mpr ⟨hb, by rw [e]; rfl⟩, rfl⟩
theorem VB.same {bs : List Bx} (v : VB bs) {f : Bx → Bx} (hf : ∀ b ∈ bs, (f b).nm = b.nm ∧ (f b).ar = b.ar ∧ PyData.strOk (f b).mr = true) : VB (bs.map f) := by
  have hn : (bs.map f).map (·.nm) = bs.map (·.nm) := by
    rw [List.map_map]
    exact List.map_congr_left fun b hb => (hf b hb).1
  refine ⟨by rw [List.length_map]; exact v.len, by rw [hn]; exact v.nd, fun b hb => ?_, fun i b h => ?_⟩
  · obtain ⟨x, hx, rfl⟩ := List.mem_map.mp hb
    obtain ⟨e1, _, e3⟩ := hf x hx
    rw [e1]
    exact ⟨(v.one x hx).1, (v.one x hx).2.1, e3⟩
  · rw [List.getElem?_map] at h
    obtain ⟨x, hx, rfl⟩ := Option.map_eq_some_iff.mp h
    obtain ⟨_, e2, _⟩ := hf x (List.mem_of_getElem? hx)
    rw [e2]
    refine (v.ar i x hx).imp_right fun ⟨j, y, hj, hy, e⟩ => ⟨j, f y, hj, by rw [List.getElem?_map, hy]; rfl, ?_⟩
    rw [(hf y (List.mem_of_getElem? hy)).1, e]
end K54
namespace K54
open PySem L2 L2.PU
noncomputable def SD (bs : List Bx) : PyData := .tuple (bs.map Bx.d)
theorem filt {α β γ : Type} (f : α → γ) (h : β → γ) (p : α → Bool) (q : β → Bool) : ∀ (as : List α) (bs : List β), as.length = bs.length → (∀ (i : Nat) a b, as[i]? = some a → bs[i]? = some b → f a = h b ∧ p a = q b) → (as.filter p).map f = (bs.filter q).map h
  | [], [], _, _ => rfl
  | [], _ :: _, e, _ => by cases e
  | _ :: _, [], e, _ => by cases e
  | a :: as, b :: bs, e, H => by
    obtain ⟨e1, e2⟩ := H 0 a b rfl rfl
    have ih := filt f h p q as bs (by simpa using e) fun i a b h1 h2 => H (i + 1) a b (by simpa using h1) (by simpa using h2)
    rw [List.filter_cons, List.filter_cons, e2]
    cases q b with
    | true => rw [if_pos rfl, if_pos rfl, List.map_cons, List.map_cons, e1, ih]
    | false => rw [if_neg (by decide), if_neg (by decide), ih]
theorem mapt {α β γ : Type} (f : α → γ) (h : β → γ) (as : List α) (bs : List β) (hl : as.length = bs.length) (H : ∀ (i : Nat) a b, as[i]? = some a → bs[i]? = some b → f a = h b) : as.map f = bs.map h := by
  have := filt f h (fun _ => true) (fun _ => true) as bs hl fun i a b h1 h2 => ⟨H i a b h1 h2, rfl⟩
  rwa [show as.filter (fun _ => true) = as by simp, show bs.filter (fun _ => true) = bs by simp] at this
theorem trB {bs : List Bx} (v : VB bs) : Tr (scB bs) (psB bs) := ⟨scB_ok v, rfl, psB_ok v⟩
theorem stB_len (bs : List Bx) : (stF (psB bs)).length = bs.length := by
  unfold stF
  rw [List.length_map, List.length_range, psB_len]
theorem stB {bs : List Bx} {i : Nat} {x : Nat × Nat} (h : (stF (psB bs))[i]? = some x) : x = (i + 1, (psB bs).getD i 0) := by
  have hl := (List.getElem?_eq_some_iff.mp h).1
  rw [stB_len] at hl
  unfold stF at h
  rw [List.getElem?_map, psB_len, List.getElem?_range hl] at h
  exact (Option.some.inj h).symm
theorem boxB {bs : List Bx} (v : VB bs) {i : Nat} {b : Bx} (h : bs[i]? = some b) : (scB bs).box (i + 1, (psB bs).getD i 0) = b.d := by
  unfold Sc.box scB Bx.d
  dsimp only
  rw [nmB_in h, (psB_at v h).2, show i + 1 - 1 = i from rfl, h]
  rfl
theorem inB {bs : List Bx} {i : Nat} {b : Bx} (h : bs[i]? = some b) : In (psB bs) (i + 1) := ⟨by omega, by rw [psB_len]; exact (List.getElem?_eq_some_iff.mp h).1⟩
theorem sB {bs : List Bx} {i : Nat} {b : Bx} (h : bs[i]? = some b) : (scB bs).s (i + 1) = .str b.nm := by
  show PyData.str (nmB bs (i + 1)) = _
  rw [nmB_in h]
section
variable {bs : List Bx} (v : VB bs) {i0 : Nat} {b0 : Bx} (h0 : bs[i0]? = some b0)
include v h0
theorem B_box : F_box_of [SD bs, .str b0.nm] = some b0.d := by
  have := T_box (trB v) (inB h0)
  rw [scB_d v, sB h0] at this
  rw [show SD bs = PyData.tuple (bs.map Bx.d) from rfl, this]
  exact congrArg some (boxB v h0)
noncomputable def gone (bs : List Bx) (i : Nat) : List Str := (blF (stF (psB bs)) 13 (i + 1)).map (nmB bs)
theorem gone_iff {i : Nat} {b : Bx} (h : bs[i]? = some b) : b.nm ∈ gone bs i0 ↔ i + 1 ∈ blF (stF (psB bs)) 13 (i0 + 1) := by
  unfold gone
  rw [List.mem_map]
  constructor
  · rintro ⟨x, hx, e⟩
    rw [← nmB_in h] at e
    rw [← nmB_inj v _ _ e]; exact hx
  · exact fun hx => ⟨i + 1, hx, nmB_in h⟩
theorem gone_up {i : Nat} {b : Bx} (h : bs[i]? = some b) (hn : b.nm ∉ gone bs i0) : b.ar = "" ∨ ∃ b' ∈ bs, b'.nm = b.ar ∧ b'.nm ∉ gone bs i0 := by
  refine (v.ar i b h).imp_right fun ⟨j, b', hj, hb, e⟩ => ⟨b', List.mem_of_getElem? hb, e, fun z => hn ?_⟩
  rw [gone_iff v h0 hb, blw_mem (trB v) (inB h0) (inB hb)] at z
  rw [gone_iff v h0 h, blw_mem (trB v) (inB h0) (inB h)]
  have e1 : par (psB bs) (i + 1) = j + 1 := nmB_inj v _ _ (by rw [nmB_in hb, e]; exact (psB_at v h).2)
  rw [P_succ (psB_ok v) (by omega), e1]
  exact List.mem_append_left _ z
theorem B_below : F_below 13 [SD bs, .str b0.nm] = some (.list ((gone bs i0).map PyData.str)) := by
  have := T_below (trB v) (inB h0)
  rw [scB_d v, sB h0] at this
  rw [show SD bs = PyData.tuple (bs.map Bx.d) from rfl, this]
  unfold Sc.S gone
  rw [List.map_map]; rfl
theorem pickB (neg : Bool) : ((stF (psB bs)).filter fun x => if neg then !decide (x.1 ∈ blF (stF (psB bs)) 13 (i0 + 1)) else decide (x.1 ∈ blF (stF (psB bs)) 13 (i0 + 1))).map (scB bs).box = (bs.filter fun b => if neg then !decide (b.nm ∈ gone bs i0) else decide (b.nm ∈ gone bs i0)).map Bx.d := by
  refine filt _ _ _ _ _ _ (stB_len bs) fun i x b h1 h2 => ?_
  obtain rfl := stB h1
  refine ⟨boxB v h2, ?_⟩
  have : decide (i + 1 ∈ blF (stF (psB bs)) 13 (i0 + 1)) = decide (b.nm ∈ gone bs i0) := by
    rw [decide_eq_decide]; exact (gone_iff v h0 h2).symm
  dsimp only
  rw [this]
noncomputable def cutB (bs : List Bx) (i : Nat) : List Bx := bs.filter fun b => !decide (b.nm ∈ gone bs i)
noncomputable def raiB (bs : List Bx) (i : Nat) : List Bx := (bs.filter fun b => !decide (b.nm ∈ gone bs i)) ++ bs.filter fun b => decide (b.nm ∈ gone bs i)
theorem cutB_ok : VB (cutB bs i0) := v.cut fun b hb hp => by
  obtain ⟨i, hi⟩ := List.mem_iff_getElem?.mp hb
  refine (gone_up v h0 hi (by simpa using hp)).imp_right fun ⟨b', h1, h2, h3⟩ => ⟨b', h1, h2, by simpa using h3⟩
theorem raiB_ok : VB (raiB bs i0) := v.lift (p := fun b => decide (b.nm ∈ gone bs i0)) fun b hb hp => by
  obtain ⟨i, hi⟩ := List.mem_iff_getElem?.mp hb
  refine (gone_up v h0 hi (by simpa using hp)).imp_right fun ⟨b', h1, h2, h3⟩ => ⟨b', h1, h2, by simpa using h3⟩
theorem B_cut : F_cut [SD bs, .str b0.nm] = some (SD (cutB bs i0)) := by
  have e : cutN (scB bs).st (i0 + 1) = some ((stF (psB bs)).filter fun x => !decide (x.1 ∈ blF (stF (psB bs)) 13 (i0 + 1))) := by
    unfold cutN
    rw [blw (trB v) (inB h0)]; rfl
  have := F_cut_eq (scB_ok v) e
  rw [scB_d v, sB h0] at this
  rw [show SD bs = PyData.tuple (bs.map Bx.d) from rfl, this]
  exact congrArg (fun l => some (PyData.tuple l)) (pickB v h0 true)
theorem B_raised : F_raised [SD bs, .str b0.nm] = some (SD (raiB bs i0)) := by
  have e : raiN (scB bs).st (i0 + 1) = some ((stF (psB bs)).filter (fun x => !decide (x.1 ∈ blF (stF (psB bs)) 13 (i0 + 1))) ++ (stF (psB bs)).filter fun x => decide (x.1 ∈ blF (stF (psB bs)) 13 (i0 + 1))) := by
    unfold raiN
    rw [blw (trB v) (inB h0)]; rfl
  have := F_raised_eq (scB_ok v) e
  rw [scB_d v, sB h0] at this
  rw [show SD bs = PyData.tuple (bs.map Bx.d) from rfl, this]
  refine congrArg (fun l => some (PyData.tuple l)) ?_
  show List.map (scB bs).box ((stF (psB bs)).filter (fun x => !decide (x.1 ∈ blF (stF (psB bs)) 13 (i0 + 1))) ++ (stF (psB bs)).filter fun x => decide (x.1 ∈ blF (stF (psB bs)) 13 (i0 + 1))) = _
  rw [List.map_append]
  unfold raiB
  rw [List.map_append]
  exact congr (congrArg (· ++ ·) (pickB v h0 true)) (pickB v h0 false)
noncomputable def chgB (bs : List Bx) (n : Str) (f : Bx → Bx) : List Bx := bs.map fun b => if b.nm = n then f b else b
theorem chgB_ok {f : Bx → Bx} (hf : ∀ b ∈ bs, (f b).nm = b.nm ∧ (f b).ar = b.ar ∧ PyData.strOk (f b).mr = true) : VB (chgB bs b0.nm f) := v.same fun b hb => by
  split
  · exact hf b hb
  · exact ⟨rfl, rfl, (v.one b hb).2.2⟩
theorem nm_dec {i : Nat} {b : Bx} (h : bs[i]? = some b) : b.nm = b0.nm ↔ i + 1 = i0 + 1 := by
  rw [← nmB_in h, ← nmB_in h0]
  exact ⟨fun e => nmB_inj v _ _ e, fun e => by rw [e]⟩
theorem B_marked (m : Str) : F_marked [SD bs, .str b0.nm, .str m] = some (SD (chgB bs b0.nm fun b => { b with mr := m })) := by
  have hp : parN (scB bs).st (i0 + 1) = some (par (psB bs) (i0 + 1)) := parN_st (inB h0).1 (inB h0).2
  have := F_mark_eq (scB_ok v) (m := m) hp fun x hx e => by rw [(st_mem hx).2.2, e]
  rw [scB_d v, sB h0] at this
  rw [show SD bs = PyData.tuple (bs.map Bx.d) from rfl, this]
  unfold SD chgB
  rw [List.map_map]
  refine congrArg (fun l => some (PyData.tuple l)) (mapt _ _ _ _ (stB_len bs) fun i x b h1 h2 => ?_)
  obtain rfl := stB h1
  have hb := boxB v h2
  unfold Sc.box Bx.d at hb
  show PyData.tuple [.str (nmB bs (i + 1)), .str (nmB bs ((psB bs).getD i 0)), .int ((scB bs).L (i + 1)), .int ((scB bs).T (i + 1)), .int ((scB bs).W (i + 1)), .int ((scB bs).H (i + 1)), .str (if i + 1 = i0 + 1 then m else (scB bs).mr (i + 1))] = Bx.d (if b.nm = b0.nm then _ else _)
  have k := nm_dec v h0 h2
  injection hb with hb
  simp only [List.cons.injEq, and_true] at hb
  obtain ⟨e1, e2, e3, e4, e5, e6, e7⟩ := hb
  by_cases hq : i + 1 = i0 + 1
  · rw [if_pos hq, if_pos (k.mpr hq)]
    unfold Bx.d
    show PyData.tuple [_, _, _, _, _, _, _] = _
    rw [show PyData.str (nmB bs (i + 1)) = _ from e1, show PyData.str (nmB bs ((psB bs).getD i 0)) = _ from e2, e3, e4, e5, e6]
  · rw [if_neg hq, if_neg (fun z => hq (k.mp z))]
    unfold Bx.d
    rw [show PyData.str (nmB bs (i + 1)) = _ from e1, show PyData.str (nmB bs ((psB bs).getD i 0)) = _ from e2, e3, e4, e5, e6, e7]
theorem B_put (l t : Int) : F_put_at [SD bs, .str b0.nm, .int l, .int t] = some (SD (chgB bs b0.nm fun b => { b with l := l, t := t })) := by
  have := F_put_eq (trB v) (inB h0) l t
  rw [scB_d v, sB h0] at this
  rw [show SD bs = PyData.tuple (bs.map Bx.d) from rfl, this]
  unfold SD chgB
  rw [List.map_map]
  refine congrArg (fun l => some (PyData.tuple l)) (mapt _ _ _ _ (stB_len bs) fun i x b h1 h2 => ?_)
  obtain rfl := stB h1
  have hb := boxB v h2
  unfold Sc.box Bx.d at hb
  show PyData.tuple [.str (nmB bs (i + 1)), .str (nmB bs ((psB bs).getD i 0)), .int (if i + 1 = i0 + 1 then l else (scB bs).L (i + 1)), .int (if i + 1 = i0 + 1 then t else (scB bs).T (i + 1)), .int ((scB bs).W (i + 1)), .int ((scB bs).H (i + 1)), .str ((scB bs).mr (i + 1))] = Bx.d (if b.nm = b0.nm then _ else _)
  have k := nm_dec v h0 h2
  injection hb with hb
  simp only [List.cons.injEq, and_true] at hb
  obtain ⟨e1, e2, e3, e4, e5, e6, e7⟩ := hb
  by_cases hq : i + 1 = i0 + 1
  · rw [if_pos hq, if_pos hq, if_pos (k.mpr hq)]
    unfold Bx.d
    rw [show PyData.str (nmB bs (i + 1)) = _ from e1, show PyData.str (nmB bs ((psB bs).getD i 0)) = _ from e2, e5, e6, e7]
  · rw [if_neg hq, if_neg hq, if_neg (fun z => hq (k.mp z))]
    unfold Bx.d
    rw [show PyData.str (nmB bs (i + 1)) = _ from e1, show PyData.str (nmB bs ((psB bs).getD i 0)) = _ from e2, e3, e4, e5, e6, e7]
end
theorem asBx (bs : List Bx) : (bs.map Bx.d).length = bs.length := List.length_map ..
theorem B_has {bs : List Bx} (v : VB bs) {n : Str} (hn : PyData.strOk n = true) : F_has_box [SD bs, .str n] = some (.bool (decide (n ∈ bs.map (·.nm)))) := by
  have e : sComp [none, some 1] (lI asTu (eV 0)) (tgN 0) tTrue (l2 pEq (l2 pIx (eV 0) (eC (.int 0))) (eV 1)) [.val (SD bs), .val (.str n)] = some ((bs.map fun x => decide (x.nm = n)).map PyData.bool) := by
    refine comp_eq (ds := bs.map Bx.d) (lI_of rfl rfl) (by rw [List.length_map]; have := v.len; omega) ?_
    rw [List.map_map]
    exact cGo_mapT Bx.d (fun x => PyData.bool (decide (x.nm = n))) bs fun x hx => ⟨_, rfl, l2_of (l2_of rfl rfl rfl) rfl (pEq_str (v.one x hx).2.1 hn)⟩
  refine run_of rfl (show g_has_box [.val (SD bs), .val (.str n)] = _ from ret_of (lA_of (aC_of (oE_of e) rfl) ((pAny_of _).trans ?_)))
  rw [List.any_map]
  congr 2
  rw [Bool.eq_iff_iff, List.any_eq_true, decide_eq_true_eq, List.mem_map]
  simp
theorem pGe_ok (i j : Int) : pGe (.int i) (.int j) = some (.bool (decide (i ≥ j))) := rfl
theorem B_with {bs : List Bx} (v : VB bs) {b : Bx} (hl : bs.length < 12) (hn : b.nm ∉ bs.map (·.nm)) (ha : b.ar = "" ∨ b.ar ∈ bs.map (·.nm)) (h1 : PyData.strOk b.nm = true) (h2 : PyData.strOk b.ar = true) : F_with_box [SD bs, b.d] = some (SD (bs ++ [b])) := by
  have e1 := B_has v h1
  have e2 := B_has v h2
  rw [decide_eq_false hn] at e1
  refine run_of rfl (show g_with_box F_has_box [.val (SD bs), .val b.d, .un, .un] = _ from ?_)
  refine seq_of (set_of (d := .str b.nm) (l2_of rfl rfl rfl)) (seq_of (set_of (d := .str b.ar) (l2_of rfl rfl rfl)) ?_)
  show sSeq _ _ [.val (SD bs), .val b.d, .val (.str b.nm), .val (.str b.ar)] = _
  refine seq_of (ifN (bT_of (lA_of (aC_of rfl (aC_of rfl rfl)) e1))) (seq_of (ifN ?_) (seq_of (ifN (bT_of (l2_of (lA_of (aC_of rfl rfl) rfl) rfl ((pGe_ok _ _).trans ?_)))) (ret_of (l2_of rfl (lA_of (aC_of rfl rfl) (tup1_ok (by simp))) ?_))))
  · have e3 : bT (l2 pNe (eV 3) (eC (.str ""))) [.val (SD bs), .val b.d, .val (.str b.nm), .val (.str b.ar)] = some (!decide (b.ar = "")) := bT_of (l2_of rfl rfl (pNe_str h2 (by decide +kernel)))
    have e4 := bNot_of (bT_of (lA_of (o := F_has_box) (η := [.val (SD bs), .val b.d, .val (.str b.nm), .val (.str b.ar)]) (fs := aC (eV 0) (aC (eV 3) aN)) (aC_of rfl (aC_of rfl rfl)) e2))
    rw [bAnd_of e3 e4]
    rcases ha with z | z
    · rw [decide_eq_true z]; rfl
    · rw [decide_eq_true z]; simp
  · rw [asBx, decide_eq_false (by omega)]
  · show pAdd (.tuple (bs.map Bx.d)) (.tuple [b.d]) = _
    rw [addT (by rw [asBx]; show bs.length + 1 ≤ _; omega)]
    unfold SD
    rw [List.map_append]; rfl
theorem bx_lay {bs : List Bx} (h : ∀ b ∈ bs, PyData.strOk b.nm = true ∧ PyData.strOk b.ar = true ∧ PyData.strOk b.mr = true) : PyData.canLayAll0 (bs.map Bx.d) = true ∧ PyData.depthAll (bs.map Bx.d) ≤ 1 := by
  induction bs with
  | nil => exact ⟨rfl, by simp [PyData.depthAll]⟩
  | cons b r ih =>
    obtain ⟨h1, h2⟩ := ih fun b hb => h b (List.mem_cons_of_mem _ hb)
    obtain ⟨k1, k2, k3⟩ := h b List.mem_cons_self
    refine ⟨?_, ?_⟩
    · simp [Bx.d, PyData.canLayAll0, PyData.canLay0, k1, k2, k3, h1]
    · simp [Bx.d, PyData.depthAll, PyData.depth]
      omega
theorem VB.okar {bs : List Bx} (v : VB bs) {b : Bx} (hb : b ∈ bs) : PyData.strOk b.ar = true := by
  obtain ⟨i, hi⟩ := List.mem_iff_getElem?.mp hb
  rcases v.ar i b hi with z | ⟨j, b', _, h1, h2⟩
  · rw [z]; decide +kernel
  · rw [← h2]; exact (v.one b' (List.mem_of_getElem? h1)).2.1
theorem VB.lay {bs : List Bx} (v : VB bs) : PyData.canLay0 (SD bs) = true ∧ PyData.depth (SD bs) ≤ 2 := by
  obtain ⟨h1, h2⟩ := bx_lay fun b hb => ⟨(v.one b hb).2.1, v.okar hb, (v.one b hb).2.2⟩
  unfold SD
  exact ⟨by simpa [PyData.canLay0] using h1, by simp [PyData.depth]; omega⟩
end K54
namespace K54
open PySem L2 L2.PU
section
variable {w : Wd} {s s1 s2 : Sto} {n k : Nat} {ds : List D} {d : D}
theorem mFld_of {o : MF} {nm : Str} {fs : List (Str × D)} (h1 : o w = some (.r n, s)) (h2 : s[n]? = some (.obj k fs)) (h3 : fs.lookup nm = some d) : mFld o nm w = some (d, s) := by
  unfold mFld
  rw [h1, Option.bind_some]
  dsimp only
  rw [h2]
  dsimp only
  rw [h3]; rfl
theorem mTruL_of {f : MF} (h1 : f w = some (.r n, s)) (h2 : s[n]? = some (.lst ds)) : mTruL f w = some (!ds.isEmpty, s) := by
  unfold mTruL
  rw [h1, Option.bind_some]
  dsimp only
  rw [h2]
theorem mLenL_of {f : MF} (h1 : f w = some (.r n, s)) (h2 : s[n]? = some (.lst ds)) : mLenL f w = some (.d (.int ds.length), s) := by
  unfold mLenL
  rw [h1, Option.bind_some]
  dsimp only
  rw [h2]
theorem mPopL_of {f : MF} {ds : List D} {d : D} (h1 : f w = some (.r n, s)) (h2 : s[n]? = some (.lst (ds ++ [d]))) : mPopL f w = some (d, s.set n (.lst ds)) := by
  unfold mPopL
  rw [h1, Option.bind_some]
  dsimp only
  rw [h2]
  dsimp only
  rw [show (ds ++ [d]).length - 1 = ds.length by simp, List.getElem?_append_right (Nat.le_refl _), Nat.sub_self, List.dropLast_concat]
  rfl
theorem mCopyL_of {f : MF} (h1 : f w = some (.r n, s)) (h2 : s[n]? = some (.lst ds)) : mCopyL f w = some (.r s.length, s ++ [.lst ds]) := by
  unfold mCopyL
  rw [h1, Option.bind_some]
  dsimp only
  rw [h2]
theorem mAppC_of {o g : MF} {ds0 : List D} (h1 : o w = some (.r n, s)) (h2 : s[n]? = some (.lst ds0)) (h3 : g ⟨w.η, s⟩ = some (d, s1)) (h4 : s1[n]? = some (.lst ds)) (hl : ds.length ≤ 3000000) : mAppC o g w = some (.d .none, s1.set n (.lst (ds ++ [d]))) := by
  unfold mAppC
  rw [h1, Option.bind_some]
  dsimp only
  rw [h2]
  dsimp only
  rw [h3, Option.bind_some]
  dsimp only
  rw [h4]
  dsimp only
  rw [if_pos (Nat.lt_of_le_of_lt hl (by show 3000000 < 2 ^ 24; decide))]
theorem mTupD_of {fs : MFs} {xs : List PyData} (h1 : fs w = some (ds, s)) (h2 : pDs s ds = some xs) (hl : xs.length ≤ 3000000) : mTupD fs w = some (.d (.tuple xs), s) := by
  unfold mTupD
  rw [h1, Option.bind_some, h2, Option.bind_some, if_pos (big hl)]
theorem mN0 : mN (fun η => (aN η).bind gL) w = some (.r w.s.length, w.s ++ [.lst []]) := rfl
theorem tmNot_of {f : MTF} {b : Bool} (h : f w = some (b, s)) : tmNot f w = some (!b, s) := by
  unfold tmNot
  rw [h]; rfl
theorem tmOrS {f g : MTF} {r : Option (Bool × Sto)} (h1 : f w = some (false, s1)) (h2 : g ⟨w.η, s1⟩ = r) : tmOr f g w = r := by
  unfold tmOr
  rw [h1]; exact h2
theorem mCall_of {fn : List D → Sto → Option (D × Sto)} {fs : MFs} {r : Option (D × Sto)} (h1 : fs w = some (ds, s1)) (h2 : fn ds s1 = r) : mCall fn fs w = r := by
  unfold mCall
  rw [h1]; exact h2
end
structure Ad where
  p : Nat
  n : Nat
  u : Nat
noncomputable abbrev Ad.l (a : Ad) : List Nat := [a.p, a.n, a.u]
noncomputable def pf (sc : PyData) (n u : Nat) : List (Str × D) := [("scene", .d sc), ("done", .r n), ("undone", .r u)]
noncomputable def rw1 (x : Str × PyData) : D := .d (.tuple [.str x.1, x.2])
structure Pl (s : Sto) (a : Ad) (sc : PyData) (dn un : List (Str × PyData)) : Prop where
  ob : s[a.p]? = some (.obj 0 (pf sc a.n a.u))
  dn : s[a.n]? = some (.lst (dn.map rw1))
  un : s[a.u]? = some (.lst (un.map rw1))
  nu : a.n ≠ a.u
structure Mv (s s' : Sto) (a a' : Ad) : Prop where
  len : s.length ≤ s'.length
  kp : ∀ i, i < s.length → i ∉ a.l → s'[i]? = s[i]?
  ow : ∀ i ∈ a'.l, i ∈ a.l ∨ s.length ≤ i
theorem Mv.refl {s : Sto} {a : Ad} : Mv s s a a := ⟨Nat.le_refl _, fun _ _ _ => rfl, fun _ h => .inl h⟩
theorem Mv.trans {s s1 s2 : Sto} {a a1 a2 : Ad} (x : Mv s s1 a a1) (y : Mv s1 s2 a1 a2) : Mv s s2 a a2 := ⟨Nat.le_trans x.len y.len, fun i hi ho => by
  have n1 : i ∉ a1.l := fun z => by
    rcases x.ow i z with q | q
    · exact ho q
    · omega
  rw [y.kp i (Nat.lt_of_lt_of_le hi x.len) n1, x.kp i hi ho], fun i h => by
  rcases y.ow i h with q | q
  · exact x.ow i q
  · exact .inr (Nat.le_trans x.len q)⟩
section
variable {s s' : Sto} {a b a' : Ad} {sc sc' : PyData} {dn un dn' un' : List (Str × PyData)}
theorem lt_of {i : Nat} {x : Cell} (h : s[i]? = some x) : i < s.length := (List.getElem?_eq_some_iff.mp h).1
theorem Pl.pn (P : Pl s a sc dn un) : a.p ≠ a.n := fun e => by have := P.ob; rw [e, P.dn] at this; cases this
theorem Pl.pu (P : Pl s a sc dn un) : a.p ≠ a.u := fun e => by have := P.ob; rw [e, P.un] at this; cases this
theorem Pl.lt (P : Pl s a sc dn un) {i : Nat} (h : i ∈ a.l) : i < s.length := by
  have e : i = a.p ∨ i = a.n ∨ i = a.u := by simpa using h
  rcases e with rfl | rfl | rfl
  · exact lt_of P.ob
  · exact lt_of P.dn
  · exact lt_of P.un
theorem Pl.frame (P : Pl s a sc dn un) (h : ∀ i ∈ a.l, s'[i]? = s[i]?) : Pl s' a sc dn un := ⟨by rw [h _ (by simp)]; exact P.ob, by rw [h _ (by simp)]; exact P.dn, by rw [h _ (by simp)]; exact P.un, P.nu⟩
theorem Pl.keep (P : Pl s b sc dn un) (m : Mv s s' a a') (sep : ∀ i ∈ b.l, i ∉ a.l) : Pl s' b sc dn un := P.frame fun i hi => m.kp i (P.lt hi) (sep i hi)
theorem Mv.sep (m : Mv s s' a a') (P : Pl s b sc dn un) (sep : ∀ i ∈ b.l, i ∉ a.l) : ∀ i ∈ b.l, i ∉ a'.l := fun i hi z => by
  rcases m.ow i z with q | q
  · exact sep i hi q
  · have := P.lt hi; omega
noncomputable def obP (s : Sto) (sc : PyData) (n u : Nat) : Str → Option PyData := fun f => ((pf sc n u).lookup f).bind (pD s)
theorem vw1 {p n u : Nat} {η : MEn} (hc : s[p]? = some (.obj 0 (pf sc n u))) : vw ⟨some (.r p) :: η, s⟩ = .ob (obP s sc n u) :: vw ⟨η, s⟩ := by
  unfold vw
  rw [List.map_cons, vwS_obj hc]; rfl
theorem f_scene {n u : Nat} (l : En) : eFld 0 "scene" (.ob (obP s sc n u) :: l) = some sc := by rfl
theorem lk_done {n u : Nat} : (pf sc n u).lookup ("done" : Str) = some (D.r n) := by rfl
theorem lk_undone {n u : Nat} : (pf sc n u).lookup ("undone" : Str) = some (D.r u) := by rfl
theorem put_undone {n u m : Nat} : putA ("undone" : Str) (.r m) (pf sc n u) = pf sc n m := by rfl
theorem put_done {n u m : Nat} : putA ("done" : Str) (.r m) (pf sc n u) = pf sc m u := by rfl
theorem pf_len {n u : Nat} : (pf sc n u).length < 999 := by show 3 < 999; decide
theorem set_at {i : Nat} {x y : Cell} (h : s[i]? = some y) : (s.set i x)[i]? = some x := List.getElem?_set_self (lt_of h)
theorem F_now (P : Pl s a sc dn un) : F_Plan__now [.r a.p] s = some (.d sc, s) := by
  refine mRun_of rfl (show g_Plan__now ⟨[some (.r a.p)], s⟩ = _ from mRet_of (mP_of ?_))
  rw [vw1 P.ob]; rfl
noncomputable def szD (dn un : List (Str × PyData)) : PyData := .tuple [.int dn.length, .int un.length]
theorem F_sizes (P : Pl s a sc dn un) : F_Plan__sizes [.r a.p] s = some (.d (szD dn un), s) := by
  refine mRun_of rfl (show g_Plan__sizes ⟨[some (.r a.p)], s⟩ = _ from mRet_of ?_)
  have e1 := mLenL_of (f := mFld (mV 0) "done") (w := ⟨[some (.r a.p)], s⟩) (mFld_of rfl P.ob lk_done) P.dn
  have e2 := mLenL_of (f := mFld (mV 0) "undone") (w := ⟨[some (.r a.p)], s⟩) (mFld_of rfl P.ob lk_undone) P.un
  rw [List.length_map] at e1 e2
  exact mTupD_of (maC_of e1 (maC_of e2 maN_of)) rfl (by simp)
theorem rw1_app (l : List (Str × PyData)) (x : Str × PyData) : l.map rw1 ++ [rw1 x] = (l ++ [x]).map rw1 := by rw [List.map_append]; rfl
theorem F_step_to (P : Pl s a sc dn un) (hd : dn.length ≤ 1000) (w : Str) (S : PyData) : ∃ s', F_Plan__step_to [.r a.p, .d (.str w), .d S] s = some (.d .none, s') ∧ Pl s' ⟨a.p, a.n, s.length⟩ S (dn ++ [(w, sc)]) [] ∧ Mv s s' a ⟨a.p, a.n, s.length⟩ := by
  have hp := lt_of P.ob
  have hn := lt_of P.dn
  have s1 : ∃ s1, s1 = s.set a.n (.lst ((dn ++ [(w, sc)]).map rw1)) := ⟨_, rfl⟩
  obtain ⟨s1, e1⟩ := s1
  have l1 : s1.length = s.length := by rw [e1, List.length_set]
  have o1 : s1[a.p]? = some (.obj 0 (pf sc a.n a.u)) := by rw [e1, List.getElem?_set_ne P.pn.symm]; exact P.ob
  have o2 : (s1 ++ [Cell.lst []])[a.p]? = some (.obj 0 (pf sc a.n a.u)) := by rw [List.getElem?_append_left (by omega)]; exact o1
  have s2 : ∃ s2, s2 = (s1 ++ [Cell.lst []]).set a.p (.obj 0 (pf sc a.n s.length)) := ⟨_, rfl⟩
  obtain ⟨s2, e2⟩ := s2
  have o3 : s2[a.p]? = some (.obj 0 (pf sc a.n s.length)) := by rw [e2]; exact set_at o2
  have l2 : s2.length = s.length + 1 := by rw [e2, List.length_set, List.length_append, l1]; rfl
  refine ⟨s2.set a.p (.obj 0 (pf S a.n s.length)), ?_, ⟨set_at o3, ?_, ?_, by show a.n ≠ s.length; omega⟩, ⟨by rw [List.length_set, l2]; omega, fun i hi ho => ?_, fun i hi => ?_⟩⟩
  · refine mRunN (w1 := ⟨[some (.r a.p), some (.d (.str w)), some (.d S)], s2.set a.p (.obj 0 (pf S a.n s.length))⟩) rfl ?_
    show g_Plan__step_to ⟨[some (.r a.p), some (.d (.str w)), some (.d S)], s⟩ = _
    refine mSeq_of (w1 := ⟨[some (.r a.p), some (.d (.str w)), some (.d S)], s1⟩) ?_ (mSeq_of (w1 := ⟨[some (.r a.p), some (.d (.str w)), some (.d S)], s2⟩) ?_ ?_)
    · rw [e1, ← rw1_app]
      refine mExp_of (mAppC_of (mFld_of rfl P.ob lk_done) P.dn (mP_of ?_) P.dn (by rw [List.length_map]; omega))
      rw [vw1 P.ob]
      exact lA_of (aC_of rfl (aC_of (f_scene _) rfl)) (tup1_ok (by simp))
    · rw [mPut_of (s1 := s1 ++ [.lst []]) mN0 rfl o2 pf_len, put_undone, e2]
      dsimp only
      rw [l1]
    · exact (mPut_of (mP_of rfl) rfl o3 pf_len)
  · show (s2.set a.p _)[a.n]? = _
    rw [List.getElem?_set_ne P.pn, e2, List.getElem?_set_ne P.pn, List.getElem?_append_left (by omega), e1]
    exact set_at P.dn
  · show (s2.set a.p _)[s.length]? = _
    rw [List.getElem?_set_ne (by omega), e2, List.getElem?_set_ne (by omega), List.getElem?_append_right (by omega), l1, Nat.sub_self]; rfl
  · have h : i ≠ a.p ∧ i ≠ a.n ∧ i ≠ a.u := by simpa using ho
    rw [List.getElem?_set_ne (Ne.symm h.1), e2, List.getElem?_set_ne (Ne.symm h.1), List.getElem?_append_left (by omega), e1, List.getElem?_set_ne (Ne.symm h.2.1)]
  · have h : i = a.p ∨ i = a.n ∨ i = s.length := by simpa using hi
    rcases h with rfl | rfl | rfl
    · exact .inl (by simp)
    · exact .inl (by simp)
    · exact .inr (Nat.le_refl _)
theorem emp (l : List (Str × PyData)) (x : Str × PyData) : ((l ++ [x]).map rw1).isEmpty = false := by
  cases l <;> rfl
theorem mv_set3 {x y z : Cell} : Mv s (((s.set a.n x).set a.u y).set a.p z) a a := ⟨by rw [List.length_set, List.length_set, List.length_set]; exact Nat.le_refl _, fun i hi ho => by
  have h : i ≠ a.p ∧ i ≠ a.n ∧ i ≠ a.u := by simpa using ho
  rw [List.getElem?_set_ne (Ne.symm h.1), List.getElem?_set_ne (Ne.symm h.2.2), List.getElem?_set_ne (Ne.symm h.2.1)], fun _ h => .inl h⟩
theorem F_back {w : Str} {S : PyData} (P : Pl s a sc (dn ++ [(w, S)]) un) (hd : un.length ≤ 1000) : ∃ s', F_Plan__back [.r a.p] s = some (.d (.str w), s') ∧ Pl s' a S dn (un ++ [(w, sc)]) ∧ Mv s s' a a := by
  have pd : s[a.n]? = some (.lst (dn.map rw1 ++ [rw1 (w, S)])) := by rw [rw1_app]; exact P.dn
  have s1 : ∃ s1, s1 = s.set a.n (.lst (dn.map rw1)) := ⟨_, rfl⟩
  obtain ⟨s1, e1⟩ := s1
  have o1 : s1[a.p]? = some (.obj 0 (pf sc a.n a.u)) := by rw [e1, List.getElem?_set_ne P.pn.symm]; exact P.ob
  have u1 : s1[a.u]? = some (.lst (un.map rw1)) := by rw [e1, List.getElem?_set_ne P.nu]; exact P.un
  have s2 : ∃ s2, s2 = s1.set a.u (.lst ((un ++ [(w, sc)]).map rw1)) := ⟨_, rfl⟩
  obtain ⟨s2, e2⟩ := s2
  have o2 : s2[a.p]? = some (.obj 0 (pf sc a.n a.u)) := by rw [e2, List.getElem?_set_ne P.pu.symm]; exact o1
  refine ⟨s2.set a.p (.obj 0 (pf S a.n a.u)), ?_, ⟨set_at o2, ?_, ?_, P.nu⟩, by rw [e2, e1]; exact mv_set3⟩
  · refine mRun_of rfl (show g_Plan__back ⟨[some (.r a.p), none], s⟩ = _ from ?_)
    refine mSeq_of (mIfN (tmNot_of (mTruL_of (mFld_of rfl P.ob lk_done) P.dn) |>.trans (by rw [emp]; rfl))) ?_
    refine mSeq_of (w1 := ⟨[some (.r a.p), some (rw1 (w, S))], s1⟩) ?_ (mSeq_of (w1 := ⟨[some (.r a.p), some (rw1 (w, S))], s2⟩) ?_ (mSeq_of (w1 := ⟨[some (.r a.p), some (rw1 (w, S))], s2.set a.p (.obj 0 (pf S a.n a.u))⟩) ?_ (mRet_of (mP_of ?_))))
    · rw [e1]; exact mSet_of (mPopL_of (mFld_of rfl P.ob lk_done) pd)
    · rw [e2, ← rw1_app]
      refine mExp_of (mAppC_of (mFld_of rfl o1 lk_undone) u1 (mP_of ?_) u1 (by rw [List.length_map]; omega))
      rw [vw1 o1]
      exact lA_of (aC_of (l2_of rfl rfl rfl) (aC_of (f_scene _) rfl)) (tup1_ok (by simp))
    · exact mPut_of (mP_of (l2_of rfl rfl rfl)) rfl o2 pf_len
    · exact l2_of rfl rfl rfl
  · rw [List.getElem?_set_ne P.pn, e2, List.getElem?_set_ne P.nu.symm, e1]; exact set_at P.dn
  · rw [List.getElem?_set_ne P.pu, e2]; exact set_at u1
theorem mv_set3' {x y z : Cell} : Mv s (((s.set a.u x).set a.n y).set a.p z) a a := ⟨by rw [List.length_set, List.length_set, List.length_set]; exact Nat.le_refl _, fun i hi ho => by
  have h : i ≠ a.p ∧ i ≠ a.n ∧ i ≠ a.u := by simpa using ho
  rw [List.getElem?_set_ne (Ne.symm h.1), List.getElem?_set_ne (Ne.symm h.2.1), List.getElem?_set_ne (Ne.symm h.2.2)], fun _ h => .inl h⟩
theorem F_forth {w : Str} {S : PyData} (P : Pl s a sc dn (un ++ [(w, S)])) (hd : dn.length ≤ 1000) : ∃ s', F_Plan__forth [.r a.p] s = some (.d (.str w), s') ∧ Pl s' a S (dn ++ [(w, sc)]) un ∧ Mv s s' a a := by
  have pd : s[a.u]? = some (.lst (un.map rw1 ++ [rw1 (w, S)])) := by rw [rw1_app]; exact P.un
  have s1 : ∃ s1, s1 = s.set a.u (.lst (un.map rw1)) := ⟨_, rfl⟩
  obtain ⟨s1, e1⟩ := s1
  have o1 : s1[a.p]? = some (.obj 0 (pf sc a.n a.u)) := by rw [e1, List.getElem?_set_ne P.pu.symm]; exact P.ob
  have u1 : s1[a.n]? = some (.lst (dn.map rw1)) := by rw [e1, List.getElem?_set_ne P.nu.symm]; exact P.dn
  have s2 : ∃ s2, s2 = s1.set a.n (.lst ((dn ++ [(w, sc)]).map rw1)) := ⟨_, rfl⟩
  obtain ⟨s2, e2⟩ := s2
  have o2 : s2[a.p]? = some (.obj 0 (pf sc a.n a.u)) := by rw [e2, List.getElem?_set_ne P.pn.symm]; exact o1
  refine ⟨s2.set a.p (.obj 0 (pf S a.n a.u)), ?_, ⟨set_at o2, ?_, ?_, P.nu⟩, by rw [e2, e1]; exact mv_set3'⟩
  · refine mRun_of rfl (show g_Plan__forth ⟨[some (.r a.p), none], s⟩ = _ from ?_)
    refine mSeq_of (mIfN (tmNot_of (mTruL_of (mFld_of rfl P.ob lk_undone) P.un) |>.trans (by rw [emp]; rfl))) ?_
    refine mSeq_of (w1 := ⟨[some (.r a.p), some (rw1 (w, S))], s1⟩) ?_ (mSeq_of (w1 := ⟨[some (.r a.p), some (rw1 (w, S))], s2⟩) ?_ (mSeq_of (w1 := ⟨[some (.r a.p), some (rw1 (w, S))], s2.set a.p (.obj 0 (pf S a.n a.u))⟩) ?_ (mRet_of (mP_of ?_))))
    · rw [e1]; exact mSet_of (mPopL_of (mFld_of rfl P.ob lk_undone) pd)
    · rw [e2, ← rw1_app]
      refine mExp_of (mAppC_of (mFld_of rfl o1 lk_done) u1 (mP_of ?_) u1 (by rw [List.length_map]; omega))
      rw [vw1 o1]
      exact lA_of (aC_of (l2_of rfl rfl rfl) (aC_of (f_scene _) rfl)) (tup1_ok (by simp))
    · exact mPut_of (mP_of (l2_of rfl rfl rfl)) rfl o2 pf_len
    · exact l2_of rfl rfl rfl
  · rw [List.getElem?_set_ne P.pn, e2]; exact set_at u1
  · rw [List.getElem?_set_ne P.pu, e2, List.getElem?_set_ne P.nu, e1]; exact set_at P.un
theorem F_init (s0 : Sto) (x : PyData) : F_Plan____init__ [.r s0.length, .d x] (s0 ++ [.obj 0 []]) = some (.d .none, s0 ++ [.obj 0 (pf x (s0.length + 1) (s0.length + 2)), .lst [], .lst []]) := by
  have ge : ∀ (c : Cell) (t : Sto), (s0 ++ c :: t)[s0.length]? = some c := fun c t => by rw [List.getElem?_append_right (Nat.le_refl _), Nat.sub_self]; rfl
  have st : ∀ (c c' : Cell) (t : Sto), (s0 ++ c :: t).set s0.length c' = s0 ++ c' :: t := fun c c' t => by rw [List.set_append_right _ _ (Nat.le_refl _), Nat.sub_self]; rfl
  refine mRunN (w1 := ⟨[some (.r s0.length), some (.d x)], s0 ++ [.obj 0 (pf x (s0.length + 1) (s0.length + 2)), .lst [], .lst []]⟩) rfl ?_
  show g_Plan____init__ ⟨[some (.r s0.length), some (.d x)], s0 ++ [.obj 0 []]⟩ = _
  have p1 : mPut 0 "scene" (mV 0) (mP (eV 1)) ⟨[some (.r s0.length), some (.d x)], s0 ++ [.obj 0 []]⟩ = some (.nx ⟨[some (.r s0.length), some (.d x)], s0 ++ [.obj 0 [("scene", .d x)]]⟩) := by
    rw [mPut_of (d := .d x) (n := s0.length) (fs := []) (mP_of rfl) rfl (ge _ _) (by decide)]
    dsimp only
    rw [st]; rfl
  have p2 : mPut 0 "done" (mV 0) (mN (fun η => (aN η).bind gL)) ⟨[some (.r s0.length), some (.d x)], s0 ++ [.obj 0 [("scene", .d x)]]⟩ = some (.nx ⟨[some (.r s0.length), some (.d x)], s0 ++ [.obj 0 [("scene", .d x), ("done", .r (s0.length + 1))], .lst []]⟩) := by
    rw [mPut_of (n := s0.length) (s1 := (s0 ++ [.obj 0 [("scene", .d x)]]) ++ [.lst []]) (fs := [("scene", .d x)]) mN0 rfl (by rw [List.append_assoc]; exact ge _ _) (by simp)]
    dsimp only
    rw [List.append_assoc, List.length_append]
    rw [show s0 ++ ([Cell.obj 0 [("scene", .d x)]] ++ [Cell.lst []]) = s0 ++ Cell.obj 0 [("scene", .d x)] :: [.lst []] from rfl, st]; rfl
  refine mSeq_of p1 (mSeq_of p2 ?_)
  rw [mPut_of (n := s0.length) (s1 := (s0 ++ [.obj 0 [("scene", .d x), ("done", .r (s0.length + 1))], .lst []]) ++ [.lst []]) (fs := [("scene", .d x), ("done", .r (s0.length + 1))]) mN0 rfl (by rw [List.append_assoc]; exact ge _ _) (by simp)]
  dsimp only
  rw [List.append_assoc, List.length_append]
  rw [show s0 ++ ([Cell.obj 0 [("scene", .d x), ("done", .r (s0.length + 1))], Cell.lst []] ++ [Cell.lst []]) = s0 ++ Cell.obj 0 [("scene", .d x), ("done", .r (s0.length + 1))] :: [.lst [], .lst []] from rfl, st]; rfl
end
end K54
namespace K54
open PySem L2 L2.PU
section
variable {s s' : Sto} {a b a' : Ad} {sc sc' : PyData} {dn un dn' un' : List (Str × PyData)}
theorem F_twin (P : Pl s a sc dn un) : ∃ s', F_Plan__twin [.r a.p] s = some (.r s.length, s') ∧ Pl s' ⟨s.length, s.length + 3, s.length + 4⟩ sc dn un ∧ (∀ i, i < s.length → s'[i]? = s[i]?) ∧ s.length ≤ s'.length := by
  have hp := lt_of P.ob
  have s1 : ∃ s1, s1 = s ++ [Cell.obj 0 (pf sc (s.length + 1) (s.length + 2)), .lst [], .lst []] := ⟨_, rfl⟩
  obtain ⟨s1, e1⟩ := s1
  have k1 : ∀ i, i < s.length → s1[i]? = s[i]? := fun i hi => by rw [e1, List.getElem?_append_left hi]
  have l1 : s1.length = s.length + 3 := by rw [e1, List.length_append]; rfl
  have o1 : s1[s.length]? = some (.obj 0 (pf sc (s.length + 1) (s.length + 2))) := by rw [e1, List.getElem?_append_right (Nat.le_refl _), Nat.sub_self]; rfl
  have s2 : ∃ s2, s2 = (s1 ++ [Cell.lst (dn.map rw1)]).set s.length (.obj 0 (pf sc (s.length + 3) (s.length + 2))) := ⟨_, rfl⟩
  obtain ⟨s2, e2⟩ := s2
  have o1' : (s1 ++ [Cell.lst (dn.map rw1)])[s.length]? = some (.obj 0 (pf sc (s.length + 1) (s.length + 2))) := by rw [List.getElem?_append_left (by omega)]; exact o1
  have o2 : s2[s.length]? = some (.obj 0 (pf sc (s.length + 3) (s.length + 2))) := by rw [e2]; exact set_at o1'
  have l2 : s2.length = s.length + 4 := by rw [e2, List.length_set, List.length_append, l1]; rfl
  have k2 : ∀ i, i < s.length → s2[i]? = s[i]? := fun i hi => by rw [e2, List.getElem?_set_ne (by omega), List.getElem?_append_left (by omega)]; exact k1 i hi
  have s3 : ∃ s3, s3 = (s2 ++ [Cell.lst (un.map rw1)]).set s.length (.obj 0 (pf sc (s.length + 3) (s.length + 4))) := ⟨_, rfl⟩
  obtain ⟨s3, e3⟩ := s3
  have o2' : (s2 ++ [Cell.lst (un.map rw1)])[s.length]? = some (.obj 0 (pf sc (s.length + 3) (s.length + 2))) := by rw [List.getElem?_append_left (by omega)]; exact o2
  refine ⟨s3, ?_, ⟨by rw [e3]; exact set_at o2', ?_, ?_, by show s.length + 3 ≠ s.length + 4; omega⟩, fun i hi => ?_, by rw [e3, List.length_set, List.length_append, l2]; omega⟩
  · refine mRun_of rfl (show g_Plan__twin F_Plan____init__ ⟨[some (.r a.p), none], s⟩ = _ from ?_)
    have i1 := F_init s sc
    rw [← e1] at i1
    refine mSeq_of (w1 := ⟨[some (.r a.p), some (.r s.length)], s1⟩) (mSet_of (mMake_of (s := s) (maC_of (d := .d sc) (s1 := s) (mP_of ?_) maN_of) i1)) (mSeq_of (w1 := ⟨[some (.r a.p), some (.r s.length)], s2⟩) ?_ (mSeq_of (w1 := ⟨[some (.r a.p), some (.r s.length)], s3⟩) ?_ (mRet_of rfl)))
    · rw [vw1 P.ob]; exact f_scene _
    · have q := mCopyL_of (f := mFld (mV 0) "done") (w := ⟨[some (.r a.p), some (.r s.length)], s1⟩) (mFld_of rfl ((k1 _ hp).trans P.ob) lk_done) ((k1 _ (lt_of P.dn)).trans P.dn)
      rw [mPut_of q rfl o1' pf_len, put_done, l1, e2]
    · have q := mCopyL_of (f := mFld (mV 0) "undone") (w := ⟨[some (.r a.p), some (.r s.length)], s2⟩) (mFld_of rfl ((k2 _ hp).trans P.ob) lk_undone) ((k2 _ (lt_of P.un)).trans P.un)
      rw [mPut_of q rfl o2' pf_len, put_undone, l2, e3]
  · show s3[s.length + 3]? = _
    rw [e3, List.getElem?_set_ne (by omega), List.getElem?_append_left (by omega), e2, List.getElem?_set_ne (by omega), List.getElem?_append_right (by omega), l1, Nat.sub_self]; rfl
  · show s3[s.length + 4]? = _
    rw [e3, List.getElem?_set_ne (by omega), List.getElem?_append_right (by omega), l2, Nat.sub_self]; rfl
  · rw [e3, List.getElem?_set_ne (by omega), List.getElem?_append_left (by omega)]; exact k2 i hi
noncomputable def Did (s s' : Sto) (a : Ad) (sc S : PyData) (dn : List (Str × PyData)) (w : Str) : Prop := Pl s' ⟨a.p, a.n, s.length⟩ S (dn ++ [(w, sc)]) [] ∧ Mv s s' a ⟨a.p, a.n, s.length⟩
theorem lk_no (sc : PyData) (n u : Nat) : (pf sc n u).lookup ("step_to" : Str) = none := by rfl
theorem M_put (P : Pl s a sc dn un) (hd : dn.length ≤ 1000) {b S : PyData} (h : F_with_box [sc, b] = some S) : ∃ s', F_Plan__put [.r a.p, .d b] s = some (.d .none, s') ∧ Did s s' a sc S dn "put" := by
  obtain ⟨s', e, q⟩ := F_step_to P hd "put" S
  refine ⟨s', ?_, q⟩
  refine mRunN (w1 := ⟨[some (.r a.p), some (.d b)], s'⟩) rfl (show g_Plan__put F_Plan__step_to F_with_box ⟨[some (.r a.p), some (.d b)], s⟩ = _ from mExp_of (mMeth_of rfl P.ob (lk_no ..) (maC_of (s1 := s) (mP_of rfl) (maC_of (s1 := s) (mP_of ?_) maN_of)) e))
  rw [vw1 P.ob]
  exact lA_of (aC_of (f_scene _) (aC_of rfl rfl)) h
theorem M_lift (P : Pl s a sc dn un) (hd : dn.length ≤ 1000) {b S : PyData} (h : F_raised [sc, b] = some S) : ∃ s', F_Plan__lift [.r a.p, .d b] s = some (.d .none, s') ∧ Did s s' a sc S dn "lift" := by
  obtain ⟨s', e, q⟩ := F_step_to P hd "lift" S
  refine ⟨s', ?_, q⟩
  refine mRunN (w1 := ⟨[some (.r a.p), some (.d b)], s'⟩) rfl (show g_Plan__lift F_Plan__step_to F_raised ⟨[some (.r a.p), some (.d b)], s⟩ = _ from mExp_of (mMeth_of rfl P.ob (lk_no ..) (maC_of (s1 := s) (mP_of rfl) (maC_of (s1 := s) (mP_of ?_) maN_of)) e))
  rw [vw1 P.ob]
  exact lA_of (aC_of (f_scene _) (aC_of rfl rfl)) h
theorem M_take (P : Pl s a sc dn un) (hd : dn.length ≤ 1000) {b S g : PyData} (h1 : F_below 13 [sc, b] = some g) (h : F_cut [sc, b] = some S) : ∃ s', F_Plan__take [.r a.p, .d b] s = some (.d g, s') ∧ Did s s' a sc S dn "take" := by
  obtain ⟨s', e, q⟩ := F_step_to P hd "take" S
  refine ⟨s', ?_, q⟩
  refine mRun_of rfl (show g_Plan__take (F_below 13) F_Plan__step_to F_cut ⟨[some (.r a.p), some (.d b), none], s⟩ = _ from mSeq_of (w1 := ⟨[some (.r a.p), some (.d b), some (.d g)], s⟩) (mSet_of (mP_of ?_)) (mSeq_of (w1 := ⟨[some (.r a.p), some (.d b), some (.d g)], s'⟩) (mExp_of (mMeth_of rfl P.ob (lk_no ..) (maC_of (s1 := s) (mP_of rfl) (maC_of (s1 := s) (mP_of ?_) maN_of)) e)) (mRet_of (mP_of rfl))))
  · rw [vw1 P.ob]
    exact lA_of (aC_of (f_scene _) (aC_of rfl rfl)) h1
  · rw [vw1 P.ob]
    exact lA_of (aC_of (f_scene _) (aC_of rfl rfl)) h
theorem M_mark (P : Pl s a sc dn un) (hd : dn.length ≤ 1000) {b m S : PyData} {x : Bx} (h1 : F_box_of [sc, b] = some x.d) (h : F_marked [sc, b, m] = some S) : ∃ s', F_Plan__mark [.r a.p, .d b, .d m] s = some (.d (.str x.mr), s') ∧ Did s s' a sc S dn "mark" := by
  obtain ⟨s', e, q⟩ := F_step_to P hd "mark" S
  refine ⟨s', ?_, q⟩
  refine mRun_of rfl (show g_Plan__mark F_box_of F_Plan__step_to F_marked ⟨[some (.r a.p), some (.d b), some (.d m), none], s⟩ = _ from mSeq_of (w1 := ⟨[some (.r a.p), some (.d b), some (.d m), some (.d x.d)], s⟩) (mSet_of (mP_of ?_)) (mSeq_of (w1 := ⟨[some (.r a.p), some (.d b), some (.d m), some (.d x.d)], s'⟩) (mExp_of (mMeth_of rfl P.ob (lk_no ..) (maC_of (s1 := s) (mP_of rfl) (maC_of (s1 := s) (mP_of ?_) maN_of)) e)) (mRet_of (mP_of (l2_of rfl rfl rfl)))))
  · rw [vw1 P.ob]
    exact lA_of (aC_of (f_scene _) (aC_of rfl rfl)) h1
  · rw [vw1 P.ob]
    exact lA_of (aC_of (f_scene _) (aC_of rfl (aC_of rfl rfl))) h
theorem M_lay (P : Pl s a sc dn un) (hd : dn.length ≤ 1000) {b l t S : PyData} {x : Bx} (h1 : F_box_of [sc, b] = some x.d) (h : F_put_at [sc, b, l, t] = some S) : ∃ s', F_Plan__lay [.r a.p, .d b, .d l, .d t] s = some (.d (.tuple [.int x.l, .int x.t]), s') ∧ Did s s' a sc S dn "lay" := by
  obtain ⟨s', e, q⟩ := F_step_to P hd "lay" S
  refine ⟨s', ?_, q⟩
  refine mRun_of rfl (show g_Plan__lay F_box_of F_Plan__step_to F_put_at ⟨[some (.r a.p), some (.d b), some (.d l), some (.d t), none], s⟩ = _ from mSeq_of (w1 := ⟨[some (.r a.p), some (.d b), some (.d l), some (.d t), some (.d x.d)], s⟩) (mSet_of (mP_of ?_)) (mSeq_of (w1 := ⟨[some (.r a.p), some (.d b), some (.d l), some (.d t), some (.d x.d)], s'⟩) (mExp_of (mMeth_of rfl P.ob (lk_no ..) (maC_of (s1 := s) (mP_of rfl) (maC_of (s1 := s) (mP_of ?_) maN_of)) e)) (mRet_of (mP_of (eSl_of rfl (pS_of rfl) (pS_of rfl) rfl)))))
  · rw [vw1 P.ob]
    exact lA_of (aC_of (f_scene _) (aC_of rfl rfl)) h1
  · rw [vw1 P.ob]
    exact lA_of (aC_of (f_scene _) (aC_of rfl (aC_of rfl (aC_of rfl rfl)))) h
end
end K54
namespace K54
open PySem L2 L2.PU
noncomputable def stepB : Wd → Option MOut :=
  (mIf (tPv (bAnd (bT (l2 pEq (eV 4) (eC (.int 0)))) (bT (l2 pNe (eV 5) (eC (.str "")))))) (mExp (mMeth 0 "take" F_Plan__take (mV 2) (maC (mP (eV 5)) maN))) (mIf (tPv (bAnd (bT (l2 pEq (eV 4) (eC (.int 1)))) (bT (l2 pNe (eV 5) (eC (.str "")))))) (mExp (mMeth 0 "lift" F_Plan__lift (mV 2) (maC (mP (eV 5)) maN))) (mIf (tPv (bAnd (bT (l2 pEq (eV 4) (eC (.int 2)))) (bT (l2 pNe (eV 5) (eC (.str "")))))) (mExp (mMeth 0 "mark" F_Plan__mark (mV 2) (maC (mP (eV 5)) (maC (mP (l2 pIx (eC (.list [(.str ""), (.str "c"), (.str "f"), (.str "h"), (.str "l"), (.str "cf")])) (lA F__law_drawn (aC (eV 0) (aC (l2 pAdd (eV 1) (eC (.int 2))) (aC (eC (.int 6)) aN)))))) maN)))) (mIf (tPv (bAnd (bT (l2 pEq (eV 4) (eC (.int 3)))) (bT (l2 pNe (eV 5) (eC (.str "")))))) (mExp (mMeth 0 "lay" F_Plan__lay (mV 2) (maC (mP (eV 5)) (maC (mP (l2 pSub (lA F__law_drawn (aC (eV 0) (aC (l2 pAdd (eV 1) (eC (.int 2))) (aC (eC (.int 9)) aN)))) (eC (.int 4)))) (maC (mP (l2 pSub (lA F__law_drawn (aC (eV 0) (aC (l2 pAdd (eV 1) (eC (.int 3))) (aC (eC (.int 9)) aN)))) (eC (.int 4)))) maN))))) (mIf (tPv (bT (l2 pLt (lA pLen (aC (eV 3) aN)) (eC (.int 12))))) (mSeq (mSet 6 (mC (sComp [none, some 3] (lI asL (eC (.list [(.str "x"), (.str "y"), (.str "z"), (.str "w"), (.str "v"), (.str "u"), (.str "t"), (.str "s"), (.str "r"), (.str "q"), (.str "p"), (.str "o")]))) (tgN 0) (bT (l2 (pIn true) (eV 0) (eV 1))) (eV 0))))
    (mSeq (mSet 7 (mP (lA (fun ds => if ds.length ≤ sizeLine then some (.tuple ds) else none) (aC (lA F__law_drawn (aC (eV 0) (aC (l2 pAdd (eV 1) (eC (.int 4))) (aC (eC (.int 9)) aN)))) (aC (lA F__law_drawn (aC (eV 0) (aC (l2 pAdd (eV 1) (eC (.int 5))) (aC (eC (.int 9)) aN)))) aN)))))
    (mExp (mMeth 0 "put" F_Plan__put (mV 2) (maC (mP (l2 pAdd (l2 pAdd (lA (fun ds => if ds.length ≤ sizeLine then some (.tuple ds) else none) (aC (l2 pIx (eV 6) (eC (.int 0))) (aC (eV 5) (aC (eC (.int 1)) (aC (eC (.int 1)) aN))))) (eV 7)) (lA (fun ds => if ds.length ≤ sizeLine then some (.tuple ds) else none) (aC (eC (.str "")) aN)))) maN))))) (mExp (mMeth 0 "take" F_Plan__take (mV 2) (maC (mP (eV 5)) maN))))))))
noncomputable def goesA : Wd → Option MOut :=
  (mSeq (mExp (mAppC (mV 3) (mMeth 0 "back" F_Plan__back (mV 0) maN)))
    (mIf (tmOr (mB (mOpL pNe (mMeth 0 "now" F_Plan__now (mV 0) maN) (mP (l2 pIx (eV 1) (eV 4))))) (mB (mOpL pNe (mMeth 0 "sizes" F_Plan__sizes (mV 0) maN) (mP (lA (fun ds => if ds.length ≤ sizeLine then some (.tuple ds) else none) (aC (eV 4) (aC (l2 pSub (eV 2) (eV 4)) aN))))))) (mRet (mP (eC (.bool false)))) mNx))
noncomputable def goesB : Wd → Option MOut :=
  (mSeq (mIf (tmOr (mB (mOpL pNe (mMeth 0 "forth" F_Plan__forth (mV 0) maN) (mOp pIx (mFz (mV 3)) (mP (l2 pSub (eV 2) (eV 4)))))) (mB (mOpL pNe (mMeth 0 "now" F_Plan__now (mV 0) maN) (mP (l2 pIx (eV 1) (eV 4)))))) (mRet (mP (eC (.bool false)))) mNx)
    (mIf (mB (mOpL pNe (mMeth 0 "sizes" F_Plan__sizes (mV 0) maN) (mP (lA (fun ds => if ds.length ≤ sizeLine then some (.tuple ds) else none) (aC (eV 4) (aC (l2 pSub (eV 2) (eV 4)) aN)))))) (mRet (mP (eC (.bool false)))) mNx))
noncomputable def goesE : Wd → Option MOut :=
  (mRet (mOpL pEq (mcL [none] (iM (mFz (mV 3))) [0] (tgN 0) (tPv (bT (l2 (pIn true) (eV 0) (lA (fun ds => if ds.length ≤ sizeLine then some (.tuple ds) else none) (aC (eC (.str "put")) (aC (eC (.str "take")) (aC (eC (.str "lift")) (aC (eC (.str "mark")) (aC (eC (.str "lay")) aN))))))))) (mP (eV 0))) (mP (oE (fun η => (aN η).bind gL)))))
noncomputable def onB : Wd → Option MOut :=
  (mExp (mCall F__law_step (maC (mP (eV 0)) (maC (mP (l2 pAdd (eC (.int 200)) (l2 pMul (eC (.int 6)) (eV 2)))) (maC (mV 1) maN)))))
noncomputable def onE : Wd → Option MOut :=
  (mRet (mTupD (maC (mMeth 0 "now" F_Plan__now (mV 1) maN) (maC (mMeth 0 "sizes" F_Plan__sizes (mV 1) maN) maN))))
noncomputable def lawF2 : Wd → Option MOut :=
  (mSeq (mExp (mCall F__law_step (maC (mP (eV 0)) (maC (mP (l2 pAdd (eC (.int 110)) (l2 pMul (eC (.int 6)) (eV 3)))) (maC (mV 1) maN)))))
    (mExp (mAppC (mV 2) (mMeth 0 "now" F_Plan__now (mV 1) maN))))
noncomputable def lawF6 : Wd → Option MOut :=
  (mExp (mMeth 0 "back" F_Plan__back (mV 1) maN))
noncomputable def lawF14 : Wd → Option MOut :=
  (mExp (mMeth 0 "forth" F_Plan__forth (mV 9) maN))
noncomputable def lawF15 : Wd → Option MOut :=
  (mIf (tmOr (mB (mOpL pNe (mMeth 0 "back" F_Plan__back (mV 8) maN) (mMeth 0 "back" F_Plan__back (mV 1) maN))) (mB (mOpL pNe (mMeth 0 "now" F_Plan__now (mV 8) maN) (mMeth 0 "now" F_Plan__now (mV 1) maN)))) (mRet (mP (eC (.bool false)))) mNx)
/- from 4 -/
/- from 7 -/
/- from 10 -/
/- from 12 -/
/- from 14 -/
noncomputable def lawT14 : Wd → Option MOut :=
  (mSeq (mFor [6] (iPu (fun η => ((aC (eV 5) aN) η).bind rng1)) (tgN 6)
    (mExp (mMeth 0 "forth" F_Plan__forth (mV 9) maN)))
    (mSeq (mFor [6] (iPu (fun η => ((aC (l2 pAdd (l2 pSub (eV 4) (eV 5)) (eC (.int 3))) aN) η).bind rng1)) (tgN 6)
    (mIf (tmOr (mB (mOpL pNe (mMeth 0 "back" F_Plan__back (mV 8) maN) (mMeth 0 "back" F_Plan__back (mV 1) maN))) (mB (mOpL pNe (mMeth 0 "now" F_Plan__now (mV 8) maN) (mMeth 0 "now" F_Plan__now (mV 1) maN)))) (mRet (mP (eC (.bool false)))) mNx))
    (mRet (mAnd (mOpL pEq (mMeth 0 "now" F_Plan__now (mV 9) maN) (mP (l2 pIx (eV 2) (l1 pNeg (eC (.int 1)))))) (mAnd (mOpL pEq (mMeth 0 "now" F_Plan__now (mV 8) maN) (mP (l2 pIx (eV 2) (eC (.int 0))))) (mOpL pEq (mMeth 0 "sizes" F_Plan__sizes (mV 9) maN) (mP (lA (fun ds => if ds.length ≤ sizeLine then some (.tuple ds) else none) (aC (eV 4) (aC (eC (.int 0)) aN))))))))))
noncomputable def lawT12 : Wd → Option MOut :=
  (mSeq (mIf (tmOr (tPv (bT (l2 pNe (l2 pIx (eV 10) (eC (.int 1))) (lA (fun ds => if ds.length ≤ sizeLine then some (.tuple ds) else none) (aC (l2 pAdd (l2 pSub (eV 4) (eV 5)) (eC (.int 3))) (aC (eC (.int 0)) aN)))))) (mB (mOpL pNe (mTupD (maC (mMeth 0 "now" F_Plan__now (mV 8) maN) (maC (mMeth 0 "sizes" F_Plan__sizes (mV 8) maN) maN))) (mP (eV 7))))) (mRet (mP (eC (.bool false)))) mNx)
    (mSeq (mIf (tmOr (mB (mOpL pNe (mCall F__law_go_on (maC (mP (eV 0)) (maC (mV 8) maN))) (mP (eV 10)))) (mB (mOpL pNe (mTupD (maC (mMeth 0 "now" F_Plan__now (mV 9) maN) (maC (mMeth 0 "sizes" F_Plan__sizes (mV 9) maN) maN))) (mP (eV 7))))) (mRet (mP (eC (.bool false)))) mNx)
    lawT14))
noncomputable def lawT10 : Wd → Option MOut :=
  (mSeq (mIf (tPv (bT (l2 pNe (eV 7) (lA (fun ds => if ds.length ≤ sizeLine then some (.tuple ds) else none) (aC (l2 pIx (eV 2) (l2 pSub (eV 4) (eV 5))) (aC (lA (fun ds => if ds.length ≤ sizeLine then some (.tuple ds) else none) (aC (l2 pSub (eV 4) (eV 5)) (aC (eV 5) aN))) aN)))))) (mRet (mP (eC (.bool false)))) mNx)
    (mSeq (mSet 10 (mCall F__law_go_on (maC (mP (eV 0)) (maC (mV 1) maN))))
    lawT12))
noncomputable def lawT7 : Wd → Option MOut :=
  (mSeq (mSet 7 (mTupD (maC (mMeth 0 "now" F_Plan__now (mV 1) maN) (maC (mMeth 0 "sizes" F_Plan__sizes (mV 1) maN) maN))))
    (mSeq (mSet 8 (mMeth 0 "twin" F_Plan__twin (mV 1) maN))
    (mSeq (mSet 9 (mMeth 0 "twin" F_Plan__twin (mV 8) maN))
    lawT10)))
noncomputable def lawT4 : Wd → Option MOut :=
  (mSeq (mIf (tmOr (mB (mOpL pNe (mMeth 0 "sizes" F_Plan__sizes (mV 1) maN) (mP (lA (fun ds => if ds.length ≤ sizeLine then some (.tuple ds) else none) (aC (eV 4) (aC (eC (.int 0)) aN)))))) (tmNot (mB (mCall F__law_goes (maC (mV 1) (maC (mP (eV 2)) maN)))))) (mRet (mP (eC (.bool false)))) mNx)
    (mSeq (mSet 5 (mP (l2 pAdd (eC (.int 1)) (lA F__law_drawn (aC (eV 0) (aC (eC (.int 101)) (aC (eV 4) aN)))))))
    (mSeq (mFor [6] (iPu (fun η => ((aC (eV 5) aN) η).bind rng1)) (tgN 6)
    (mExp (mMeth 0 "back" F_Plan__back (mV 1) maN)))
    lawT7)))
end K54
namespace K54
open PySem L2 L2.PU
noncomputable def nmsD (bs : List Bx) : PyData := .list (bs.map fun b => PyData.str b.nm)
theorem mFz_lst {f : MF} {w : Wd} {s : Sto} {n : Nat} {ds : List D} {xs : List PyData} (h1 : f w = some (.r n, s)) (h2 : s[n]? = some (.lst ds)) (h3 : dAll ds = some xs) : mFz f w = some (.d (.list xs), s.set n (.fz (.list xs))) := by
  unfold mFz
  rw [h1, Option.bind_some]
  dsimp only
  rw [h2]
  dsimp only
  rw [h3]; rfl
theorem dAll_map (xs : List PyData) : dAll (xs.map D.d) = some xs := by
  induction xs with
  | nil => rfl
  | cons x r ih =>
    rw [List.map_cons]
    unfold dAll
    rw [ih]; rfl
theorem names_go (s : Sto) : ∀ (l : List Bx) (acc : List D), acc.length + l.length ≤ 1000 → mcGo [0] (tgN 0) tmTrue (mP (l2 pIx (eV 0) (eC (.int 0)))) s.length [none] (l.map Bx.d) (s ++ [.lst acc]) = some (s ++ [.lst (acc ++ (l.map fun b => PyData.str b.nm).map D.d)])
  | [], acc, _ => by
    show some _ = _
    rw [List.map_nil, List.map_nil, List.append_nil]
  | b :: r, acc, h => by
    have h : acc.length + (r.length + 1) ≤ 1000 := h
    have ih := names_go s r (acc ++ [.d (.str b.nm)]) (by rw [List.length_append]; show acc.length + 1 + r.length ≤ 1000; omega)
    rw [List.map_cons]
    unfold mcGo
    have et : mTg [0] (tgN 0) ⟨[none], s ++ [Cell.lst acc]⟩ b.d = some ⟨[some (.d b.d)], s ++ [Cell.lst acc]⟩ := mTg_name (show 0 < 1 by decide)
    rw [et, Option.bind_some]
    have e0 : tmTrue ⟨[some (.d b.d)], s ++ [Cell.lst acc]⟩ = some (true, s ++ [Cell.lst acc]) := rfl
    rw [e0, Option.bind_some, if_pos rfl]
    have e1 : mP (l2 pIx (eV 0) (eC (.int 0))) ⟨[some (.d b.d)], s ++ [Cell.lst acc]⟩ = some (.d (.str b.nm), s ++ [Cell.lst acc]) := mP_of (l2_of rfl rfl rfl)
    rw [e1, Option.bind_some]
    dsimp only
    rw [List.getElem?_append_right (Nat.le_refl _), Nat.sub_self]
    show (if acc.length < sizeLine then _ else _) = _
    rw [if_pos (Nat.lt_of_le_of_lt (show acc.length ≤ 1000 by omega) (by show 1000 < 2 ^ 24; decide)), List.set_append_right _ _ (Nat.le_refl _), Nat.sub_self]
    show mcGo _ _ _ _ _ _ _ (s ++ [.lst (acc ++ [.d (.str b.nm)])]) = _
    rw [ih, List.append_assoc]; rfl
section
variable {s : Sto} {a : Ad} {dn un : List (Str × PyData)} {bs : List Bx}
theorem names_ok (v : VB bs) (P : Pl s a (SD bs) dn un) {x0 x1 : Option D} {η : MEn} : mFz (mcL [none] (iMT (mMeth 0 "now" F_Plan__now (mV 2) maN)) [0] (tgN 0) tmTrue (mP (l2 pIx (eV 0) (eC (.int 0))))) ⟨x0 :: x1 :: some (.r a.p) :: η, s⟩ = some (.d (nmsD bs), s ++ [.fz (nmsD bs)]) := by
  have e1 : iMT (mMeth 0 "now" F_Plan__now (mV 2) maN) ⟨x0 :: x1 :: some (.r a.p) :: η, s⟩ = some (bs.map Bx.d, s) := by
    unfold iMT
    rw [mMeth_of (s := s) (n := a.p) rfl P.ob rfl rfl (F_now P)]; rfl
  have e2 : mcL [none] (iMT (mMeth 0 "now" F_Plan__now (mV 2) maN)) [0] (tgN 0) tmTrue (mP (l2 pIx (eV 0) (eC (.int 0)))) ⟨x0 :: x1 :: some (.r a.p) :: η, s⟩ = some (.r s.length, s ++ [.lst ((bs.map fun b => PyData.str b.nm).map D.d)]) := by
    unfold mcL
    rw [e1, Option.bind_some]
    have := names_go s bs [] (by have := v.len; show 0 + bs.length ≤ 1000; omega)
    rw [List.nil_append] at this
    exact (congrArg (fun o => Option.bind o fun s2 => some (D.r s.length, s2)) this)
  have e3 := mFz_lst e2 (by rw [List.getElem?_append_right (Nat.le_refl _), Nat.sub_self]; rfl) (dAll_map _)
  rw [List.set_append_right _ _ (Nat.le_refl _), Nat.sub_self] at e3
  exact e3
theorem Pl.app (P : Pl s a (SD bs) dn un) (t : Sto) : Pl (s ++ t) a (SD bs) dn un := P.frame fun i hi => List.getElem?_append_left (P.lt hi)
theorem Mv.app (t : Sto) : Mv s (s ++ t) a a := ⟨by rw [List.length_append]; omega, fun i hi _ => List.getElem?_append_left hi, fun _ h => .inl h⟩
end
noncomputable abbrev stE (ns : List Int) (at_ : Int) (a : Ad) (bs : List Bx) (w : Int) (nm : Str) (x y : Option D) : MEn := [some (.d (Sd ns)), some (.d (.int at_)), some (.r a.p), some (.d (nmsD bs)), some (.d (.int w)), some (.d (.str nm)), x, y]
noncomputable def steps : List Str := ["put", "take", "lift", "mark", "lay"]
noncomputable def Step (ns : List Int) (at_ : Int) (bs : List Bx) (w : Str) (bs' : List Bx) : Prop := w ∈ steps ∧ VB bs' ∧ ∀ (s : Sto) (a : Ad) (dn un : List (Str × PyData)), Pl s a (SD bs) dn un → dn.length ≤ 1000 →
  ∃ s' a', F__law_step [.d (Sd ns), .d (.int at_), .r a.p] s = some (.d .none, s') ∧ a'.p = a.p ∧ Pl s' a' (SD bs') (dn ++ [(w, SD bs)]) [] ∧ Mv s s' a a'
section
variable {ns : List Int} (hn : ns.length ≤ 63)
include hn
theorem step_of {at_ : Int} {bs : List Bx} (v : VB bs) {way : Nat} {nm : Str} (h1 : F__law_drawn [Sd ns, .int at_, .int 6] = some (.int (way : Int)))
    (h2 : ∀ x2 : Sl, vIf (bT (l2 pNe (eV 3) (oE (fun η => (aN η).bind gL)))) (l2 pIx (eV 3) (lA F__law_drawn (aC (eV 0) (aC (l2 pAdd (eV 1) (eC (.int 1))) (aC (lA pLen (aC (eV 3) aN)) aN))))) (eC (.str "")) [.val (Sd ns), .val (.int at_), x2, .val (nmsD bs), .val (.int (way : Int)), .un, .un, .un] = some (.str nm))
    {w : Str} {bs' : List Bx} (hw : w ∈ steps) (v' : VB bs') (h3 : ∀ (s : Sto) (a : Ad) (dn un : List (Str × PyData)), Pl s a (SD bs) dn un → dn.length ≤ 1000 → ∃ η s', stepB ⟨stE ns at_ a bs (way : Int) nm none none, s⟩ = some (.nx ⟨η, s'⟩) ∧ Did s s' a (SD bs) (SD bs') dn w) : Step ns at_ bs w bs' := by
  refine ⟨hw, v', fun s a dn un P hd => ?_⟩
  obtain ⟨η, s', e, q1, q2⟩ := h3 _ a dn un (P.app [.fz (nmsD bs)]) hd
  refine ⟨s', ⟨a.p, a.n, (s ++ [Cell.fz (nmsD bs)]).length⟩, ?_, rfl, q1, (Mv.app _).trans q2⟩
  refine mRunN (w1 := ⟨η, s'⟩) rfl (show g__law_step F_Plan__now F__law_drawn F_Plan__take F_Plan__lift F_Plan__mark F_Plan__lay F_Plan__put ⟨[some (.d (Sd ns)), some (.d (.int at_)), some (.r a.p), none, none, none, none, none], s⟩ = _ from ?_)
  refine mSeq_of (w1 := ⟨[some (.d (Sd ns)), some (.d (.int at_)), some (.r a.p), some (.d (nmsD bs)), none, none, none, none], s ++ [.fz (nmsD bs)]⟩) (mSet_of (names_ok v P)) ?_
  refine mSeq_of (w1 := ⟨[some (.d (Sd ns)), some (.d (.int at_)), some (.r a.p), some (.d (nmsD bs)), some (.d (.int (way : Int))), none, none, none], s ++ [.fz (nmsD bs)]⟩) (mSet_of (d := .d (.int (way : Int))) (mP_of (lA_of (ds := [Sd ns, .int at_, .int 6]) (aC_of rfl (aC_of rfl (aC_of rfl rfl))) h1))) ?_
  have z : mSet 5 (mP (vIf (bT (l2 pNe (eV 3) (oE (fun η => (aN η).bind gL)))) (l2 pIx (eV 3) (lA F__law_drawn (aC (eV 0) (aC (l2 pAdd (eV 1) (eC (.int 1))) (aC (lA pLen (aC (eV 3) aN)) aN))))) (eC (.str "")))) ⟨[some (.d (Sd ns)), some (.d (.int at_)), some (.r a.p), some (.d (nmsD bs)), some (.d (.int (way : Int))), none, none, none], s ++ [.fz (nmsD bs)]⟩ = some (.nx ⟨stE ns at_ a bs (way : Int) nm none none, s ++ [.fz (nmsD bs)]⟩) := mSet_of (d := .d (.str nm)) (mP_of (h2 _))
  refine mSeq_of z ?_
  exact e
end
theorem cond_ok {ns : List Int} {at_ : Int} {a : Ad} {bs : List Bx} {way : Nat} {nm : Str} (ok : PyData.strOk nm = true) {x y : Option D} {s : Sto} (k : Nat) : tPv (bAnd (bT (l2 pEq (eV 4) (eC (.int (k : Int))))) (bT (l2 pNe (eV 5) (eC (.str ""))))) ⟨stE ns at_ a bs (way : Int) nm x y, s⟩ = some ((decide (way = k) && !decide (nm = "")), s) := by
  refine tPv_of (bAnd_of (bT_of (l2_of rfl rfl ((pEq_int _ _).trans ?_))) (bT_of (l2_of rfl rfl (pNe_str ok (by decide +kernel)))))
  congr 2
  rw [Bool.eq_iff_iff, beq_iff_eq, decide_eq_true_eq]
  exact Int.ofNat_inj
theorem sub_len {α : Type} [DecidableEq α] : ∀ (l m : List α), l.Nodup → (∀ x ∈ l, x ∈ m) → l.length ≤ m.length
  | [], _, _, _ => Nat.zero_le _
  | x :: r, m, hd, hs => by
    obtain ⟨h1, h2⟩ := List.nodup_cons.mp hd
    have ih := sub_len r (m.erase x) h2 fun y hy => (List.mem_erase_of_ne (by rintro rfl; exact h1 hy)).mpr (hs y (List.mem_cons_of_mem _ hy))
    rw [List.length_erase_of_mem (hs x List.mem_cons_self)] at ih
    have := List.length_pos_of_mem (hs x List.mem_cons_self)
    rw [List.length_cons]
    omega
noncomputable def let12 : List Str := ["x", "y", "z", "w", "v", "u", "t", "s", "r", "q", "p", "o"]
theorem let12_nd : let12.Nodup := by decide +kernel
theorem let12_ok : ∀ x ∈ let12, PyData.strOk x = true ∧ (1 ≤ x.length ∧ x.length ≤ 3) := by decide +kernel
theorem fresh_ex {bs : List Bx} (h : bs.length < 12) : ∃ f r, let12.filter (fun x => !decide (x ∈ bs.map (·.nm))) = f :: r ∧ f ∈ let12 ∧ f ∉ bs.map (·.nm) := by
  cases e : let12.filter (fun x => !decide (x ∈ bs.map (·.nm))) with
  | nil =>
    have := sub_len let12 (bs.map (·.nm)) let12_nd fun x hx => by
      have z := List.filter_eq_nil_iff.mp e x hx
      simpa using z
    rw [List.length_map] at this
    have h12 : let12.length = 12 := rfl
    omega
  | cons f r =>
    have hm : f ∈ let12.filter (fun x => !decide (x ∈ bs.map (·.nm))) := by rw [e]; exact List.mem_cons_self
    obtain ⟨h1, h2⟩ := List.mem_filter.mp hm
    exact ⟨f, r, rfl, h1, by simpa using h2⟩
theorem pIn_names {bs : List Bx} (v : VB bs) {x : Str} (hx : PyData.strOk x = true) : pIn true (.str x) (nmsD bs) = some (.bool (!decide (x ∈ bs.map (·.nm)))) := by
  unfold pIn nmsD
  dsimp only
  have hf : (bs.map fun b => PyData.str b.nm).all flatD = true := by
    rw [List.all_eq_true]
    intro y hy
    obtain ⟨b, _, rfl⟩ := List.mem_map.mp hy
    rfl
  rw [if_pos ⟨rfl, hf⟩]
  congr 2
  rw [if_pos rfl]
  congr 1
  rw [Bool.eq_iff_iff, List.any_eq_true, decide_eq_true_eq, List.mem_map]
  constructor
  · rintro ⟨y, hy, e⟩
    obtain ⟨b, hb, rfl⟩ := List.mem_map.mp hy
    refine ⟨b, hb, ?_⟩
    simpa [PyData.eqv, str_dec] using e
  · rintro ⟨b, hb, e⟩
    exact ⟨.str b.nm, List.mem_map.mpr ⟨b, hb, rfl⟩, by simp [PyData.eqv, str_dec, e]⟩
section
variable {ns : List Int} (hn : ns.length ≤ 63)
include hn
theorem fin_ok {at_ : Int} (h0 : 0 ≤ at_) {bs : List Bx} (v : VB bs) (way : Nat) {nm : Str} (hs : bs.length < 12 → nm = "" ∨ nm ∈ bs.map (·.nm)) (hf : ¬ bs.length < 12 → ∃ (i0 : Nat) (b0 : Bx), bs[i0]? = some b0 ∧ b0.nm = nm) (ok : PyData.strOk nm = true) (hc : ∀ k, k < 4 → (decide (way = k) && !decide (nm = "")) = false) :
    ∃ w bs', w ∈ steps ∧ VB bs' ∧ ∀ (s : Sto) (a : Ad) (dn un : List (Str × PyData)), Pl s a (SD bs) dn un → dn.length ≤ 1000 → ∃ η s', stepB ⟨stE ns at_ a bs (way : Int) nm none none, s⟩ = some (.nx ⟨η, s'⟩) ∧ Did s s' a (SD bs) (SD bs') dn w := by
  have c : ∀ (k : Nat) (a : Ad) (s : Sto), k < 4 → tPv (bAnd (bT (l2 pEq (eV 4) (eC (.int (k : Int))))) (bT (l2 pNe (eV 5) (eC (.str ""))))) ⟨stE ns at_ a bs (way : Int) nm none none, s⟩ = some (false, s) := fun k a s hk => by rw [cond_ok ok k, hc k hk]
  have e12 : ∀ (a : Ad) (s : Sto), tPv (bT (l2 pLt (lA pLen (aC (eV 3) aN)) (eC (.int 12)))) ⟨stE ns at_ a bs (way : Int) nm none none, s⟩ = some (decide (bs.length < 12), s) := fun a s => by
    refine tPv_of (bT_of (l2_of (lA_of (aC_of rfl rfl) rfl) rfl ?_))
    show some (PyData.bool (decide (((bs.map fun b => PyData.str b.nm).length : Int) < 12))) = _
    rw [List.length_map]
    congr 2
    rw [decide_eq_decide]
    omega
  by_cases hl : bs.length < 12
  · obtain ⟨f, r, hfr, hf1, hf2⟩ := fresh_ex hl
    obtain ⟨r1, _, d1⟩ := drawn_ok hn (k := at_ + 4) (m := 9) (by omega) (by decide)
    obtain ⟨r2, _, d2⟩ := drawn_ok hn (k := at_ + 5) (m := 9) (by omega) (by decide)
    have hb : VB (bs ++ [⟨f, nm, 1, 1, r1, r2, ""⟩]) := v.more hl hf2 (hs hl) ⟨(let12_ok f hf1).2, (let12_ok f hf1).1, by show PyData.strOk ("" : Str) = true; decide +kernel⟩
    have hwb := B_with v (b := ⟨f, nm, 1, 1, r1, r2, ""⟩) hl hf2 (hs hl) (let12_ok f hf1).1 ok
    refine ⟨"put", _, by decide +kernel, hb, fun s a dn un P hd => ?_⟩
    obtain ⟨s', e, q⟩ := M_put P hd hwb
    refine ⟨stE ns at_ a bs (way : Int) nm (some (.d (.list ((f :: r).map PyData.str)))) (some (.d (.tuple [.int (r1 : Int), .int (r2 : Int)]))), s', mIfF (c 0 a s (by decide)) (mIfF (c 1 a s (by decide)) (mIfF (c 2 a s (by decide)) (mIfF (c 3 a s (by decide)) (mIfT ((e12 a s).trans (by rw [decide_eq_true hl])) ?_)))), q⟩
    refine mSeq_of (w1 := ⟨stE ns at_ a bs (way : Int) nm (some (.d (.list ((f :: r).map PyData.str)))) none, s⟩) (mSet_of (mC_of ?_)) (mSeq_of (w1 := ⟨stE ns at_ a bs (way : Int) nm (some (.d (.list ((f :: r).map PyData.str)))) (some (.d (.tuple [.int (r1 : Int), .int (r2 : Int)]))), s⟩) (mSet_of (d := .d (.tuple [.int (r1 : Int), .int (r2 : Int)])) (mP_of (lA_of (aC_of (lA_of (aC_of rfl (aC_of (l2_of rfl rfl rfl) (aC_of rfl rfl))) d1) (aC_of (lA_of (aC_of rfl (aC_of (l2_of rfl rfl rfl) (aC_of rfl rfl))) d2) rfl)) (tup1_ok (by simp))))) (mExp_of (mMeth_of rfl P.ob rfl (maC_of (s1 := s) (mP_of ?_) maN_of) e)))
    · refine comp_eq (ds := let12.map PyData.str) (lI_of rfl rfl) (by decide) ?_
      rw [← hfr]
      exact cGo_map (t := tgN 0) (p := bT (l2 (pIn true) (eV 0) (eV 1))) (f := eV 0) (η := [.un, .val (nmsD bs)]) PyData.str (fun x => !decide (x ∈ bs.map (·.nm))) PyData.str let12 fun x hx => ⟨[.val (.str x), .val (nmsD bs)], rfl, bT_of (l2_of rfl rfl (pIn_names v (let12_ok x hx).1)), fun _ => rfl⟩
    · exact l2_of (l2_of (lA_of (aC_of (l2_of rfl rfl (ix0 _ _)) (aC_of rfl (aC_of rfl (aC_of rfl rfl)))) (tup1_ok (by simp))) rfl (addT (by simp))) (lA_of (aC_of rfl rfl) (tup1_ok (by simp))) (addT (by simp))
  · obtain ⟨i0, b0, hi, rfl⟩ := hf hl
    refine ⟨"take", _, by decide +kernel, cutB_ok v hi, fun s a dn un P hd => ?_⟩
    obtain ⟨s', e, q⟩ := M_take P hd (B_below v hi) (B_cut v hi)
    exact ⟨stE ns at_ a bs (way : Int) b0.nm none none, s', mIfF (c 0 a s (by decide)) (mIfF (c 1 a s (by decide)) (mIfF (c 2 a s (by decide)) (mIfF (c 3 a s (by decide)) (mIfF ((e12 a s).trans (by rw [decide_eq_false hl])) (mExp_of (mMeth_of rfl P.ob rfl (maC_of (s1 := s) (mP_of rfl) maN_of) e)))))), q⟩
end
end K54
namespace K54
open PySem L2 L2.PU
theorem nmsD_eq (bs : List Bx) : nmsD bs = .list ((bs.map (·.nm)).map PyData.str) := by unfold nmsD; rw [List.map_map]; rfl
theorem shaped_nms {bs : List Bx} (v : VB bs) : SeqAt.shaped (nmsD bs) = true := by
  rw [nmsD_eq]
  refine shaped_strs fun x hx => ?_
  obtain ⟨b, hb, rfl⟩ := List.mem_map.mp hx
  exact (v.one b hb).2.1
theorem ne_nil {bs : List Bx} (v : VB bs) : pNe (nmsD bs) (.list []) = some (.bool (!bs.isEmpty)) := by
  have h := shaped_nms v
  unfold pNe
  rw [if_pos ⟨h, by decide +kernel⟩]
  cases bs with
  | nil => rfl
  | cons b r => simp [nmsD, PyData.eqv, PyData.eqvAll]
noncomputable def mk6 : List Str := ["", "c", "f", "h", "l", "cf"]
theorem mk6_ok : ∀ x ∈ mk6, PyData.strOk x = true := by decide +kernel
section
variable {ns : List Int} (hn : ns.length ≤ 63)
include hn
theorem step_ex {at_ : Int} (h0 : 0 ≤ at_) {bs : List Bx} (v : VB bs) : ∃ w bs', Step ns at_ bs w bs' := by
  obtain ⟨way, hw, dw⟩ := drawn_ok hn (k := at_) (m := 6) h0 (by decide)
  by_cases he : bs = []
  · have h2 : ∀ x2 : Sl, vIf (bT (l2 pNe (eV 3) (oE (fun η => (aN η).bind gL)))) (l2 pIx (eV 3) (lA F__law_drawn (aC (eV 0) (aC (l2 pAdd (eV 1) (eC (.int 1))) (aC (lA pLen (aC (eV 3) aN)) aN))))) (eC (.str "")) [.val (Sd ns), .val (.int at_), x2, .val (nmsD bs), .val (.int (way : Int)), .un, .un, .un] = some (.str "") := fun x2 => by
      rw [vIf_of (b := false) (bT_of (l2_of rfl (oE_of rfl) ((ne_nil v).trans (by rw [he]; rfl)))), if_neg (by decide)]; rfl
    obtain ⟨w, bs', q1, q2, q3⟩ := fin_ok hn h0 v way (nm := "") (fun _ => .inl rfl) (fun h => absurd (by rw [he]; decide) h) (by decide +kernel) (fun k _ => by simp)
    exact ⟨w, bs', step_of hn v dw h2 q1 q2 q3⟩
  · have hpos : 0 < bs.length := List.length_pos_iff.mpr he
    obtain ⟨i0, hi0, di⟩ := drawn_ok hn (k := at_ + 1) (m := (bs.length : Int)) (by omega) (by omega)
    have hlt : i0 < bs.length := by omega
    obtain ⟨b0, hb⟩ : ∃ b0, bs[i0]? = some b0 := ⟨bs[i0], List.getElem?_eq_getElem hlt⟩
    have ok := (v.one b0 (List.mem_of_getElem? hb)).2.1
    have hne : b0.nm ≠ "" := fun z => by
      have := (v.one b0 (List.mem_of_getElem? hb)).1.1
      rw [z] at this
      exact absurd this (by decide)
    have h2 : ∀ x2 : Sl, vIf (bT (l2 pNe (eV 3) (oE (fun η => (aN η).bind gL)))) (l2 pIx (eV 3) (lA F__law_drawn (aC (eV 0) (aC (l2 pAdd (eV 1) (eC (.int 1))) (aC (lA pLen (aC (eV 3) aN)) aN))))) (eC (.str "")) [.val (Sd ns), .val (.int at_), x2, .val (nmsD bs), .val (.int (way : Int)), .un, .un, .un] = some (.str b0.nm) := fun x2 => by
      rw [vIf_of (b := true) (bT_of (l2_of rfl (oE_of rfl) ((ne_nil v).trans (by cases bs with | nil => exact absurd rfl he | cons _ _ => rfl)))), if_pos rfl]
      refine l2_of (y := .int (i0 : Int)) rfl (lA_of (ds := [Sd ns, .int (at_ + 1), .int (bs.length : Int)]) (aC_of rfl (aC_of (l2_of rfl rfl rfl) (aC_of (lA_of (aC_of rfl rfl) ?_) rfl))) di) ?_
      · show some (PyData.int (((bs.map fun b => PyData.str b.nm).length : Nat) : Int)) = _
        rw [List.length_map]
      · show atI (bs.map fun b => PyData.str b.nm) (i0 : Int) = _
        exact atI_nat (by rw [List.getElem?_map, hb]; rfl)
    have cT : ∀ (k : Nat) (a : Ad) (s : Sto), way = k → tPv (bAnd (bT (l2 pEq (eV 4) (eC (.int (k : Int))))) (bT (l2 pNe (eV 5) (eC (.str ""))))) ⟨stE ns at_ a bs (way : Int) b0.nm none none, s⟩ = some (true, s) := fun k a s hk => by
      rw [cond_ok ok k, decide_eq_true hk, decide_eq_false hne]; rfl
    have cF : ∀ (k : Nat) (a : Ad) (s : Sto), way ≠ k → tPv (bAnd (bT (l2 pEq (eV 4) (eC (.int (k : Int))))) (bT (l2 pNe (eV 5) (eC (.str ""))))) ⟨stE ns at_ a bs (way : Int) b0.nm none none, s⟩ = some (false, s) := fun k a s hk => by
      rw [cond_ok ok k, decide_eq_false hk]; rfl
    by_cases w0 : way = 0
    · refine ⟨"take", _, step_of hn v dw h2 (by decide +kernel) (cutB_ok v hb) fun s a dn un P hd => ?_⟩
      obtain ⟨s', e, q⟩ := M_take P hd (B_below v hb) (B_cut v hb)
      exact ⟨stE ns at_ a bs (way : Int) b0.nm none none, s', mIfT (cT 0 a s w0) (mExp_of (mMeth_of rfl P.ob rfl (maC_of (s1 := s) (mP_of rfl) maN_of) e)), q⟩
    by_cases w1 : way = 1
    · refine ⟨"lift", _, step_of hn v dw h2 (by decide +kernel) (raiB_ok v hb) fun s a dn un P hd => ?_⟩
      obtain ⟨s', e, q⟩ := M_lift P hd (B_raised v hb)
      exact ⟨stE ns at_ a bs (way : Int) b0.nm none none, s', mIfF (cF 0 a s w0) (mIfT (cT 1 a s w1) (mExp_of (mMeth_of rfl P.ob rfl (maC_of (s1 := s) (mP_of rfl) maN_of) e))), q⟩
    by_cases w2 : way = 2
    · obtain ⟨r, hr, dr⟩ := drawn_ok hn (k := at_ + 2) (m := 6) (by omega) (by decide)
      have hr6 : r < mk6.length := by show r < 6; omega
      obtain ⟨m, hm⟩ : ∃ m, mk6[r]? = some m := ⟨mk6[r], List.getElem?_eq_getElem hr6⟩
      have okm := mk6_ok m (List.mem_of_getElem? hm)
      refine ⟨"mark", _, step_of hn v dw h2 (by decide +kernel) (chgB_ok v hb (f := fun b => { b with mr := m }) fun b _ => ⟨rfl, rfl, okm⟩) fun s a dn un P hd => ?_⟩
      obtain ⟨s', e, q⟩ := M_mark P hd (B_box v hb) (B_marked v hb m)
      have ea : mP (l2 pIx (eC (.list [.str "", .str "c", .str "f", .str "h", .str "l", .str "cf"])) (lA F__law_drawn (aC (eV 0) (aC (l2 pAdd (eV 1) (eC (.int 2))) (aC (eC (.int 6)) aN))))) ⟨stE ns at_ a bs (way : Int) b0.nm none none, s⟩ = some (.d (.str m), s) := by
        refine mP_of (l2_of (x := .list (mk6.map PyData.str)) (y := .int (r : Int)) rfl (lA_of (aC_of rfl (aC_of (l2_of rfl rfl rfl) (aC_of rfl rfl))) dr) ?_)
        exact atI_nat (by rw [List.getElem?_map, hm]; rfl)
      exact ⟨stE ns at_ a bs (way : Int) b0.nm none none, s', mIfF (cF 0 a s w0) (mIfF (cF 1 a s w1) (mIfT (cT 2 a s w2) (mExp_of (mMeth_of rfl P.ob rfl (maC_of (s1 := s) (mP_of rfl) (maC_of ea maN_of)) e)))), q⟩
    by_cases w3 : way = 3
    · obtain ⟨r1, _, d1⟩ := drawn_ok hn (k := at_ + 2) (m := 9) (by omega) (by decide)
      obtain ⟨r2, _, d2⟩ := drawn_ok hn (k := at_ + 3) (m := 9) (by omega) (by decide)
      refine ⟨"lay", _, step_of hn v dw h2 (by decide +kernel) (chgB_ok v hb (f := fun b => { b with l := (r1 : Int) - 4, t := (r2 : Int) - 4 }) fun b hb => ⟨rfl, rfl, (v.one b hb).2.2⟩) fun s a dn un P hd => ?_⟩
      obtain ⟨s', e, q⟩ := M_lay P hd (B_box v hb) (B_put v hb ((r1 : Int) - 4) ((r2 : Int) - 4))
      have e1 : mP (l2 pSub (lA F__law_drawn (aC (eV 0) (aC (l2 pAdd (eV 1) (eC (.int 2))) (aC (eC (.int 9)) aN)))) (eC (.int 4))) ⟨stE ns at_ a bs (way : Int) b0.nm none none, s⟩ = some (.d (.int ((r1 : Int) - 4)), s) :=
        mP_of (l2_of (x := .int (r1 : Int)) (lA_of (aC_of rfl (aC_of (l2_of rfl rfl rfl) (aC_of rfl rfl))) d1) rfl rfl)
      have e2 : mP (l2 pSub (lA F__law_drawn (aC (eV 0) (aC (l2 pAdd (eV 1) (eC (.int 3))) (aC (eC (.int 9)) aN)))) (eC (.int 4))) ⟨stE ns at_ a bs (way : Int) b0.nm none none, s⟩ = some (.d (.int ((r2 : Int) - 4)), s) :=
        mP_of (l2_of (x := .int (r2 : Int)) (lA_of (aC_of rfl (aC_of (l2_of rfl rfl rfl) (aC_of rfl rfl))) d2) rfl rfl)
      exact ⟨stE ns at_ a bs (way : Int) b0.nm none none, s', mIfF (cF 0 a s w0) (mIfF (cF 1 a s w1) (mIfF (cF 2 a s w2) (mIfT (cT 3 a s w3) (mExp_of (mMeth_of rfl P.ob rfl (maC_of (s1 := s) (mP_of rfl) (maC_of e1 (maC_of e2 maN_of))) e))))), q⟩
    obtain ⟨w, bs', q1, q2, q3⟩ := fin_ok hn h0 v way (nm := b0.nm) (fun _ => .inr (List.mem_map.mpr ⟨b0, List.mem_of_getElem? hb, rfl⟩)) (fun _ => ⟨i0, b0, hb, rfl⟩) ok (fun k hk => by rw [decide_eq_false (show ¬ way = k by omega)]; rfl)
    exact ⟨w, bs', step_of hn v dw h2 q1 q2 q3⟩
end
end K54
namespace K54
open PySem L2 L2.PU
noncomputable def dnL (W : Nat → Str) (S : Nat → PyData) (k : Nat) : List (Str × PyData) := (List.range k).map fun i => (W (i + 1), S i)
noncomputable def unL (W : Nat → Str) (S : Nat → PyData) (m k : Nat) : List (Str × PyData) := (List.range (m - k)).map fun i => (W (m - i), S (m - i))
theorem dnL_len (W : Nat → Str) (S : Nat → PyData) (k : Nat) : (dnL W S k).length = k := by unfold dnL; rw [List.length_map, List.length_range]
theorem unL_len (W : Nat → Str) (S : Nat → PyData) (m k : Nat) : (unL W S m k).length = m - k := by unfold unL; rw [List.length_map, List.length_range]
theorem dnL_succ (W : Nat → Str) (S : Nat → PyData) (k : Nat) : dnL W S (k + 1) = dnL W S k ++ [(W (k + 1), S k)] := by
  unfold dnL
  rw [List.range_succ, List.map_append]; rfl
theorem unL_succ (W : Nat → Str) (S : Nat → PyData) {m k : Nat} (h : k < m) : unL W S m k = unL W S m (k + 1) ++ [(W (k + 1), S (k + 1))] := by
  unfold unL
  rw [show m - k = (m - (k + 1)) + 1 by omega, List.range_succ, List.map_append]
  show _ ++ [(W (m - (m - (k + 1))), S (m - (m - (k + 1))))] = _
  rw [show m - (m - (k + 1)) = k + 1 by omega]
theorem unL_self (W : Nat → Str) (S : Nat → PyData) (m : Nat) : unL W S m m = [] := by unfold unL; rw [Nat.sub_self]; rfl
theorem dnL_congr {W W' : Nat → Str} {S S' : Nat → PyData} {k : Nat} (h1 : ∀ i, i ≤ k → W i = W' i) (h2 : ∀ i, i ≤ k → S i = S' i) : dnL W S k = dnL W' S' k := by
  unfold dnL
  refine List.map_congr_left fun i hi => ?_
  have := List.mem_range.mp hi
  rw [h1 (i + 1) (by omega), h2 i (by omega)]
noncomputable abbrev At (s : Sto) (a : Ad) (W : Nat → Str) (S : Nat → PyData) (m k : Nat) : Prop := Pl s a (S k) (dnL W S k) (unL W S m k)
section
variable {s : Sto} {a : Ad} {W : Nat → Str} {S : Nat → PyData} {m k : Nat}
theorem At.back (A : At s a W S m (k + 1)) (hk : k < m) (hm : m ≤ 100) : ∃ s', F_Plan__back [.r a.p] s = some (.d (.str (W (k + 1))), s') ∧ At s' a W S m k ∧ Mv s s' a a := by
  have P : Pl s a (S (k + 1)) (dnL W S k ++ [(W (k + 1), S k)]) (unL W S m (k + 1)) := by rw [← dnL_succ]; exact A
  obtain ⟨s', e, q, mv⟩ := F_back P (by rw [unL_len]; omega)
  rw [← unL_succ W S hk] at q
  exact ⟨s', e, q, mv⟩
theorem At.forth (A : At s a W S m k) (hk : k < m) (hm : m ≤ 100) : ∃ s', F_Plan__forth [.r a.p] s = some (.d (.str (W (k + 1))), s') ∧ At s' a W S m (k + 1) ∧ Mv s s' a a := by
  have P : Pl s a (S k) (dnL W S k) (unL W S m (k + 1) ++ [(W (k + 1), S (k + 1))]) := by rw [← unL_succ W S hk]; exact A
  obtain ⟨s', e, q, mv⟩ := F_forth P (by rw [dnL_len]; omega)
  rw [← dnL_succ] at q
  exact ⟨s', e, q, mv⟩
noncomputable def szK (m k : Nat) : PyData := .tuple [.int (k : Int), .int ((m : Int) - (k : Int))]
theorem At.sizes (A : At s a W S m k) (hk : k ≤ m) : F_Plan__sizes [.r a.p] s = some (.d (szK m k), s) := by
  rw [F_sizes A]
  unfold szD szK
  rw [dnL_len, unL_len, show ((m - k : Nat) : Int) = (m : Int) - k by omega]
end
theorem shaped_sz (m k : Nat) : SeqAt.shaped (szK m k) = true := by simp [szK, SeqAt.shaped, PyData.canLay0, PyData.canLayAll0, PyData.depth, PyData.depthAll]
theorem shaped_S {bs : List Bx} (v : VB bs) : SeqAt.shaped (SD bs) = true := by
  obtain ⟨h1, h2⟩ := v.lay
  unfold SeqAt.shaped
  rw [h1]
  simp
  omega
theorem shaped_2 {bs : List Bx} (v : VB bs) (m k : Nat) : SeqAt.shaped (.tuple [SD bs, szK m k]) = true := by
  obtain ⟨h1, h2⟩ := v.lay
  simp [szK, SeqAt.shaped, PyData.canLay0, PyData.canLayAll0, PyData.depth, PyData.depthAll, h1]
  omega
theorem rng_go {ks : List Nat} {t : En → PyData → Option En} {body : Wd → Option MOut} (Z : Nat → PyData) (Inv : Nat → Wd → Prop) (n : Nat) (st : ∀ k w, k < n → Inv k w → ∃ w1 w2, mTg ks t w (Z k) = some w1 ∧ body w1 = some (.nx w2) ∧ Inv (k + 1) w2) {w : Wd} (h0 : Inv 0 w) :
    ∃ w', mGo ks t body ((List.range n).map Z) w = some (.nx w') ∧ Inv n w' := by
  have key : ∀ (j k : Nat) (w : Wd), k + j = n → Inv k w → ∃ w', mGo ks t body ((List.range' k j).map Z) w = some (.nx w') ∧ Inv n w' := by
    intro j
    induction j with
    | zero => intro k w e h; exact ⟨w, rfl, by rw [← e]; exact h⟩
    | succ j ih =>
      intro k w e h
      obtain ⟨w1, w2, h1, h2, h3⟩ := st k w (by omega) h
      obtain ⟨w', e1, e2⟩ := ih (k + 1) w2 (by omega) h3
      refine ⟨w', ?_, e2⟩
      rw [List.range'_succ, List.map_cons]
      unfold mGo
      rw [h1, Option.bind_some, h2, Option.bind_some]
      exact e1
  rw [List.range_eq_range']
  exact key n 0 w (by omega) h0
theorem eV_fz {w : Wd} {i n : Nat} {x : PyData} (h : w.η[i]? = some (some (.r n))) (hf : w.s[n]? = some (.fz x)) : eV i (vw w) = some x := by
  unfold eV vw
  rw [List.getElem?_map, h]
  have : vwS (pD w.s) w.s (some (.r n)) = .val x := by
    unfold vwS pD
    dsimp only
    rw [hf]
  show (match some (vwS (pD w.s) w.s (some (.r n))) with | some (.val d) => some d | _ => none) = _
  rw [this]
open Classical in
noncomputable def nxt (ns : List Int) (at_ : Int) (bs : List Bx) : Str × List Bx := if h : ∃ w bs', Step ns at_ bs w bs' then (h.choose, h.choose_spec.choose) else ("", bs)
theorem nxt_ok {ns : List Int} (hn : ns.length ≤ 63) {at_ : Int} (h0 : 0 ≤ at_) {bs : List Bx} (v : VB bs) : Step ns at_ bs (nxt ns at_ bs).1 (nxt ns at_ bs).2 := by
  have h := step_ex hn h0 v
  unfold nxt
  rw [dif_pos h]
  exact h.choose_spec.choose_spec
noncomputable def Bq (ns : List Int) (bs : List Bx) (b : Int) : Nat → List Bx
  | 0 => bs
  | k + 1 => (nxt ns (b + 6 * (k : Int)) (Bq ns bs b k)).2
noncomputable def Wq (ns : List Int) (bs : List Bx) (b : Int) : Nat → Str
  | 0 => ""
  | k + 1 => (nxt ns (b + 6 * (k : Int)) (Bq ns bs b k)).1
section
variable {ns : List Int} (hn : ns.length ≤ 63) {bs : List Bx} (v : VB bs) {b : Int} (h0 : 0 ≤ b)
include hn v h0
theorem Bq_ok : ∀ k, VB (Bq ns bs b k)
  | 0 => v
  | k + 1 => (nxt_ok hn (show 0 ≤ b + 6 * (k : Int) by omega) (Bq_ok k)).2.1
theorem Bq_step (k : Nat) : Step ns (b + 6 * (k : Int)) (Bq ns bs b k) (Wq ns bs b (k + 1)) (Bq ns bs b (k + 1)) := nxt_ok hn (show 0 ≤ b + 6 * (k : Int) by omega) (Bq_ok hn v h0 k)
end
theorem hist_step {ns : List Int} {at_ : Int} {bs bs' : List Bx} {W : Nat → Str} {S : Nat → PyData} {k : Nat} (st : Step ns at_ bs (W (k + 1)) bs') (e1 : S k = SD bs) (e2 : S (k + 1) = SD bs') (hk : k ≤ 100) {s : Sto} {a : Ad} {un : List (Str × PyData)} (P : Pl s a (S k) (dnL W S k) un) :
    ∃ s' a', F__law_step [.d (Sd ns), .d (.int at_), .r a.p] s = some (.d .none, s') ∧ a'.p = a.p ∧ Pl s' a' (S (k + 1)) (dnL W S (k + 1)) [] ∧ Mv s s' a a' := by
  rw [e1] at P
  obtain ⟨s', a', h1, h2, h3, h4⟩ := st.2.2 s a _ _ P (by rw [dnL_len]; omega)
  refine ⟨s', a', h1, h2, ?_, h4⟩
  rw [dnL_succ, e2, e1]; exact h3
end K54
namespace K54
open PySem L2 L2.PU
theorem Mv.setn {s s' : Sto} {a a' : Ad} (m : Mv s s' a a') {n : Nat} {x : Cell} (h : s.length ≤ n) : Mv s (s'.set n x) a a' := ⟨by rw [List.length_set]; exact m.len, fun i hi ho => by rw [List.getElem?_set_ne (by omega)]; exact m.kp i hi ho, m.ow⟩
theorem Pl.setn {s : Sto} {a : Ad} {sc : PyData} {dn un : List (Str × PyData)} (P : Pl s a sc dn un) {n : Nat} {x : Cell} (h : n ∉ a.l) : Pl (s.set n x) a sc dn un := P.frame fun i hi => List.getElem?_set_ne (by rintro rfl; exact h hi)
theorem Pl.apps {s : Sto} {a : Ad} {sc : PyData} {dn un : List (Str × PyData)} (P : Pl s a sc dn un) (t : Sto) : Pl (s ++ t) a sc dn un := P.frame fun i hi => List.getElem?_append_left (P.lt hi)
theorem lk_now (sc : PyData) (n u : Nat) : (pf sc n u).lookup ("now" : Str) = none ∧ (pf sc n u).lookup ("sizes" : Str) = none ∧ (pf sc n u).lookup ("back" : Str) = none ∧ (pf sc n u).lookup ("forth" : Str) = none ∧ (pf sc n u).lookup ("twin" : Str) = none := ⟨rfl, rfl, rfl, rfl, rfl⟩
section
variable {w : Wd} {s s' : Sto} {a : Ad} {sc : PyData} {dn un : List (Str × PyData)} {W : Nat → Str} {S : Nat → PyData} {m k i : Nat} {d : D}
theorem c_now {o : MF} (P : Pl s a sc dn un) (h : o w = some (.r a.p, s)) : mMeth 0 "now" F_Plan__now o maN w = some (.d sc, s) := mMeth_of h P.ob (lk_now ..).1 rfl (F_now P)
theorem c_sizes {o : MF} (A : At s a W S m k) (hk : k ≤ m) (h : o w = some (.r a.p, s)) : mMeth 0 "sizes" F_Plan__sizes o maN w = some (.d (szK m k), s) := mMeth_of h A.ob (lk_now ..).2.1 rfl (A.sizes hk)
theorem c_back {o : MF} (P : Pl s a sc dn un) (h : o w = some (.r a.p, s)) (e : F_Plan__back [.r a.p] s = some (d, s')) : mMeth 0 "back" F_Plan__back o maN w = some (d, s') := mMeth_of h P.ob (lk_now ..).2.2.1 rfl e
theorem c_forth {o : MF} (P : Pl s a sc dn un) (h : o w = some (.r a.p, s)) (e : F_Plan__forth [.r a.p] s = some (d, s')) : mMeth 0 "forth" F_Plan__forth o maN w = some (d, s') := mMeth_of h P.ob (lk_now ..).2.2.2.1 rfl e
theorem c_twin {o : MF} (P : Pl s a sc dn un) (h : o w = some (.r a.p, s)) (e : F_Plan__twin [.r a.p] s = some (d, s')) : mMeth 0 "twin" F_Plan__twin o maN w = some (d, s') := mMeth_of h P.ob (lk_now ..).2.2.2.2 rfl e
theorem ne_same {f g : MF} {s1 s2 : Sto} {x : PyData} (h1 : f w = some (.d x, s1)) (h2 : g ⟨w.η, s1⟩ = some (.d x, s2)) (hx : SeqAt.shaped x = true) : mB (mOpL pNe f g) w = some (false, s2) := mB_of (mOpL_of h1 h2 rfl rfl (pNe_self hx) rfl)
theorem eq_same {f g : MF} {s1 s2 : Sto} {x : PyData} (h1 : f w = some (.d x, s1)) (h2 : g ⟨w.η, s1⟩ = some (.d x, s2)) (hx : SeqAt.shaped x = true) : mOpL pEq f g w = some (.d (.bool true), s2) := mOpL_of h1 h2 rfl rfl (by
  unfold pEq
  rw [if_pos ⟨hx, hx⟩]
  have := pNe_self hx
  unfold pNe at this
  rw [if_pos ⟨hx, hx⟩] at this
  cases e : PyData.eqv x x with
  | true => rfl
  | false => rw [e] at this; cases this) rfl
end
theorem rngD_ok {i j : Int} (h1 : -(2 ^ 58) ≤ i) (h2 : i < 2 ^ 58) (h3 : -(2 ^ 58) ≤ j) (h4 : j < 2 ^ 58) : rngD [.int i, .int j, .int (-1)] = some (rngLd i (i - j).toNat) := if_pos ⟨⟨h1, h2⟩, h3, h4⟩
theorem rng2_ok {i j : Int} (h1 : -(2 ^ 62) ≤ i) (h2 : i < 2 ^ 62) (h3 : -(2 ^ 62) ≤ j) (h4 : j < 2 ^ 62) : rng2 [.int i, .int j] = some (rngL i (j - i).toNat) := if_pos ⟨⟨h1, h2⟩, h3, h4⟩
noncomputable def rowsD (S : Nat → PyData) (m : Nat) : PyData := .list ((List.range (m + 1)).map S)
theorem rows_at (S : Nat → PyData) {m k : Nat} (h : k ≤ m) : pIx (rowsD S m) (.int (k : Int)) = some (S k) := by
  show atI ((List.range (m + 1)).map S) (k : Int) = _
  exact atI_nat (by rw [List.getElem?_map, List.getElem?_range (by omega)]; rfl)
noncomputable def wdsL (W : Nat → Str) (m i : Nat) : List PyData := (List.range i).map fun j => PyData.str (W (m - j))
theorem wdsL_succ (W : Nat → Str) (m i : Nat) : wdsL W m (i + 1) = wdsL W m i ++ [.str (W (m - i))] := by
  unfold wdsL
  rw [List.range_succ, List.map_append]; rfl
theorem wds_at (W : Nat → Str) {m i : Nat} (h : i < m) : pIx (.list (wdsL W m m)) (.int (i : Int)) = some (.str (W (m - i))) := by
  show atI (wdsL W m m) (i : Int) = _
  refine atI_nat ?_
  unfold wdsL
  rw [List.getElem?_map, List.getElem?_range h]; rfl
noncomputable abbrev goE (p : Nat) (R : PyData) (m : Nat) (nw : Nat) (x : Option D) : MEn := [some (.r p), some (.d R), some (.d (.int (m : Int))), some (.r nw), x]
section
variable {a : Ad} {W : Nat → Str} {S : Nat → PyData} {m : Nat} (hm : m ≤ 100) (hS : ∀ k, SeqAt.shaped (S k) = true) (hW : ∀ k, W (k + 1) ∈ steps)
theorem steps_ok : ∀ x ∈ steps, PyData.strOk x = true ∧ pIn true (.str x) (.tuple [.str "put", .str "take", .str "lift", .str "mark", .str "lay"]) = some (.bool false) := by
  intro x hx
  have e : x = "put" ∨ x = "take" ∨ x = "lift" ∨ x = "mark" ∨ x = "lay" := by simpa [steps] using hx
  rcases e with rfl | rfl | rfl | rfl | rfl <;> exact ⟨by decide +kernel, rfl⟩
include hm hS hW
theorem goesA_ok {s0 s : Sto} (m0 : Mv s0 s a a) {nw : Nat} (hnw : s0.length ≤ nw) (hna : nw ∉ a.l) {i : Nat} (hi : i < m) (A : At s a W S m (m - i)) (hw : s[nw]? = some (.lst ((wdsL W m i).map D.d))) :
    ∃ s', goesA ⟨goE a.p (rowsD S m) m nw (some (.d (.int ((m : Int) - 1 - (i : Int))))), s⟩ = some (.nx ⟨goE a.p (rowsD S m) m nw (some (.d (.int ((m : Int) - 1 - (i : Int))))), s'⟩) ∧ Mv s0 s' a a ∧ At s' a W S m (m - (i + 1)) ∧ s'[nw]? = some (.lst ((wdsL W m (i + 1)).map D.d)) := by
  have ek : m - i = m - (i + 1) + 1 := by omega
  rw [ek] at A
  obtain ⟨s1, e1, A1, m1⟩ := A.back (by omega) hm
  have hw1 : s1[nw]? = some (.lst ((wdsL W m i).map D.d)) := by rw [m1.kp nw (lt_of hw) hna]; exact hw
  have eint : (m : Int) - 1 - (i : Int) = ((m - (i + 1) : Nat) : Int) := by omega
  rw [eint]
  have A2 : At (s1.set nw (.lst ((wdsL W m i).map D.d ++ [.d (.str (W (m - (i + 1) + 1)))]))) a W S m (m - (i + 1)) := Pl.setn A1 hna
  refine ⟨s1.set nw (.lst ((wdsL W m i).map D.d ++ [.d (.str (W (m - (i + 1) + 1)))])), ?_, (m0.trans m1).setn hnw, A2, ?_⟩
  · refine mSeq_of (w1 := ⟨goE a.p (rowsD S m) m nw (some (.d (.int ((m - (i + 1) : Nat) : Int)))), s1.set nw (.lst ((wdsL W m i).map D.d ++ [.d (.str (W (m - (i + 1) + 1)))]))⟩) (mExp_of (mAppC_of (s := s) rfl hw (c_back A rfl e1) hw1 (by rw [List.length_map]; unfold wdsL; rw [List.length_map, List.length_range]; omega))) ?_
    refine mIfN (tmOrS (ne_same (c_now A2 rfl) (mP_of (l2_of rfl rfl (rows_at S (by omega)))) (hS _)) (ne_same (c_sizes A2 (by omega) rfl) (mP_of (lA_of (aC_of rfl (aC_of (l2_of rfl rfl rfl) rfl)) (tup1_ok (by simp)))) (shaped_sz _ _)))
  · rw [set_at hw1, wdsL_succ, List.map_append, show m - (i + 1) + 1 = m - i by omega]; rfl
theorem fzW {s : Sto} {n : Nat} {xs : List PyData} (h : s[n]? = some (.lst (xs.map D.d)) ∨ s[n]? = some (.fz (.list xs))) {w : Wd} {f : MF} (h1 : f w = some (.r n, s)) : ∃ s', mFz f w = some (.d (.list xs), s') ∧ s'[n]? = some (.fz (.list xs)) ∧ (∀ i, i ≠ n → s'[i]? = s[i]?) ∧ s'.length = s.length := by
  rcases h with h | h
  · exact ⟨_, mFz_lst h1 h (dAll_map _), set_at h, fun i hi => List.getElem?_set_ne (Ne.symm hi), List.length_set ..⟩
  · refine ⟨s, ?_, h, fun _ _ => rfl, rfl⟩
    unfold mFz
    rw [h1, Option.bind_some]
    dsimp only
    rw [h]
theorem goesB_ok {s0 s : Sto} (m0 : Mv s0 s a a) {nw : Nat} (hnw : s0.length ≤ nw) (hna : nw ∉ a.l) {i : Nat} (hi : i < m) (A : At s a W S m i) (hw : s[nw]? = some (.lst ((wdsL W m m).map D.d)) ∨ s[nw]? = some (.fz (.list (wdsL W m m)))) :
    ∃ s', goesB ⟨goE a.p (rowsD S m) m nw (some (.d (.int (1 + (i : Int))))), s⟩ = some (.nx ⟨goE a.p (rowsD S m) m nw (some (.d (.int (1 + (i : Int))))), s'⟩) ∧ Mv s0 s' a a ∧ At s' a W S m (i + 1) ∧ s'[nw]? = some (.fz (.list (wdsL W m m))) := by
  obtain ⟨s1, e1, A1, m1⟩ := A.forth hi hm
  have hlt : nw < s.length := by rcases hw with h | h <;> exact lt_of h
  have hw1 : s1[nw]? = some (.lst ((wdsL W m m).map D.d)) ∨ s1[nw]? = some (.fz (.list (wdsL W m m))) := by rw [m1.kp nw hlt hna]; exact hw
  have eint : (1 + (i : Int)) = ((i + 1 : Nat) : Int) := by omega
  rw [eint]
  obtain ⟨s2, z1, z2, z3, z4⟩ := fzW hm hS hW hw1 (w := ⟨goE a.p (rowsD S m) m nw (some (.d (.int ((i + 1 : Nat) : Int)))), s1⟩) (f := mV 3) rfl
  have A2 : At s2 a W S m (i + 1) := A1.frame fun j hj => z3 j (by rintro rfl; exact hna hj)
  have m2 : Mv s0 s2 a a := ⟨by rw [z4]; exact (m0.trans m1).len, fun j hj ho => by rw [z3 j (by omega)]; exact (m0.trans m1).kp j hj ho, fun _ h => .inl h⟩
  refine ⟨s2, ?_, m2, A2, z2⟩
  have hx : mOp pIx (mFz (mV 3)) (mP (l2 pSub (eV 2) (eV 4))) ⟨goE a.p (rowsD S m) m nw (some (.d (.int ((i + 1 : Nat) : Int)))), s1⟩ = some (.d (.str (W (i + 1))), s2) := by
    refine mOp_of (x := .list (wdsL W m m)) (y := .int ((m : Int) - ((i + 1 : Nat) : Int))) z1 (mP_of (l2_of rfl rfl rfl)) rfl rfl ?_
    rw [show (m : Int) - ((i + 1 : Nat) : Int) = ((m - (i + 1) : Nat) : Int) by omega, wds_at W (by omega), show m - (m - (i + 1)) = i + 1 by omega]
  refine mSeq_of (mIfN (tmOrS (ne_same (c_forth A rfl e1) hx (shaped_str (steps_ok _ (hW i)).1)) (ne_same (c_now A2 rfl) (mP_of (l2_of rfl rfl (rows_at S (by omega)))) (hS _)))) (mIfN (ne_same (c_sizes A2 (by omega) rfl) (mP_of (lA_of (aC_of rfl (aC_of (l2_of rfl rfl rfl) rfl)) (tup1_ok (by simp)))) (shaped_sz _ _)))
theorem none_go {n : Nat} : ∀ (l : List PyData) (s : Sto), (∀ x ∈ l, ∃ y ∈ steps, x = .str y) → mcGo [0] (tgN 0) (tPv (bT (l2 (pIn true) (eV 0) (lA (fun ds => if ds.length ≤ sizeLine then some (.tuple ds) else none) (aC (eC (.str "put")) (aC (eC (.str "take")) (aC (eC (.str "lift")) (aC (eC (.str "mark")) (aC (eC (.str "lay")) aN))))))))) (mP (eV 0)) n [none] l s = some s
  | [], s, _ => rfl
  | x :: r, s, h => by
    obtain ⟨y, hy, rfl⟩ := h x List.mem_cons_self
    have ih := none_go (n := n) r s fun z hz => h z (List.mem_cons_of_mem _ hz)
    unfold mcGo
    have et : mTg [0] (tgN 0) ⟨[none], s⟩ (.str y) = some ⟨[some (.d (.str y))], s⟩ := mTg_name (show 0 < 1 by decide)
    have ep : tPv (bT (l2 (pIn true) (eV 0) (lA (fun ds => if ds.length ≤ sizeLine then some (.tuple ds) else none) (aC (eC (.str "put")) (aC (eC (.str "take")) (aC (eC (.str "lift")) (aC (eC (.str "mark")) (aC (eC (.str "lay")) aN)))))))) ⟨[some (.d (.str y))], s⟩ = some (false, s) := tPv_of (bT_of (l2_of rfl (lA_of (aC_of rfl (aC_of rfl (aC_of rfl (aC_of rfl (aC_of rfl rfl))))) (tup1_ok (by simp))) (steps_ok y hy).2))
    rw [et, Option.bind_some, ep, Option.bind_some, if_neg Bool.false_ne_true]
    exact ih
theorem goes_ok {s : Sto} (A : At s a W S m m) : ∃ s', F__law_goes [.r a.p, .d (rowsD S m)] s = some (.d (.bool true), s') ∧ At s' a W S m m ∧ Mv s s' a a := by
  have hna : s.length ∉ a.l := fun z => by have := Pl.lt A z; omega
  have st : ∀ j k : Nat, True := fun _ _ => trivial
  obtain ⟨w1, g1, s1, x1, rfl, m1, A1, h1⟩ := rng_go (ks := [4]) (t := tgN 4) (body := goesA) (fun (k : Nat) => PyData.int ((m : Int) - 1 - (k : Int))) (fun i w => ∃ s' x, w = ⟨goE a.p (rowsD S m) m s.length x, s'⟩ ∧ Mv s s' a a ∧ At s' a W S m (m - i) ∧ s'[s.length]? = some (.lst ((wdsL W m i).map D.d))) m
    (fun k w hk ⟨s', x, e, q1, q2, q3⟩ => by
      subst e
      obtain ⟨s2, r1, r2, r3, r4⟩ := goesA_ok hm hS hW q1 (Nat.le_refl _) hna hk q2 q3
      exact ⟨_, _, mTg_name (show 4 < 5 by decide), r1, s2, _, rfl, r2, r3, r4⟩)
    (w := ⟨goE a.p (rowsD S m) m s.length none, s ++ [Cell.lst []]⟩) ⟨s ++ [Cell.lst []], none, rfl, ⟨by rw [List.length_append]; omega, fun i hi _ => List.getElem?_append_left hi, fun _ h => .inl h⟩, Pl.apps A _, by rw [List.getElem?_append_right (Nat.le_refl _), Nat.sub_self]; rfl⟩
  obtain ⟨w2, g2, s2, x2, rfl, m2, A2, h2⟩ := rng_go (ks := [4]) (t := tgN 4) (body := goesB) (fun (k : Nat) => PyData.int (1 + (k : Int))) (fun i w => ∃ s' x, w = ⟨goE a.p (rowsD S m) m s.length x, s'⟩ ∧ Mv s s' a a ∧ At s' a W S m i ∧ (s'[s.length]? = some (.lst ((wdsL W m m).map D.d)) ∨ s'[s.length]? = some (.fz (.list (wdsL W m m))))) m
    (fun k w hk ⟨s', x, e, q1, q2, q3⟩ => by
      subst e
      obtain ⟨s2, r1, r2, r3, r4⟩ := goesB_ok hm hS hW q1 (Nat.le_refl _) hna hk q2 q3
      exact ⟨_, _, mTg_name (show 4 < 5 by decide), r1, s2, _, rfl, r2, r3, .inr r4⟩)
    (w := ⟨goE a.p (rowsD S m) m s.length x1, s1⟩) ⟨s1, x1, rfl, m1, by rw [Nat.sub_self] at A1; exact A1, .inl h1⟩
  obtain ⟨s3, z1, z2, z3, z4⟩ := fzW hm hS hW h2 (w := ⟨goE a.p (rowsD S m) m s.length x2, s2⟩) (f := mV 3) rfl
  have A3 : At s3 a W S m m := A2.frame fun j hj => z3 j (by rintro rfl; exact hna hj)
  have m3 : Mv s s3 a a := ⟨by rw [z4]; exact m2.len, fun j hj ho => by rw [z3 j (by omega)]; exact m2.kp j hj ho, fun _ h => .inl h⟩
  refine ⟨s3 ++ [Cell.lst []], ?_, Pl.apps A3 _, ⟨by rw [List.length_append]; have := m3.len; omega, fun i hi ho => by rw [List.getElem?_append_left (by have := m3.len; omega)]; exact m3.kp i hi ho, fun _ h => .inl h⟩⟩
  refine mRun_of rfl (show g__law_goes F_Plan__back F_Plan__sizes F_Plan__now F_Plan__forth ⟨[some (.r a.p), some (.d (rowsD S m)), none, none, none], s⟩ = _ from ?_)
  have elen : l2 pSub (lA pLen (aC (eV 1) aN)) (eC (.int 1)) (vw ⟨[some (.r a.p), some (.d (rowsD S m)), none, none, none], s⟩) = some (.int (m : Int)) := by
    refine l2_of (x := .int ((m + 1 : Nat) : Int)) (lA_of (aC_of rfl rfl) ?_) rfl ?_
    · show some (PyData.int (((List.range (m + 1)).map S).length : Int)) = _
      rw [List.length_map, List.length_range]
    · show some (PyData.int (((m + 1 : Nat) : Int) - 1)) = _
      congr 2; omega
  refine mSeq_of (w1 := ⟨[some (.r a.p), some (.d (rowsD S m)), some (.d (.int (m : Int))), none, none], s⟩) (mSet_of (mP_of elen)) (mSeq_of (w1 := ⟨goE a.p (rowsD S m) m s.length none, s ++ [Cell.lst []]⟩) (mSet_of mN0) (mSeq_of (mFor_of (s := s ++ [Cell.lst []]) (xs := (List.range m).map fun (k : Nat) => PyData.int ((m : Int) - 1 - (k : Int))) (iPu_of ?_) g1) (mSeq_of (mFor_of (s := s1) (xs := (List.range m).map fun (k : Nat) => PyData.int (1 + (k : Int))) (iPu_of ?_) g2) (mRet_of ?_))))
  · refine bind_of (aC_of (d := .int ((m : Int) - 1)) (l2_of rfl rfl rfl) (aC_of (d := .int (-1)) (l1_of rfl rfl) (aC_of (d := .int (-1)) (l1_of rfl rfl) rfl))) ?_
    rw [rngD_ok (by omega) (by omega) (by decide) (by decide), show (((m : Int) - 1) - (-1)).toNat = m by omega]; rfl
  · refine bind_of (aC_of (d := .int 1) rfl (aC_of (d := .int ((m : Int) + 1)) (l2_of rfl rfl rfl) rfl)) ?_
    rw [rng2_ok (by decide) (by decide) (by omega) (by omega), show (((m : Int) + 1) - 1).toNat = m by omega]; rfl
  · have ei : iM (mFz (mV 3)) ⟨goE a.p (rowsD S m) m s.length x2, s2⟩ = some (wdsL W m m, s3) := by
      unfold iM
      rw [z1]; rfl
    have ec : mcL [none] (iM (mFz (mV 3))) [0] (tgN 0) (tPv (bT (l2 (pIn true) (eV 0) (lA (fun ds => if ds.length ≤ sizeLine then some (.tuple ds) else none) (aC (eC (.str "put")) (aC (eC (.str "take")) (aC (eC (.str "lift")) (aC (eC (.str "mark")) (aC (eC (.str "lay")) aN))))))))) (mP (eV 0)) ⟨goE a.p (rowsD S m) m s.length x2, s2⟩ = some (.r s3.length, s3 ++ [Cell.lst []]) := by
      unfold mcL
      rw [ei, Option.bind_some]
      have := none_go hm hS hW (n := s3.length) (wdsL W m m) (s3 ++ [Cell.lst []]) fun x hx => by
        obtain ⟨j, hj, rfl⟩ := List.mem_map.mp hx
        have := List.mem_range.mp hj
        obtain ⟨q, hq⟩ : ∃ q, m - j = q + 1 := ⟨m - j - 1, by omega⟩
        exact ⟨_, hW q, by rw [hq]⟩
      exact congrArg (fun o => Option.bind o fun s4 => some (D.r s3.length, s4)) this
    refine mOpL_of (x := .list []) (y := .list []) ec (mP_of (oE_of rfl)) ?_ rfl (by rfl) rfl
    show lD (s3 ++ [Cell.lst []]) (.r s3.length) = _
    unfold lD
    dsimp only
    rw [List.getElem?_append_right (Nat.le_refl _), Nat.sub_self]; rfl
end
end K54
namespace K54
open PySem L2 L2.PU
theorem mul6 (k : Nat) : pMul (.int 6) (.int (0 + (k : Int))) = some (.int (6 * (k : Int))) := by
  rw [pMul_ok (mulL (by decide) (by decide)), Int.zero_add]
noncomputable def W2 (ns : List Int) (bs : List Bx) (W : Nat → Str) (k0 : Nat) : Nat → Str := fun i => if i ≤ k0 then W i else Wq ns bs 200 (i - k0)
noncomputable def S2 (ns : List Int) (bs : List Bx) (S : Nat → PyData) (k0 : Nat) : Nat → PyData := fun i => if i ≤ k0 then S i else SD (Bq ns bs 200 (i - k0))
theorem rng1_at {j : Int} {n : Nat} (h : j = (n : Int)) (hn : n ≤ 1000) : rng1 [.int j] = some ((List.range n).map fun (k : Nat) => PyData.int (0 + (k : Int))) := by
  subst h
  rw [rng1_ok (by omega) (by omega)]
  show some (rngL 0 ((n : Int).toNat)) = _
  rw [show ((n : Int).toNat) = n by omega]; rfl
section
variable {ns : List Int} (hn : ns.length ≤ 63) {bs : List Bx} (v : VB bs) {W : Nat → Str} {S : Nat → PyData} {k0 : Nat} (e0 : S k0 = SD bs) (hk : k0 ≤ 50)
include hn v e0 hk
theorem S2_at (j : Nat) : S2 ns bs S k0 (k0 + j) = SD (Bq ns bs 200 j) := by
  unfold S2
  cases j with
  | zero => rw [Nat.add_zero, if_pos (Nat.le_refl _)]; exact e0
  | succ j => rw [if_neg (by omega), show k0 + (j + 1) - k0 = j + 1 by omega]
theorem W2_at (j : Nat) : W2 ns bs W k0 (k0 + (j + 1)) = Wq ns bs 200 (j + 1) := by
  unfold W2
  rw [if_neg (by omega), show k0 + (j + 1) - k0 = j + 1 by omega]
theorem dn2 : dnL (W2 ns bs W k0) (S2 ns bs S k0) k0 = dnL W S k0 := dnL_congr (W := W2 ns bs W k0) (S := S2 ns bs S k0) (fun i hi => by unfold W2; rw [if_pos hi]) (fun i hi => by unfold S2; rw [if_pos hi])
theorem S2_sh (hS : ∀ k, SeqAt.shaped (S k) = true) (k : Nat) : SeqAt.shaped (S2 ns bs S k0 k) = true := by
  unfold S2
  split
  · exact hS k
  · exact shaped_S (Bq_ok hn v (by decide) _)
theorem W2_ok (hW : ∀ k, W (k + 1) ∈ steps) (k : Nat) : W2 ns bs W k0 (k + 1) ∈ steps := by
  unfold W2
  split
  · exact hW k
  · obtain ⟨j, hj⟩ : ∃ j, k + 1 - k0 = j + 1 := ⟨k - k0, by omega⟩
    rw [hj]
    exact (Bq_step hn v (show (0 : Int) ≤ 200 by decide) j).1
theorem on_ok {s : Sto} {a : Ad} {un : List (Str × PyData)} (P : Pl s a (S k0) (dnL W S k0) un) : ∃ s' a', F__law_go_on [.d (Sd ns), .r a.p] s = some (.d (.tuple [S2 ns bs S k0 (k0 + 3), szK (k0 + 3) (k0 + 3)]), s') ∧ a'.p = a.p ∧ At s' a' (W2 ns bs W k0) (S2 ns bs S k0) (k0 + 3) (k0 + 3) ∧ Mv s s' a a' := by
  obtain ⟨w1, g1, s1, a1, x1, u1, rfl, pa, P1, hu, m1⟩ := rng_go (ks := [2]) (t := tgN 2) (body := onB) (fun (k : Nat) => PyData.int (0 + (k : Int))) (fun j w => ∃ s' a' x un', w = ⟨[some (.d (Sd ns)), some (.r a.p), x], s'⟩ ∧ a'.p = a.p ∧ Pl s' a' (S2 ns bs S k0 (k0 + j)) (dnL (W2 ns bs W k0) (S2 ns bs S k0) (k0 + j)) un' ∧ (1 ≤ j → un' = []) ∧ Mv s s' a a') 3
    (fun j w hj ⟨s', a', x, un', e, q1, q2, q3, q4⟩ => by
      subst e
      have st := Bq_step hn v (show (0 : Int) ≤ 200 by decide) j
      rw [← W2_at hn v e0 hk (W := W)] at st
      obtain ⟨s2, a2, r1, r2, r3, r4⟩ := hist_step st (S2_at hn v e0 hk j) (S2_at hn v e0 hk (j + 1)) (show k0 + j ≤ 100 by omega) q2
      rw [q1] at r1
      refine ⟨_, ⟨[some (.d (Sd ns)), some (.r a.p), some (.d (.int (0 + (j : Int))))], s2⟩, mTg_name (show 2 < 3 by decide), mExp_of (mCall_of (s1 := s') (maC_of (s1 := s') (mP_of rfl) (maC_of (s1 := s') (mP_of (l2_of rfl (l2_of rfl rfl (mul6 j)) rfl)) (maC_of (s1 := s') rfl maN_of))) r1), s2, a2, _, [], rfl, r2.trans q1, r3, fun _ => rfl, q4.trans r4⟩)
    (w := ⟨[some (.d (Sd ns)), some (.r a.p), none], s⟩) ⟨s, a, none, un, rfl, rfl, by rw [Nat.add_zero, dn2 hn v e0 hk, show S2 ns bs S k0 k0 = S k0 by unfold S2; rw [if_pos (Nat.le_refl _)]]; exact P, fun h => by omega, Mv.refl⟩
  obtain rfl := hu (by decide)
  have A1 : At s1 a1 (W2 ns bs W k0) (S2 ns bs S k0) (k0 + 3) (k0 + 3) := by
    unfold At
    rw [unL_self]; exact P1
  refine ⟨s1, a1, ?_, pa, A1, m1⟩
  refine mRun_of rfl (show g__law_go_on F__law_step F_Plan__sizes F_Plan__now ⟨[some (.d (Sd ns)), some (.r a.p), none], s⟩ = _ from ?_)
  refine mSeq_of (mFor_of (s := s) (xs := (List.range 3).map fun (k : Nat) => PyData.int (0 + (k : Int))) (iPu_of (bind_of (aC_of (d := .int 3) rfl rfl) (rng1_at rfl (by decide)))) g1) (mRet_of ?_)
  have e1 : mV 1 ⟨[some (.d (Sd ns)), some (.r a.p), x1], s1⟩ = some (.r a1.p, s1) := by rw [pa]; rfl
  exact mTupD_of (maC_of (c_now A1 e1) (maC_of (c_sizes A1 (Nat.le_refl _) e1) maN_of)) rfl (by simp)
end
theorem mLst_of {fs : MFs} {w : Wd} {ds : List D} {s : Sto} (h : fs w = some (ds, s)) (hl : ds.length ≤ 3000000) : mLst fs w = some (.r s.length, s ++ [Cell.lst ds]) := by
  unfold mLst
  rw [h, Option.bind_some, if_pos (big hl)]
theorem mAnd_of {f g : MF} {w : Wd} {s : Sto} {r : Option (D × Sto)} (h1 : f w = some (.d (.bool true), s)) (h2 : g ⟨w.η, s⟩ = r) : mAnd f g w = r := by
  unfold mAnd
  rw [h1, Option.bind_some]
  exact h2
theorem rows_last (S : Nat → PyData) (m : Nat) : pIx (rowsD S m) (.int (-1)) = some (S m) := by
  show atI ((List.range (m + 1)).map S) (-1) = _
  unfold atI ixN
  rw [if_neg (by decide), List.length_map, List.length_range, if_pos (by omega), Option.bind_some, show (-1 + ((m + 1 : Nat) : Int)).toNat = m by omega, List.getElem?_map, List.getElem?_range (by omega)]; rfl
theorem szK_self (m : Nat) : szK m m = .tuple [.int (m : Int), .int 0] := by
  unfold szK
  rw [Int.sub_self]
noncomputable abbrev Sep (a b : Ad) : Prop := ∀ i ∈ a.l, i ∉ b.l
theorem Sep.symm {a b : Ad} (h : Sep a b) : Sep b a := fun i hi hj => h i hj hi
noncomputable abbrev lwE (ns : List Int) (p : Nat) (x3 x4 x5 x6 x7 x8 x9 x10 : Option D) : MEn := [some (.d (Sd ns)), some (.r p), some (.r 3), x3, x4, x5, x6, x7, x8, x9, x10]
noncomputable abbrev iD (n : Nat) : Option D := some (.d (.int (n : Int)))
section
variable {ns : List Int} {s : Sto} {a b c : Ad} {W V : Nat → Str} {S T : Nat → PyData} {m k0 bk : Nat} {x3 x6 x7 x10 : Option D}
theorem T14 (hm : m ≤ 20) (hb : k0 + bk = m) (hS : ∀ k, SeqAt.shaped (S k) = true) (hT : ∀ k, SeqAt.shaped (T k) = true) (hV : ∀ k, V (k + 1) ∈ steps) (T0 : T 0 = S 0)
    (Aa : At s a V T (k0 + 3) (k0 + 3)) (Ab : At s b V T (k0 + 3) (k0 + 3)) (Ac : At s c W S m k0) (hab : Sep a b) (hac : Sep a c) (hbc : Sep b c) (hR : s[3]? = some (.fz (rowsD S m))) (r1 : 3 ∉ a.l) (r2 : 3 ∉ b.l) (r3 : 3 ∉ c.l) :
    ∃ s', lawT14 ⟨lwE ns a.p x3 (iD m) (iD bk) x6 x7 (some (.r b.p)) (some (.r c.p)) x10, s⟩ = some (.rt (.d (.bool true)) s') := by
  obtain ⟨w1, g1, s1, y1, rfl, A1, m1⟩ := rng_go (ks := [6]) (t := tgN 6) (body := lawF14) (fun (k : Nat) => PyData.int (0 + (k : Int))) (fun j w => ∃ s' x, w = ⟨lwE ns a.p x3 (iD m) (iD bk) x x7 (some (.r b.p)) (some (.r c.p)) x10, s'⟩ ∧ At s' c W S m (k0 + j) ∧ Mv s s' c c) bk
    (fun j w hj ⟨s', x, e, q1, q2⟩ => by
      subst e
      obtain ⟨s2, e2, A2, m2⟩ := At.forth q1 (by omega) (by omega)
      exact ⟨_, ⟨lwE ns a.p x3 (iD m) (iD bk) (some (.d (.int (0 + (j : Int))))) x7 (some (.r b.p)) (some (.r c.p)) x10, s2⟩, mTg_name (show 6 < 11 by decide), mExp_of (c_forth q1 rfl e2), s2, _, rfl, A2, q2.trans m2⟩)
    (w := ⟨lwE ns a.p x3 (iD m) (iD bk) x6 x7 (some (.r b.p)) (some (.r c.p)) x10, s⟩) ⟨s, x6, rfl, Ac, Mv.refl⟩
  rw [hb] at A1
  have Aa1 : At s1 a V T (k0 + 3) (k0 + 3) := Pl.keep Aa m1 hac
  have Ab1 : At s1 b V T (k0 + 3) (k0 + 3) := Pl.keep Ab m1 hbc
  have hR1 : s1[3]? = some (.fz (rowsD S m)) := by rw [m1.kp 3 (lt_of hR) r3]; exact hR
  obtain ⟨w2, g2, s2, y2, rfl, Aa2, Ab2, A2, hR2⟩ := rng_go (ks := [6]) (t := tgN 6) (body := lawF15) (fun (k : Nat) => PyData.int (0 + (k : Int))) (fun j w => ∃ s' x, w = ⟨lwE ns a.p x3 (iD m) (iD bk) x x7 (some (.r b.p)) (some (.r c.p)) x10, s'⟩ ∧ At s' a V T (k0 + 3) (k0 + 3 - j) ∧ At s' b V T (k0 + 3) (k0 + 3 - j) ∧ At s' c W S m m ∧ s'[3]? = some (.fz (rowsD S m))) (k0 + 3)
    (fun j w hj ⟨s', x, e, q1, q2, q3, q4⟩ => by
      subst e
      have ek : k0 + 3 - j = k0 + 3 - (j + 1) + 1 := by omega
      rw [ek] at q1 q2
      obtain ⟨s2, e2, B2, m2⟩ := At.back q2 (by omega) (by omega)
      have q1' := Pl.keep q1 m2 hab
      obtain ⟨s3, e3, B3, m3⟩ := At.back q1' (by omega) (by omega)
      have B2' : At s3 b V T (k0 + 3) (k0 + 3 - (j + 1)) := Pl.keep B2 m3 hab.symm
      have C3 : At s3 c W S m m := Pl.keep (Pl.keep q3 m2 hbc.symm) m3 hac.symm
      have R3 : s3[3]? = some (.fz (rowsD S m)) := by
        have h2 : s2[3]? = some (.fz (rowsD S m)) := by rw [m2.kp 3 (lt_of q4) r2]; exact q4
        rw [m3.kp 3 (lt_of h2) r1]; exact h2
      refine ⟨_, ⟨lwE ns a.p x3 (iD m) (iD bk) (some (.d (.int (0 + (j : Int))))) x7 (some (.r b.p)) (some (.r c.p)) x10, s3⟩, mTg_name (show 6 < 11 by decide), mIfN (tmOrS (ne_same (c_back q2 rfl e2) (c_back q1' rfl e3) (shaped_str (steps_ok _ (hV _)).1)) (ne_same (c_now B2' rfl) (c_now B3 rfl) (hT _))), s3, _, rfl, B3, B2', C3, R3⟩)
    (w := ⟨lwE ns a.p x3 (iD m) (iD bk) y1 x7 (some (.r b.p)) (some (.r c.p)) x10, s1⟩) ⟨s1, y1, rfl, Aa1, Ab1, A1, hR1⟩
  rw [Nat.sub_self] at Ab2
  refine ⟨s2, ?_⟩
  refine mSeq_of (mFor_of (s := s) (xs := (List.range bk).map fun (k : Nat) => PyData.int (0 + (k : Int))) (iPu_of (bind_of (aC_of (d := .int (bk : Int)) rfl rfl) (rng1_at rfl (by omega)))) g1) (mSeq_of (mFor_of (s := s1) (xs := (List.range (k0 + 3)).map fun (k : Nat) => PyData.int (0 + (k : Int))) (iPu_of (bind_of (aC_of (d := .int ((m : Int) - (bk : Int) + 3)) (l2_of (l2_of rfl rfl rfl) rfl rfl) rfl) (rng1_at (by omega) (by omega)))) g2) (mRet_of ?_))
  have eR : eV 2 (vw ⟨lwE ns a.p x3 (iD m) (iD bk) y2 x7 (some (.r b.p)) (some (.r c.p)) x10, s2⟩) = some (rowsD S m) := eV_fz rfl hR2
  refine mAnd_of (eq_same (c_now A2 rfl) (mP_of (l2_of eR (l1_of rfl rfl) (rows_last S m))) (hS m)) (mAnd_of (eq_same (c_now Ab2 rfl) (mP_of (l2_of eR rfl ?_)) (hT 0)) (eq_same (c_sizes A2 (Nat.le_refl _) rfl) (mP_of ?_) (shaped_sz _ _)))
  · rw [T0]; exact rows_at S (Nat.zero_le m)
  · rw [szK_self]
    exact lA_of (aC_of rfl (aC_of rfl rfl)) (tup1_ok (by simp))
end
end K54
namespace K54
open PySem L2 L2.PU
theorem l_ne_same {f g : En → Option PyData} {η : En} {x : PyData} (h1 : f η = some x) (h2 : g η = some x) (hx : SeqAt.shaped x = true) : bT (l2 pNe f g) η = some false := bT_of (l2_of h1 h2 (pNe_self hx))
section
variable {ns : List Int} (hn : ns.length ≤ 63) {s : Sto} {a b c : Ad} {W : Nat → Str} {S : Nat → PyData} {Bs : Nat → List Bx} {m k0 bk : Nat} {x3 x6 : Option D}
noncomputable def hereD (S : Nat → PyData) (m k : Nat) : PyData := .tuple [S k, szK m k]
theorem two_now {w : Wd} {o : MF} (A : At s a W S m k0) (hk : k0 ≤ m) (h : o w = some (.r a.p, s)) (h' : o ⟨w.η, s⟩ = some (.r a.p, s)) : mTupD (maC (mMeth 0 "now" F_Plan__now o maN) (maC (mMeth 0 "sizes" F_Plan__sizes o maN) maN)) w = some (.d (hereD S m k0), s) :=
  mTupD_of (maC_of (c_now A h) (maC_of (c_sizes A hk h') maN_of)) rfl (by simp)
include hn
theorem T10 (hm : m ≤ 20) (hb : k0 + bk = m) (hS : ∀ k, S k = SD (Bs k)) (hv : ∀ k, VB (Bs k)) (hW : ∀ k, W (k + 1) ∈ steps)
    (Aa : At s a W S m k0) (Ab : At s b W S m k0) (Ac : At s c W S m k0) (hab : Sep a b) (hac : Sep a c) (hbc : Sep b c) (hR : s[3]? = some (.fz (rowsD S m))) (r1 : 3 ∉ a.l) (r2 : 3 ∉ b.l) (r3 : 3 ∉ c.l) :
    ∃ s', lawT10 ⟨lwE ns a.p x3 (iD m) (iD bk) x6 (some (.d (hereD S m k0))) (some (.r b.p)) (some (.r c.p)) none, s⟩ = some (.rt (.d (.bool true)) s') := by
  have hsh : ∀ k, SeqAt.shaped (S k) = true := fun k => by rw [hS]; exact shaped_S (hv k)
  have hhere : SeqAt.shaped (hereD S m k0) = true := by unfold hereD; rw [hS]; exact shaped_2 (hv k0) _ _
  have e0 := hS k0
  obtain ⟨s1, a1, g1, pa, Aa1, m1⟩ := on_ok hn (hv k0) e0 (by omega) Aa
  have Ab1 : At s1 b W S m k0 := Pl.keep Ab m1 hab.symm
  have Ac1 : At s1 c W S m k0 := Pl.keep Ac m1 hac.symm
  have ba1 : Sep b a1 := m1.sep Ab hab.symm
  have ca1 : Sep c a1 := m1.sep Ac hac.symm
  have hR1 : s1[3]? = some (.fz (rowsD S m)) := by rw [m1.kp 3 (lt_of hR) r1]; exact hR
  have r1' : 3 ∉ a1.l := fun z => by
    rcases m1.ow 3 z with q | q
    · exact r1 q
    · have := lt_of hR; omega
  obtain ⟨s2, b2, g2, pb, Ab2, m2⟩ := on_ok hn (hv k0) e0 (by omega) Ab1
  have Aa2 : At s2 a1 (W2 ns (Bs k0) W k0) (S2 ns (Bs k0) S k0) (k0 + 3) (k0 + 3) := Pl.keep Aa1 m2 ba1.symm
  have Ac2 : At s2 c W S m k0 := Pl.keep Ac1 m2 hbc.symm
  have ab2 : Sep a1 b2 := m2.sep Aa1 ba1.symm
  have cb2 : Sep c b2 := m2.sep Ac1 hbc.symm
  have hR2 : s2[3]? = some (.fz (rowsD S m)) := by rw [m2.kp 3 (lt_of hR1) r2]; exact hR1
  have r2' : 3 ∉ b2.l := fun z => by
    rcases m2.ow 3 z with q | q
    · exact r2 q
    · have := lt_of hR1; omega
  have T0 : S2 ns (Bs k0) S k0 0 = S 0 := by unfold S2; rw [if_pos (Nat.zero_le _)]
  obtain ⟨s3, e3⟩ := T14 (ns := ns) (x3 := x3) (x6 := x6) (x7 := some (.d (hereD S m k0))) (x10 := some (.d (.tuple [S2 ns (Bs k0) S k0 (k0 + 3), szK (k0 + 3) (k0 + 3)]))) hm hb hsh (S2_sh hn (hv k0) e0 (by omega) hsh) (W2_ok hn (hv k0) e0 (by omega) hW) T0 Aa2 Ab2 Ac2 ab2 ca1.symm cb2.symm hR2 r1' r2' r3
  rw [pa, pb] at e3
  refine ⟨s3, ?_⟩
  have kb : (m : Int) - (bk : Int) = (k0 : Int) := by omega
  have eR : ∀ x7 x8 x9 x10, eV 2 (vw ⟨lwE ns a.p x3 (iD m) (iD bk) x6 x7 x8 x9 x10, s⟩) = some (rowsD S m) := fun _ _ _ _ => eV_fz rfl hR
  have hthere : SeqAt.shaped (.tuple [S2 ns (Bs k0) S k0 (k0 + 3), szK (k0 + 3) (k0 + 3)]) = true := by rw [S2_at hn (hv k0) e0 (by omega) 3]; exact shaped_2 (Bq_ok hn (hv k0) (by decide) 3) _ _
  refine mSeq_of (mIfN (tPv_of (l_ne_same rfl (lA_of (ds := [S k0, szK m k0]) (aC_of (l2_of (eR _ _ _ _) (l2_of rfl rfl rfl) ?_) (aC_of (lA_of (aC_of (l2_of rfl rfl rfl) (aC_of rfl rfl)) ((tup1_ok (by simp)).trans ?_)) rfl)) (tup1_ok (by simp))) hhere))) ?_
  · show pIx (rowsD S m) (.int ((m : Int) - (bk : Int))) = _
    rw [kb]; exact rows_at S (by omega)
  · show some (PyData.tuple [.int ((m : Int) - (bk : Int)), .int (bk : Int)]) = some (.tuple [.int (k0 : Int), .int ((m : Int) - (k0 : Int))])
    rw [kb, show (m : Int) - (k0 : Int) = (bk : Int) by omega]
  refine mSeq_of (w1 := ⟨lwE ns a.p x3 (iD m) (iD bk) x6 (some (.d (hereD S m k0))) (some (.r b.p)) (some (.r c.p)) (some (.d (.tuple [S2 ns (Bs k0) S k0 (k0 + 3), szK (k0 + 3) (k0 + 3)]))), s1⟩) (mSet_of (mCall_of (s1 := s) (maC_of (s1 := s) (mP_of rfl) (maC_of (s1 := s) rfl maN_of)) g1)) ?_
  refine mSeq_of (mIfN (tmOrS (tPv_of (l_ne_same (x := szK (k0 + 3) (k0 + 3)) (l2_of rfl rfl rfl) (lA_of (aC_of (d := .int ((k0 + 3 : Nat) : Int)) (l2_of (l2_of rfl rfl rfl) rfl ?_) (aC_of rfl rfl)) ((tup1_ok (by simp)).trans ?_)) (shaped_sz _ _))) (ne_same (two_now Ab1 (by omega) rfl rfl) (mP_of rfl) hhere))) ?_
  · show some (PyData.int ((m : Int) - (bk : Int) + 3)) = _
    rw [kb]; rfl
  · rw [szK_self]
  exact mSeq_of (mIfN (tmOrS (ne_same (mCall_of (s1 := s1) (maC_of (s1 := s1) (mP_of rfl) (maC_of (s1 := s1) rfl maN_of)) g2) (mP_of rfl) hthere) (ne_same (two_now Ac2 (by omega) rfl rfl) (mP_of rfl) hhere))) e3
theorem T7 (hm : m ≤ 20) (hb : k0 + bk = m) (hS : ∀ k, S k = SD (Bs k)) (hv : ∀ k, VB (Bs k)) (hW : ∀ k, W (k + 1) ∈ steps) (Aa : At s a W S m k0) (hR : s[3]? = some (.fz (rowsD S m))) (r1 : 3 ∉ a.l) :
    ∃ s', lawT7 ⟨lwE ns a.p x3 (iD m) (iD bk) x6 none none none none, s⟩ = some (.rt (.d (.bool true)) s') := by
  obtain ⟨s1, e1, B1, k1, l1⟩ := F_twin Aa
  have Aa1 : At s1 a W S m k0 := Pl.frame Aa fun i hi => k1 i (Pl.lt Aa hi)
  obtain ⟨s2, e2, C2, k2, l2⟩ := F_twin B1
  have Aa2 : At s2 a W S m k0 := Pl.frame Aa1 fun i hi => k2 i (Pl.lt Aa1 hi)
  have B2 : At s2 ⟨s.length, s.length + 3, s.length + 4⟩ W S m k0 := Pl.frame B1 fun i hi => k2 i (Pl.lt B1 hi)
  have h3 := lt_of hR
  have hB : ∀ i ∈ (Ad.mk s.length (s.length + 3) (s.length + 4)).l, s.length ≤ i ∧ i < s1.length := fun i hi => ⟨by
    have e : i = s.length ∨ i = s.length + 3 ∨ i = s.length + 4 := by simpa using hi
    omega, Pl.lt B1 hi⟩
  have hC : ∀ i ∈ (Ad.mk s1.length (s1.length + 3) (s1.length + 4)).l, s1.length ≤ i := fun i hi => by
    have e : i = s1.length ∨ i = s1.length + 3 ∨ i = s1.length + 4 := by simpa using hi
    omega
  obtain ⟨s', e⟩ := T10 hn (x3 := x3) (x6 := x6) hm hb hS hv hW Aa2 B2 C2 (fun i hi hj => by have := Pl.lt Aa hi; have := (hB i hj).1; omega) (fun i hi hj => by have := Pl.lt Aa1 hi; have := hC i hj; omega) (fun i hi hj => by have := (hB i hi).2; have := hC i hj; omega) (by rw [k2 3 (by omega), k1 3 h3]; exact hR) r1 (fun z => by have := (hB 3 z).1; omega) (fun z => by have := hC 3 z; omega)
  refine ⟨s', ?_⟩
  refine mSeq_of (w1 := ⟨lwE ns a.p x3 (iD m) (iD bk) x6 (some (.d (hereD S m k0))) none none none, s⟩) (mSet_of (two_now Aa (by omega) rfl rfl)) ?_
  refine mSeq_of (w1 := ⟨lwE ns a.p x3 (iD m) (iD bk) x6 (some (.d (hereD S m k0))) (some (.r s.length)) none none, s1⟩) (mSet_of (c_twin Aa rfl e1)) ?_
  exact mSeq_of (w1 := ⟨lwE ns a.p x3 (iD m) (iD bk) x6 (some (.d (hereD S m k0))) (some (.r s.length)) (some (.r s1.length)) none, s2⟩) (mSet_of (c_twin B1 rfl e2)) e
theorem T4 (hm : m ≤ 20) (hm1 : 1 ≤ m) (hS : ∀ k, S k = SD (Bs k)) (hv : ∀ k, VB (Bs k)) (hW : ∀ k, W (k + 1) ∈ steps) (Aa : At s a W S m m) (hR : s[3]? = some (.fz (rowsD S m))) (r1 : 3 ∉ a.l) :
    ∃ s', lawT4 ⟨lwE ns a.p x3 (iD m) none none none none none none, s⟩ = some (.rt (.d (.bool true)) s') := by
  have hsh : ∀ k, SeqAt.shaped (S k) = true := fun k => by rw [hS]; exact shaped_S (hv k)
  obtain ⟨s1, e1, A1, m1⟩ := goes_ok (by omega) hsh hW Aa
  have hR1 : s1[3]? = some (.fz (rowsD S m)) := by rw [m1.kp 3 (lt_of hR) r1]; exact hR
  obtain ⟨r, hr, dr⟩ := drawn_ok hn (k := 101) (m := (m : Int)) (by decide) (by omega)
  have hr' : r < m := by omega
  obtain ⟨w2, g2, s2, y2, rfl, A2, m2⟩ := rng_go (ks := [6]) (t := tgN 6) (body := lawF6) (fun (k : Nat) => PyData.int (0 + (k : Int))) (fun j w => ∃ s' x, w = ⟨lwE ns a.p x3 (iD m) (iD (1 + r)) x none none none none, s'⟩ ∧ At s' a W S m (m - j) ∧ Mv s1 s' a a) (1 + r)
    (fun j w hj ⟨s', x, e, q1, q2⟩ => by
      subst e
      have ek : m - j = m - (j + 1) + 1 := by omega
      rw [ek] at q1
      obtain ⟨s2, e2, A2, m2⟩ := At.back q1 (by omega) (by omega)
      exact ⟨_, ⟨lwE ns a.p x3 (iD m) (iD (1 + r)) (some (.d (.int (0 + (j : Int))))) none none none none, s2⟩, mTg_name (show 6 < 11 by decide), mExp_of (c_back q1 rfl e2), s2, _, rfl, A2, q2.trans m2⟩)
    (w := ⟨lwE ns a.p x3 (iD m) (iD (1 + r)) none none none none none, s1⟩) ⟨s1, none, rfl, A1, Mv.refl⟩
  have hR2 : s2[3]? = some (.fz (rowsD S m)) := by rw [m2.kp 3 (lt_of hR1) r1]; exact hR1
  obtain ⟨s3, e3⟩ := T7 hn (x3 := x3) (x6 := y2) hm (show m - (1 + r) + (1 + r) = m by omega) hS hv hW A2 hR2 r1
  refine ⟨s3, ?_⟩
  have eR : eV 2 (vw ⟨lwE ns a.p x3 (iD m) none none none none none none, s⟩) = some (rowsD S m) := eV_fz rfl hR
  refine mSeq_of (mIfN (tmOrS (ne_same (c_sizes Aa (Nat.le_refl _) rfl) (mP_of ?_) (shaped_sz _ _)) (tmNot_of (mB_of (mCall_of (s1 := s) (maC_of (s1 := s) rfl (maC_of (s1 := s) (mP_of eR) maN_of)) e1))))) ?_
  · rw [szK_self]
    exact lA_of (aC_of rfl (aC_of rfl rfl)) (tup1_ok (by simp))
  refine mSeq_of (w1 := ⟨lwE ns a.p x3 (iD m) (iD (1 + r)) none none none none none, s1⟩) (mSet_of (d := .d (.int ((1 + r : Nat) : Int))) (mP_of (l2_of (y := .int (r : Int)) rfl (lA_of (aC_of rfl (aC_of rfl (aC_of rfl rfl))) dr) ?_))) ?_
  · show some (PyData.int (1 + (r : Int))) = _
    congr 2
  exact mSeq_of (mFor_of (s := s1) (xs := (List.range (1 + r)).map fun (k : Nat) => PyData.int (0 + (k : Int))) (iPu_of (bind_of (aC_of (d := .int ((1 + r : Nat) : Int)) rfl rfl) (rng1_at rfl (by omega)))) g2) e3
end
noncomputable def Dr.bs (c : Dr) : List Bx := (List.range c.ps.length).map fun i => ⟨c.nm (i + 1), c.nm (c.ps.getD i 0), c.L i, c.T i, c.W i, c.H i, c.mr i⟩
theorem Dr.bs_at {c : Dr} {i : Nat} {b : Bx} (h : c.bs[i]? = some b) : i < c.ps.length ∧ b = ⟨c.nm (i + 1), c.nm (c.ps.getD i 0), c.L i, c.T i, c.W i, c.H i, c.mr i⟩ := by
  have hl := (List.getElem?_eq_some_iff.mp h).1
  unfold Dr.bs at hl h
  rw [List.length_map, List.length_range] at hl
  rw [List.getElem?_map, List.getElem?_range hl] at h
  exact ⟨hl, (Option.some.inj h).symm⟩
theorem Dr.bs_ok {c : Dr} (h : c.Ok) {tn : Nat} (en : c.nm = nmT tn) (h7 : c.ps.length ≤ 7) : VB c.bs := by
  refine ⟨by unfold Dr.bs; rw [List.length_map, List.length_range]; omega, ?_, fun b hb => ?_, fun i b hb => ?_⟩
  · unfold Dr.bs
    rw [List.map_map, List.nodup_iff_pairwise_ne, List.pairwise_map]
    refine List.Pairwise.imp_of_mem (R := (· < ·)) (fun {x y} _ _ hxy e => ?_) List.pairwise_lt_range
    have := h.inj _ _ e
    omega
  · obtain ⟨i, hi⟩ := List.mem_iff_getElem?.mp hb
    obtain ⟨hl, rfl⟩ := Dr.bs_at hi
    refine ⟨?_, h.ok _, h.okm _⟩
    dsimp only
    rw [en, nmT_lo (by omega)]
    exact ⟨Nat.le_refl 1, by show 1 ≤ 3; decide⟩
  · obtain ⟨hl, rfl⟩ := Dr.bs_at hb
    dsimp only
    by_cases e : c.ps.getD i 0 = 0
    · rw [e, h.top]; exact .inl rfl
    · have hp := h.par i
      refine .inr ⟨c.ps.getD i 0 - 1, ⟨c.nm (c.ps.getD i 0 - 1 + 1), c.nm (c.ps.getD (c.ps.getD i 0 - 1) 0), c.L (c.ps.getD i 0 - 1), c.T (c.ps.getD i 0 - 1), c.W (c.ps.getD i 0 - 1), c.H (c.ps.getD i 0 - 1), c.mr (c.ps.getD i 0 - 1)⟩, by omega, ?_, ?_⟩
      · unfold Dr.bs
        rw [List.getElem?_map, List.getElem?_range (by omega)]; rfl
      · dsimp only
        rw [show c.ps.getD i 0 - 1 + 1 = c.ps.getD i 0 by omega]
theorem Dr.bs_d (c : Dr) : c.d = SD c.bs := by
  unfold Dr.d SD Dr.bs
  rw [List.map_map]; rfl
theorem main (ns : List Int) (hn : ns.length ≤ 63) : ∃ s', F_law [.d (.list (ns.map PyData.int))] [] = some (.d (.bool true), s') := by
  obtain ⟨c, tn, ok, en, h7, es⟩ := scene_ok hn
  rw [Dr.bs_d] at es
  have v := Dr.bs_ok ok en h7
  obtain ⟨r, hr, dr⟩ := drawn_ok hn (k := 100) (m := 7) (by decide) (by decide)
  have hv := fun k => Bq_ok hn v (show (0 : Int) ≤ 110 by decide) k
  have W : ∃ W, W = Wq ns c.bs 110 := ⟨_, rfl⟩
  obtain ⟨W, eW⟩ := W
  have S : ∃ S : Nat → PyData, S = fun k => SD (Bq ns c.bs 110 k) := ⟨_, rfl⟩
  obtain ⟨S, eS⟩ := S
  have hS : ∀ k, S k = SD (Bq ns c.bs 110 k) := fun k => by rw [eS]
  have hst : ∀ k : Nat, Step ns (110 + 6 * (k : Int)) (Bq ns c.bs 110 k) (W (k + 1)) (Bq ns c.bs 110 (k + 1)) := fun k => by rw [eW]; exact Bq_step hn v (show (0 : Int) ≤ 110 by decide) k
  have hW : ∀ k, W (k + 1) ∈ steps := fun k => (hst k).1
  have s0 : ∃ s0 : Sto, s0 = [Cell.obj 0 (pf (S 0) 1 2), .lst [], .lst []] := ⟨_, rfl⟩
  obtain ⟨s0, e0⟩ := s0
  have P0 : Pl s0 ⟨0, 1, 2⟩ (S 0) (dnL W S 0) [] := by rw [e0]; exact ⟨rfl, rfl, rfl, by decide⟩
  have l0 : s0.length = 3 := by rw [e0]; rfl
  have hrow : ∀ k, (((List.range (k + 1)).map fun i => D.d (S i)) ++ [D.d (S (k + 1))]) = (List.range (k + 1 + 1)).map fun i => D.d (S i) := fun k => by
    rw [List.range_succ (n := k + 1), List.map_append]; rfl
  obtain ⟨w1, g1, s1, a1, y1, rfl, pa, P1, hR1, r1⟩ := rng_go (ks := [3]) (t := tgN 3) (body := lawF2) (fun (k : Nat) => PyData.int (0 + (k : Int))) (fun j w => ∃ (s' : Sto) (a' : Ad) (x : Option D), w = ⟨lwE ns 0 x none none none none none none none, s'⟩ ∧ a'.p = 0 ∧ Pl s' a' (S j) (dnL W S j) [] ∧ s'[3]? = some (.lst ((List.range (j + 1)).map fun i => D.d (S i))) ∧ 3 ∉ a'.l) (2 + r)
    (fun j w hj ⟨s', a', x, e, q1, q2, q3, q4⟩ => by
      subst e
      obtain ⟨s2, a2, z1, z2, z3, z4⟩ := hist_step (hst j) (hS j) (hS (j + 1)) (show j ≤ 100 by omega) q2
      have h3 : s2[3]? = some (.lst ((List.range (j + 1)).map fun i => D.d (S i))) := by rw [z4.kp 3 (lt_of q3) q4]; exact q3
      have n3 : 3 ∉ a2.l := fun z => by
        rcases z4.ow 3 z with q | q
        · exact q4 q
        · have := lt_of q3; omega
      rw [q1] at z1
      have pa2 : a2.p = 0 := z2.trans q1
      have e1 : mV 1 ⟨lwE ns 0 (some (.d (.int (0 + (j : Int))))) none none none none none none none, s2⟩ = some (.r a2.p, s2) := by rw [pa2]; rfl
      refine ⟨_, ⟨lwE ns 0 (some (.d (.int (0 + (j : Int))))) none none none none none none none, s2.set 3 (.lst ((List.range (j + 1 + 1)).map fun i => D.d (S i)))⟩, mTg_name (show 3 < 11 by decide), ?_, s2.set 3 (.lst ((List.range (j + 1 + 1)).map fun i => D.d (S i))), a2, _, rfl, pa2, z3.setn n3, set_at h3, n3⟩
      refine mSeq_of (w1 := ⟨lwE ns 0 (some (.d (.int (0 + (j : Int))))) none none none none none none none, s2⟩) (mExp_of (mCall_of (s1 := s') (maC_of (s1 := s') (mP_of rfl) (maC_of (s1 := s') (mP_of (l2_of rfl (l2_of rfl rfl (mul6 j)) rfl)) (maC_of (s1 := s') rfl maN_of))) z1)) ?_
      rw [← hrow]
      exact mExp_of (mAppC_of (s := s2) rfl h3 (c_now z3 e1) h3 (by rw [List.length_map, List.length_range]; omega)))
    (w := ⟨lwE ns 0 none none none none none none none none, s0 ++ [Cell.lst [.d (S 0)]]⟩) ⟨_, ⟨0, 1, 2⟩, none, rfl, rfl, P0.apps _, by rw [List.getElem?_append_right (by omega), l0]; rfl, by decide⟩
  have hrd : (List.range (2 + r + 1)).map (fun i => D.d (S i)) = ((List.range (2 + r + 1)).map S).map D.d := by rw [List.map_map]; rfl
  rw [hrd] at hR1
  have hfz := mFz_lst (f := mV 2) (w := ⟨lwE ns 0 y1 none none none none none none none, s1⟩) rfl hR1 (dAll_map _)
  obtain ⟨s2, e2⟩ : ∃ s2, s2 = s1.set 3 (.fz (rowsD S (2 + r))) := ⟨_, rfl⟩
  have hfz' : mFz (mV 2) ⟨lwE ns 0 y1 none none none none none none none, s1⟩ = some (.d (rowsD S (2 + r)), s2) := by rw [e2]; exact hfz
  have A2 : At s2 a1 W S (2 + r) (2 + r) := by
    unfold At
    rw [unL_self, e2]; exact P1.setn r1
  have hR2 : s2[3]? = some (.fz (rowsD S (2 + r))) := by rw [e2]; exact set_at hR1
  obtain ⟨s3, e3⟩ := T4 hn (x3 := y1) (show 2 + r ≤ 20 by omega) (by omega) hS hv hW A2 hR2 r1
  rw [pa] at e3
  refine ⟨s3, mRun_of rfl (show g_law F_Plan____init__ F__law_scene F_Plan__now F__law_drawn F__law_step F__law_goes F_Plan__sizes F_Plan__back F_Plan__twin F__law_go_on F_Plan__forth ⟨[some (.d (Sd ns)), none, none, none, none, none, none, none, none, none, none], []⟩ = _ from ?_)⟩
  have hi := F_init [] (SD c.bs)
  have hs0 : S 0 = SD c.bs := hS 0
  refine mSeq_of (w1 := ⟨[some (.d (Sd ns)), some (.r 0), none, none, none, none, none, none, none, none, none], s0⟩) (mSet_of (d := .r 0) (mMake_of (s := []) (maC_of (d := .d (SD c.bs)) (s1 := []) (mP_of (lA_of (aC_of rfl (aC_of rfl rfl)) es)) maN_of) ?_)) ?_
  · rw [e0, hs0]; exact hi
  have en : mMeth 0 "now" F_Plan__now (mV 1) maN ⟨[some (.d (Sd ns)), some (.r 0), none, none, none, none, none, none, none, none, none], s0⟩ = some (.d (S 0), s0) := c_now P0 rfl
  have el := mLst_of (maC_of en maN_of) (by simp)
  rw [l0] at el
  refine mSeq_of (w1 := ⟨lwE ns 0 none none none none none none none none, s0 ++ [Cell.lst [.d (S 0)]]⟩) (mSet_of el) ?_
  refine mSeq_of (mFor_of (s := s0 ++ [Cell.lst [.d (S 0)]]) (xs := (List.range (2 + r)).map fun (k : Nat) => PyData.int (0 + (k : Int))) (iPu_of (bind_of (aC_of (d := .int (2 + (r : Int))) (l2_of rfl (lA_of (aC_of rfl (aC_of rfl (aC_of rfl rfl))) dr) rfl) rfl) (rng1_at (by omega) (by omega)))) g1) ?_
  refine mSeq_of (w1 := ⟨lwE ns 0 y1 (iD (2 + r)) none none none none none none, s2⟩) (mSet_of (d := .d (.int ((2 + r : Nat) : Int))) (mOp_of (x := .int ((2 + r + 1 : Nat) : Int)) (y := .int 1) (mCB_of (maC_of hfz' maN_of) rfl ?_) (mP_of rfl) rfl rfl ?_)) e3
  · show some (PyData.int (((List.range (2 + r + 1)).map S).length : Int)) = _
    rw [List.length_map, List.length_range]
  · show some (PyData.int (((2 + r + 1 : Nat) : Int) - 1)) = _
    congr 2
    omega
end K54
namespace K54
open PySem L2 L2.PU
set_option maxHeartbeats 4000000 in
theorem all_mk (main : ∀ ns : List Int, ns.length ≤ 63 → ∃ s', F_law [.d (.list (ns.map PyData.int))] [] = some (.d (.bool true), s')) {l : PySem.W.OpenLaw} {w : World} {K : PySem.W.Frag} {h : Heap} {mg : Str → Option Value} {fa : Addr} (X : K.In h) (G : h.Ns mainGlobals mg) (hfa : mg "law" = some (.ref fa))
    {C_Plan : Addr}
    {f_Plan____init__ : Addr} {od_Plan____init__ an_Plan____init__ : Option Addr} {sl_Plan____init__ : Array (Option Value)} {oc_Plan____init__ kV_Plan____init__ dc_Plan____init__ pm_Plan____init__ cd_Plan____init__ ct_Plan____init__ : Value}
    {f__law_cell : Addr} {od__law_cell an__law_cell : Option Addr} {sl__law_cell : Array (Option Value)} {oc__law_cell kV__law_cell dc__law_cell pm__law_cell cd__law_cell ct__law_cell : Value}
    {f__law_drawn : Addr} {od__law_drawn an__law_drawn : Option Addr} {sl__law_drawn : Array (Option Value)} {oc__law_drawn kV__law_drawn dc__law_drawn pm__law_drawn cd__law_drawn ct__law_drawn : Value}
    {f__law_scene : Addr} {od__law_scene an__law_scene : Option Addr} {sl__law_scene : Array (Option Value)} {oc__law_scene kV__law_scene dc__law_scene pm__law_scene cd__law_scene ct__law_scene : Value}
    {f_Plan__now : Addr} {od_Plan__now an_Plan__now : Option Addr} {sl_Plan__now : Array (Option Value)} {oc_Plan__now kV_Plan__now dc_Plan__now pm_Plan__now cd_Plan__now ct_Plan__now : Value}
    {f_box_of : Addr} {od_box_of an_box_of : Option Addr} {sl_box_of : Array (Option Value)} {oc_box_of kV_box_of dc_box_of pm_box_of cd_box_of ct_box_of : Value}
    {f_children : Addr} {od_children an_children : Option Addr} {sl_children : Array (Option Value)} {oc_children kV_children dc_children pm_children cd_children ct_children : Value}
    {f_below : Addr} {od_below an_below : Option Addr} {sl_below : Array (Option Value)} {oc_below kV_below dc_below pm_below cd_below ct_below : Value}
    {f_Plan__step_to : Addr} {od_Plan__step_to an_Plan__step_to : Option Addr} {sl_Plan__step_to : Array (Option Value)} {oc_Plan__step_to kV_Plan__step_to dc_Plan__step_to pm_Plan__step_to cd_Plan__step_to ct_Plan__step_to : Value}
    {f_cut : Addr} {od_cut an_cut : Option Addr} {sl_cut : Array (Option Value)} {oc_cut kV_cut dc_cut pm_cut cd_cut ct_cut : Value}
    {f_Plan__take : Addr} {od_Plan__take an_Plan__take : Option Addr} {sl_Plan__take : Array (Option Value)} {oc_Plan__take kV_Plan__take dc_Plan__take pm_Plan__take cd_Plan__take ct_Plan__take : Value}
    {f_raised : Addr} {od_raised an_raised : Option Addr} {sl_raised : Array (Option Value)} {oc_raised kV_raised dc_raised pm_raised cd_raised ct_raised : Value}
    {f_Plan__lift : Addr} {od_Plan__lift an_Plan__lift : Option Addr} {sl_Plan__lift : Array (Option Value)} {oc_Plan__lift kV_Plan__lift dc_Plan__lift pm_Plan__lift cd_Plan__lift ct_Plan__lift : Value}
    {f_with_other : Addr} {od_with_other an_with_other : Option Addr} {sl_with_other : Array (Option Value)} {oc_with_other kV_with_other dc_with_other pm_with_other cd_with_other ct_with_other : Value}
    {f_marked : Addr} {od_marked an_marked : Option Addr} {sl_marked : Array (Option Value)} {oc_marked kV_marked dc_marked pm_marked cd_marked ct_marked : Value}
    {f_Plan__mark : Addr} {od_Plan__mark an_Plan__mark : Option Addr} {sl_Plan__mark : Array (Option Value)} {oc_Plan__mark kV_Plan__mark dc_Plan__mark pm_Plan__mark cd_Plan__mark ct_Plan__mark : Value}
    {f_put_at : Addr} {od_put_at an_put_at : Option Addr} {sl_put_at : Array (Option Value)} {oc_put_at kV_put_at dc_put_at pm_put_at cd_put_at ct_put_at : Value}
    {f_Plan__lay : Addr} {od_Plan__lay an_Plan__lay : Option Addr} {sl_Plan__lay : Array (Option Value)} {oc_Plan__lay kV_Plan__lay dc_Plan__lay pm_Plan__lay cd_Plan__lay ct_Plan__lay : Value}
    {f_has_box : Addr} {od_has_box an_has_box : Option Addr} {sl_has_box : Array (Option Value)} {oc_has_box kV_has_box dc_has_box pm_has_box cd_has_box ct_has_box : Value}
    {f_with_box : Addr} {od_with_box an_with_box : Option Addr} {sl_with_box : Array (Option Value)} {oc_with_box kV_with_box dc_with_box pm_with_box cd_with_box ct_with_box : Value}
    {f_Plan__put : Addr} {od_Plan__put an_Plan__put : Option Addr} {sl_Plan__put : Array (Option Value)} {oc_Plan__put kV_Plan__put dc_Plan__put pm_Plan__put cd_Plan__put ct_Plan__put : Value}
    {f__law_step : Addr} {od__law_step an__law_step : Option Addr} {sl__law_step : Array (Option Value)} {oc__law_step kV__law_step dc__law_step pm__law_step cd__law_step ct__law_step : Value}
    {f_Plan__back : Addr} {od_Plan__back an_Plan__back : Option Addr} {sl_Plan__back : Array (Option Value)} {oc_Plan__back kV_Plan__back dc_Plan__back pm_Plan__back cd_Plan__back ct_Plan__back : Value}
    {f_Plan__sizes : Addr} {od_Plan__sizes an_Plan__sizes : Option Addr} {sl_Plan__sizes : Array (Option Value)} {oc_Plan__sizes kV_Plan__sizes dc_Plan__sizes pm_Plan__sizes cd_Plan__sizes ct_Plan__sizes : Value}
    {f_Plan__forth : Addr} {od_Plan__forth an_Plan__forth : Option Addr} {sl_Plan__forth : Array (Option Value)} {oc_Plan__forth kV_Plan__forth dc_Plan__forth pm_Plan__forth cd_Plan__forth ct_Plan__forth : Value}
    {f__law_goes : Addr} {od__law_goes an__law_goes : Option Addr} {sl__law_goes : Array (Option Value)} {oc__law_goes kV__law_goes dc__law_goes pm__law_goes cd__law_goes ct__law_goes : Value}
    {f_Plan__twin : Addr} {od_Plan__twin an_Plan__twin : Option Addr} {sl_Plan__twin : Array (Option Value)} {oc_Plan__twin kV_Plan__twin dc_Plan__twin pm_Plan__twin cd_Plan__twin ct_Plan__twin : Value}
    {f__law_go_on : Addr} {od__law_go_on an__law_go_on : Option Addr} {sl__law_go_on : Array (Option Value)} {oc__law_go_on kV__law_go_on dc__law_go_on pm__law_go_on cd__law_go_on ct__law_go_on : Value}
    {f_law : Addr} {od_law an_law : Option Addr} {sl_law : Array (Option Value)} {oc_law kV_law dc_law pm_law cd_law ct_law : Value}
    {t_AROUND : Tok}
    {t_LEFT : Tok}
    {t_MARKS : Tok}
    {t_MOST_BOXES : Tok}
    {t_NAME : Tok}
    {t_SCENE : Tok}
    {t_WIDTH : Tok}
    {t_WORD : Tok}
    (aC_Plan : PySem.W.nsIn K mainGlobals "Plan" = some (some (.ref C_Plan)))
    (pg_Plan : PySem.W.plainGet K C_Plan Str.empty = true)
    (hd_Plan : PySem.W.hasDictIn K C_Plan = true)
    (po_Plan : PySem.W.plainOver K C_Plan = true)
    (sa_Plan : PySem.W.findIn K (.ref C_Plan) "__setattr__" = some (some (.builtin "object.__setattr__")))
    (mk_Plan : PySem.W.makesIn K C_Plan = true)
    (kc_Plan : PySem.W.keepIn K (.ref C_Plan) = true)
    (na_Plan_done : PySem.W.findIn K (.ref C_Plan) "done" = some none)
    (na_Plan_scene : PySem.W.findIn K (.ref C_Plan) "scene" = some none)
    (na_Plan_undone : PySem.W.findIn K (.ref C_Plan) "undone" = some none)
    (a_Plan____init__ : PySem.W.findIn K (.ref C_Plan) "__init__" = some (some (.ref f_Plan____init__))) (i_Plan____init__ : PySem.W.isFn K (.ref f_Plan____init__) = true)
    (l_Plan____init__ : K.lookup f_Plan____init__ = some ⟨oc_Plan____init__, od_Plan____init__, .func (PySem.W.fnOf "__init__" "Plan.__init__" (defArgs s_Plan____init__) (defBody s_Plan____init__) (defScope s_Plan____init__) .none kV_Plan____init__ dc_Plan____init__ pm_Plan____init__ an_Plan____init__ cd_Plan____init__ ct_Plan____init__), sl_Plan____init__⟩) (c_Plan____init__ : PySem.W.codeIn K cd_Plan____init__ "Plan.__init__" = true) (k_Plan____init__ : PySem.W.keepIn K (.ref f_Plan____init__) = true)
    (a__law_cell : PySem.W.nsIn K mainGlobals "_law_cell" = some (some (.ref f__law_cell)))
    (l__law_cell : K.lookup f__law_cell = some ⟨oc__law_cell, od__law_cell, .func (PySem.W.fnOf "_law_cell" "_law_cell" (defArgs s__law_cell) (defBody s__law_cell) (defScope s__law_cell) .none kV__law_cell dc__law_cell pm__law_cell an__law_cell cd__law_cell ct__law_cell), sl__law_cell⟩) (c__law_cell : PySem.W.codeIn K cd__law_cell "_law_cell" = true) (k__law_cell : PySem.W.keepIn K (.ref f__law_cell) = true)
    (a__law_drawn : PySem.W.nsIn K mainGlobals "_law_drawn" = some (some (.ref f__law_drawn)))
    (l__law_drawn : K.lookup f__law_drawn = some ⟨oc__law_drawn, od__law_drawn, .func (PySem.W.fnOf "_law_drawn" "_law_drawn" (defArgs s__law_drawn) (defBody s__law_drawn) (defScope s__law_drawn) .none kV__law_drawn dc__law_drawn pm__law_drawn an__law_drawn cd__law_drawn ct__law_drawn), sl__law_drawn⟩) (c__law_drawn : PySem.W.codeIn K cd__law_drawn "_law_drawn" = true) (k__law_drawn : PySem.W.keepIn K (.ref f__law_drawn) = true)
    (a__law_scene : PySem.W.nsIn K mainGlobals "_law_scene" = some (some (.ref f__law_scene)))
    (l__law_scene : K.lookup f__law_scene = some ⟨oc__law_scene, od__law_scene, .func (PySem.W.fnOf "_law_scene" "_law_scene" (defArgs s__law_scene) (defBody s__law_scene) (defScope s__law_scene) .none kV__law_scene dc__law_scene pm__law_scene an__law_scene cd__law_scene ct__law_scene), sl__law_scene⟩) (c__law_scene : PySem.W.codeIn K cd__law_scene "_law_scene" = true) (k__law_scene : PySem.W.keepIn K (.ref f__law_scene) = true)
    (a_Plan__now : PySem.W.findIn K (.ref C_Plan) "now" = some (some (.ref f_Plan__now))) (i_Plan__now : PySem.W.isFn K (.ref f_Plan__now) = true)
    (l_Plan__now : K.lookup f_Plan__now = some ⟨oc_Plan__now, od_Plan__now, .func (PySem.W.fnOf "now" "Plan.now" (defArgs s_Plan__now) (defBody s_Plan__now) (defScope s_Plan__now) .none kV_Plan__now dc_Plan__now pm_Plan__now an_Plan__now cd_Plan__now ct_Plan__now), sl_Plan__now⟩) (c_Plan__now : PySem.W.codeIn K cd_Plan__now "Plan.now" = true) (k_Plan__now : PySem.W.keepIn K (.ref f_Plan__now) = true)
    (a_box_of : PySem.W.nsIn K mainGlobals "box_of" = some (some (.ref f_box_of)))
    (l_box_of : K.lookup f_box_of = some ⟨oc_box_of, od_box_of, .func (PySem.W.fnOf "box_of" "box_of" (defArgs s_box_of) (defBody s_box_of) (defScope s_box_of) .none kV_box_of dc_box_of pm_box_of an_box_of cd_box_of ct_box_of), sl_box_of⟩) (c_box_of : PySem.W.codeIn K cd_box_of "box_of" = true) (k_box_of : PySem.W.keepIn K (.ref f_box_of) = true)
    (a_children : PySem.W.nsIn K mainGlobals "children" = some (some (.ref f_children)))
    (l_children : K.lookup f_children = some ⟨oc_children, od_children, .func (PySem.W.fnOf "children" "children" (defArgs s_children) (defBody s_children) (defScope s_children) .none kV_children dc_children pm_children an_children cd_children ct_children), sl_children⟩) (c_children : PySem.W.codeIn K cd_children "children" = true) (k_children : PySem.W.keepIn K (.ref f_children) = true)
    (a_below : PySem.W.nsIn K mainGlobals "below" = some (some (.ref f_below)))
    (l_below : K.lookup f_below = some ⟨oc_below, od_below, .func (PySem.W.fnOf "below" "below" (defArgs s_below) (defBody s_below) (defScope s_below) .none kV_below dc_below pm_below an_below cd_below ct_below), sl_below⟩) (c_below : PySem.W.codeIn K cd_below "below" = true) (k_below : PySem.W.keepIn K (.ref f_below) = true)
    (a_Plan__step_to : PySem.W.findIn K (.ref C_Plan) "step_to" = some (some (.ref f_Plan__step_to))) (i_Plan__step_to : PySem.W.isFn K (.ref f_Plan__step_to) = true)
    (l_Plan__step_to : K.lookup f_Plan__step_to = some ⟨oc_Plan__step_to, od_Plan__step_to, .func (PySem.W.fnOf "step_to" "Plan.step_to" (defArgs s_Plan__step_to) (defBody s_Plan__step_to) (defScope s_Plan__step_to) .none kV_Plan__step_to dc_Plan__step_to pm_Plan__step_to an_Plan__step_to cd_Plan__step_to ct_Plan__step_to), sl_Plan__step_to⟩) (c_Plan__step_to : PySem.W.codeIn K cd_Plan__step_to "Plan.step_to" = true) (k_Plan__step_to : PySem.W.keepIn K (.ref f_Plan__step_to) = true)
    (a_cut : PySem.W.nsIn K mainGlobals "cut" = some (some (.ref f_cut)))
    (l_cut : K.lookup f_cut = some ⟨oc_cut, od_cut, .func (PySem.W.fnOf "cut" "cut" (defArgs s_cut) (defBody s_cut) (defScope s_cut) .none kV_cut dc_cut pm_cut an_cut cd_cut ct_cut), sl_cut⟩) (c_cut : PySem.W.codeIn K cd_cut "cut" = true) (k_cut : PySem.W.keepIn K (.ref f_cut) = true)
    (a_Plan__take : PySem.W.findIn K (.ref C_Plan) "take" = some (some (.ref f_Plan__take))) (i_Plan__take : PySem.W.isFn K (.ref f_Plan__take) = true)
    (l_Plan__take : K.lookup f_Plan__take = some ⟨oc_Plan__take, od_Plan__take, .func (PySem.W.fnOf "take" "Plan.take" (defArgs s_Plan__take) (defBody s_Plan__take) (defScope s_Plan__take) .none kV_Plan__take dc_Plan__take pm_Plan__take an_Plan__take cd_Plan__take ct_Plan__take), sl_Plan__take⟩) (c_Plan__take : PySem.W.codeIn K cd_Plan__take "Plan.take" = true) (k_Plan__take : PySem.W.keepIn K (.ref f_Plan__take) = true)
    (a_raised : PySem.W.nsIn K mainGlobals "raised" = some (some (.ref f_raised)))
    (l_raised : K.lookup f_raised = some ⟨oc_raised, od_raised, .func (PySem.W.fnOf "raised" "raised" (defArgs s_raised) (defBody s_raised) (defScope s_raised) .none kV_raised dc_raised pm_raised an_raised cd_raised ct_raised), sl_raised⟩) (c_raised : PySem.W.codeIn K cd_raised "raised" = true) (k_raised : PySem.W.keepIn K (.ref f_raised) = true)
    (a_Plan__lift : PySem.W.findIn K (.ref C_Plan) "lift" = some (some (.ref f_Plan__lift))) (i_Plan__lift : PySem.W.isFn K (.ref f_Plan__lift) = true)
    (l_Plan__lift : K.lookup f_Plan__lift = some ⟨oc_Plan__lift, od_Plan__lift, .func (PySem.W.fnOf "lift" "Plan.lift" (defArgs s_Plan__lift) (defBody s_Plan__lift) (defScope s_Plan__lift) .none kV_Plan__lift dc_Plan__lift pm_Plan__lift an_Plan__lift cd_Plan__lift ct_Plan__lift), sl_Plan__lift⟩) (c_Plan__lift : PySem.W.codeIn K cd_Plan__lift "Plan.lift" = true) (k_Plan__lift : PySem.W.keepIn K (.ref f_Plan__lift) = true)
    (a_with_other : PySem.W.nsIn K mainGlobals "with_other" = some (some (.ref f_with_other)))
    (l_with_other : K.lookup f_with_other = some ⟨oc_with_other, od_with_other, .func (PySem.W.fnOf "with_other" "with_other" (defArgs s_with_other) (defBody s_with_other) (defScope s_with_other) .none kV_with_other dc_with_other pm_with_other an_with_other cd_with_other ct_with_other), sl_with_other⟩) (c_with_other : PySem.W.codeIn K cd_with_other "with_other" = true) (k_with_other : PySem.W.keepIn K (.ref f_with_other) = true)
    (a_marked : PySem.W.nsIn K mainGlobals "marked" = some (some (.ref f_marked)))
    (l_marked : K.lookup f_marked = some ⟨oc_marked, od_marked, .func (PySem.W.fnOf "marked" "marked" (defArgs s_marked) (defBody s_marked) (defScope s_marked) .none kV_marked dc_marked pm_marked an_marked cd_marked ct_marked), sl_marked⟩) (c_marked : PySem.W.codeIn K cd_marked "marked" = true) (k_marked : PySem.W.keepIn K (.ref f_marked) = true)
    (a_Plan__mark : PySem.W.findIn K (.ref C_Plan) "mark" = some (some (.ref f_Plan__mark))) (i_Plan__mark : PySem.W.isFn K (.ref f_Plan__mark) = true)
    (l_Plan__mark : K.lookup f_Plan__mark = some ⟨oc_Plan__mark, od_Plan__mark, .func (PySem.W.fnOf "mark" "Plan.mark" (defArgs s_Plan__mark) (defBody s_Plan__mark) (defScope s_Plan__mark) .none kV_Plan__mark dc_Plan__mark pm_Plan__mark an_Plan__mark cd_Plan__mark ct_Plan__mark), sl_Plan__mark⟩) (c_Plan__mark : PySem.W.codeIn K cd_Plan__mark "Plan.mark" = true) (k_Plan__mark : PySem.W.keepIn K (.ref f_Plan__mark) = true)
    (a_put_at : PySem.W.nsIn K mainGlobals "put_at" = some (some (.ref f_put_at)))
    (l_put_at : K.lookup f_put_at = some ⟨oc_put_at, od_put_at, .func (PySem.W.fnOf "put_at" "put_at" (defArgs s_put_at) (defBody s_put_at) (defScope s_put_at) .none kV_put_at dc_put_at pm_put_at an_put_at cd_put_at ct_put_at), sl_put_at⟩) (c_put_at : PySem.W.codeIn K cd_put_at "put_at" = true) (k_put_at : PySem.W.keepIn K (.ref f_put_at) = true)
    (a_Plan__lay : PySem.W.findIn K (.ref C_Plan) "lay" = some (some (.ref f_Plan__lay))) (i_Plan__lay : PySem.W.isFn K (.ref f_Plan__lay) = true)
    (l_Plan__lay : K.lookup f_Plan__lay = some ⟨oc_Plan__lay, od_Plan__lay, .func (PySem.W.fnOf "lay" "Plan.lay" (defArgs s_Plan__lay) (defBody s_Plan__lay) (defScope s_Plan__lay) .none kV_Plan__lay dc_Plan__lay pm_Plan__lay an_Plan__lay cd_Plan__lay ct_Plan__lay), sl_Plan__lay⟩) (c_Plan__lay : PySem.W.codeIn K cd_Plan__lay "Plan.lay" = true) (k_Plan__lay : PySem.W.keepIn K (.ref f_Plan__lay) = true)
    (a_has_box : PySem.W.nsIn K mainGlobals "has_box" = some (some (.ref f_has_box)))
    (l_has_box : K.lookup f_has_box = some ⟨oc_has_box, od_has_box, .func (PySem.W.fnOf "has_box" "has_box" (defArgs s_has_box) (defBody s_has_box) (defScope s_has_box) .none kV_has_box dc_has_box pm_has_box an_has_box cd_has_box ct_has_box), sl_has_box⟩) (c_has_box : PySem.W.codeIn K cd_has_box "has_box" = true) (k_has_box : PySem.W.keepIn K (.ref f_has_box) = true)
    (a_with_box : PySem.W.nsIn K mainGlobals "with_box" = some (some (.ref f_with_box)))
    (l_with_box : K.lookup f_with_box = some ⟨oc_with_box, od_with_box, .func (PySem.W.fnOf "with_box" "with_box" (defArgs s_with_box) (defBody s_with_box) (defScope s_with_box) .none kV_with_box dc_with_box pm_with_box an_with_box cd_with_box ct_with_box), sl_with_box⟩) (c_with_box : PySem.W.codeIn K cd_with_box "with_box" = true) (k_with_box : PySem.W.keepIn K (.ref f_with_box) = true)
    (a_Plan__put : PySem.W.findIn K (.ref C_Plan) "put" = some (some (.ref f_Plan__put))) (i_Plan__put : PySem.W.isFn K (.ref f_Plan__put) = true)
    (l_Plan__put : K.lookup f_Plan__put = some ⟨oc_Plan__put, od_Plan__put, .func (PySem.W.fnOf "put" "Plan.put" (defArgs s_Plan__put) (defBody s_Plan__put) (defScope s_Plan__put) .none kV_Plan__put dc_Plan__put pm_Plan__put an_Plan__put cd_Plan__put ct_Plan__put), sl_Plan__put⟩) (c_Plan__put : PySem.W.codeIn K cd_Plan__put "Plan.put" = true) (k_Plan__put : PySem.W.keepIn K (.ref f_Plan__put) = true)
    (a__law_step : PySem.W.nsIn K mainGlobals "_law_step" = some (some (.ref f__law_step)))
    (l__law_step : K.lookup f__law_step = some ⟨oc__law_step, od__law_step, .func (PySem.W.fnOf "_law_step" "_law_step" (defArgs s__law_step) (defBody s__law_step) (defScope s__law_step) .none kV__law_step dc__law_step pm__law_step an__law_step cd__law_step ct__law_step), sl__law_step⟩) (c__law_step : PySem.W.codeIn K cd__law_step "_law_step" = true) (k__law_step : PySem.W.keepIn K (.ref f__law_step) = true)
    (a_Plan__back : PySem.W.findIn K (.ref C_Plan) "back" = some (some (.ref f_Plan__back))) (i_Plan__back : PySem.W.isFn K (.ref f_Plan__back) = true)
    (l_Plan__back : K.lookup f_Plan__back = some ⟨oc_Plan__back, od_Plan__back, .func (PySem.W.fnOf "back" "Plan.back" (defArgs s_Plan__back) (defBody s_Plan__back) (defScope s_Plan__back) .none kV_Plan__back dc_Plan__back pm_Plan__back an_Plan__back cd_Plan__back ct_Plan__back), sl_Plan__back⟩) (c_Plan__back : PySem.W.codeIn K cd_Plan__back "Plan.back" = true) (k_Plan__back : PySem.W.keepIn K (.ref f_Plan__back) = true)
    (a_Plan__sizes : PySem.W.findIn K (.ref C_Plan) "sizes" = some (some (.ref f_Plan__sizes))) (i_Plan__sizes : PySem.W.isFn K (.ref f_Plan__sizes) = true)
    (l_Plan__sizes : K.lookup f_Plan__sizes = some ⟨oc_Plan__sizes, od_Plan__sizes, .func (PySem.W.fnOf "sizes" "Plan.sizes" (defArgs s_Plan__sizes) (defBody s_Plan__sizes) (defScope s_Plan__sizes) .none kV_Plan__sizes dc_Plan__sizes pm_Plan__sizes an_Plan__sizes cd_Plan__sizes ct_Plan__sizes), sl_Plan__sizes⟩) (c_Plan__sizes : PySem.W.codeIn K cd_Plan__sizes "Plan.sizes" = true) (k_Plan__sizes : PySem.W.keepIn K (.ref f_Plan__sizes) = true)
    (a_Plan__forth : PySem.W.findIn K (.ref C_Plan) "forth" = some (some (.ref f_Plan__forth))) (i_Plan__forth : PySem.W.isFn K (.ref f_Plan__forth) = true)
    (l_Plan__forth : K.lookup f_Plan__forth = some ⟨oc_Plan__forth, od_Plan__forth, .func (PySem.W.fnOf "forth" "Plan.forth" (defArgs s_Plan__forth) (defBody s_Plan__forth) (defScope s_Plan__forth) .none kV_Plan__forth dc_Plan__forth pm_Plan__forth an_Plan__forth cd_Plan__forth ct_Plan__forth), sl_Plan__forth⟩) (c_Plan__forth : PySem.W.codeIn K cd_Plan__forth "Plan.forth" = true) (k_Plan__forth : PySem.W.keepIn K (.ref f_Plan__forth) = true)
    (a__law_goes : PySem.W.nsIn K mainGlobals "_law_goes" = some (some (.ref f__law_goes)))
    (l__law_goes : K.lookup f__law_goes = some ⟨oc__law_goes, od__law_goes, .func (PySem.W.fnOf "_law_goes" "_law_goes" (defArgs s__law_goes) (defBody s__law_goes) (defScope s__law_goes) .none kV__law_goes dc__law_goes pm__law_goes an__law_goes cd__law_goes ct__law_goes), sl__law_goes⟩) (c__law_goes : PySem.W.codeIn K cd__law_goes "_law_goes" = true) (k__law_goes : PySem.W.keepIn K (.ref f__law_goes) = true)
    (a_Plan__twin : PySem.W.findIn K (.ref C_Plan) "twin" = some (some (.ref f_Plan__twin))) (i_Plan__twin : PySem.W.isFn K (.ref f_Plan__twin) = true)
    (l_Plan__twin : K.lookup f_Plan__twin = some ⟨oc_Plan__twin, od_Plan__twin, .func (PySem.W.fnOf "twin" "Plan.twin" (defArgs s_Plan__twin) (defBody s_Plan__twin) (defScope s_Plan__twin) .none kV_Plan__twin dc_Plan__twin pm_Plan__twin an_Plan__twin cd_Plan__twin ct_Plan__twin), sl_Plan__twin⟩) (c_Plan__twin : PySem.W.codeIn K cd_Plan__twin "Plan.twin" = true) (k_Plan__twin : PySem.W.keepIn K (.ref f_Plan__twin) = true)
    (a__law_go_on : PySem.W.nsIn K mainGlobals "_law_go_on" = some (some (.ref f__law_go_on)))
    (l__law_go_on : K.lookup f__law_go_on = some ⟨oc__law_go_on, od__law_go_on, .func (PySem.W.fnOf "_law_go_on" "_law_go_on" (defArgs s__law_go_on) (defBody s__law_go_on) (defScope s__law_go_on) .none kV__law_go_on dc__law_go_on pm__law_go_on an__law_go_on cd__law_go_on ct__law_go_on), sl__law_go_on⟩) (c__law_go_on : PySem.W.codeIn K cd__law_go_on "_law_go_on" = true) (k__law_go_on : PySem.W.keepIn K (.ref f__law_go_on) = true)
    (a_law : PySem.W.nsIn K mainGlobals "law" = some (some (.ref f_law)))
    (l_law : K.lookup f_law = some ⟨oc_law, od_law, .func (PySem.W.fnOf "law" "law" (defArgs s_law) (defBody s_law) (defScope s_law) .none kV_law dc_law pm_law an_law cd_law ct_law), sl_law⟩) (c_law : PySem.W.codeIn K cd_law "law" = true) (k_law : PySem.W.keepIn K (.ref f_law) = true)
    (c_AROUND : PySem.W.nsIn K mainGlobals "AROUND" = some (some (.int (1) t_AROUND)))
    (c_LEFT : PySem.W.nsIn K mainGlobals "LEFT" = some (some (.int (2) t_LEFT)))
    (c_MARKS : PySem.W.nsIn K mainGlobals "MARKS" = some (some (.int (6) t_MARKS)))
    (c_MOST_BOXES : PySem.W.nsIn K mainGlobals "MOST_BOXES" = some (some (.int (12) t_MOST_BOXES)))
    (c_NAME : PySem.W.nsIn K mainGlobals "NAME" = some (some (.int (0) t_NAME)))
    (c_SCENE : PySem.W.nsIn K mainGlobals "SCENE" = some (some (.int (1) t_SCENE)))
    (c_WIDTH : PySem.W.nsIn K mainGlobals "WIDTH" = some (some (.int (4) t_WIDTH)))
    (c_WORD : PySem.W.nsIn K mainGlobals "WORD" = some (some (.int (0) t_WORD)))
    (z_any : PySem.W.nsIn K mainGlobals "any" = some none)
    (z_enumerate : PySem.W.nsIn K mainGlobals "enumerate" = some none)
    (z_len : PySem.W.nsIn K mainGlobals "len" = some none)
    (z_list : PySem.W.nsIn K mainGlobals "list" = some none)
    (z_range : PySem.W.nsIn K mainGlobals "range" = some none)
    (z_tuple : PySem.W.nsIn K mainGlobals "tuple" = some none)
    : ∃ fd : FuncData, (∀ (s : Shared) (v : Value), BindsTo s fd ⟨[v], []⟩ [("_law_script", v)]) ∧ ∀ base : Heap, K.In base → base.Ns mainGlobals mg → FnOk l.prog w K mg base CX0 20 fa fd ["_law_script"] (spL K) := by
  have e := hfa.symm.trans (PySem.W.mg_of X G a_law)
  cases e
  have F_Plan____init__ := fun_mk (st := s_Plan____init__) l_Plan____init__ c_Plan____init__ k_Plan____init__
  have F__law_cell := fun_mk (st := s__law_cell) l__law_cell c__law_cell k__law_cell
  have F__law_drawn := fun_mk (st := s__law_drawn) l__law_drawn c__law_drawn k__law_drawn
  have F__law_scene := fun_mk (st := s__law_scene) l__law_scene c__law_scene k__law_scene
  have F_Plan__now := fun_mk (st := s_Plan__now) l_Plan__now c_Plan__now k_Plan__now
  have F_box_of := fun_mk (st := s_box_of) l_box_of c_box_of k_box_of
  have F_children := fun_mk (st := s_children) l_children c_children k_children
  have F_below := fun_mk (st := s_below) l_below c_below k_below
  have F_Plan__step_to := fun_mk (st := s_Plan__step_to) l_Plan__step_to c_Plan__step_to k_Plan__step_to
  have F_cut := fun_mk (st := s_cut) l_cut c_cut k_cut
  have F_Plan__take := fun_mk (st := s_Plan__take) l_Plan__take c_Plan__take k_Plan__take
  have F_raised := fun_mk (st := s_raised) l_raised c_raised k_raised
  have F_Plan__lift := fun_mk (st := s_Plan__lift) l_Plan__lift c_Plan__lift k_Plan__lift
  have F_with_other := fun_mk (st := s_with_other) l_with_other c_with_other k_with_other
  have F_marked := fun_mk (st := s_marked) l_marked c_marked k_marked
  have F_Plan__mark := fun_mk (st := s_Plan__mark) l_Plan__mark c_Plan__mark k_Plan__mark
  have F_put_at := fun_mk (st := s_put_at) l_put_at c_put_at k_put_at
  have F_Plan__lay := fun_mk (st := s_Plan__lay) l_Plan__lay c_Plan__lay k_Plan__lay
  have F_has_box := fun_mk (st := s_has_box) l_has_box c_has_box k_has_box
  have F_with_box := fun_mk (st := s_with_box) l_with_box c_with_box k_with_box
  have F_Plan__put := fun_mk (st := s_Plan__put) l_Plan__put c_Plan__put k_Plan__put
  have F__law_step := fun_mk (st := s__law_step) l__law_step c__law_step k__law_step
  have F_Plan__back := fun_mk (st := s_Plan__back) l_Plan__back c_Plan__back k_Plan__back
  have F_Plan__sizes := fun_mk (st := s_Plan__sizes) l_Plan__sizes c_Plan__sizes k_Plan__sizes
  have F_Plan__forth := fun_mk (st := s_Plan__forth) l_Plan__forth c_Plan__forth k_Plan__forth
  have F__law_goes := fun_mk (st := s__law_goes) l__law_goes c__law_goes k__law_goes
  have F_Plan__twin := fun_mk (st := s_Plan__twin) l_Plan__twin c_Plan__twin k_Plan__twin
  have F__law_go_on := fun_mk (st := s__law_go_on) l__law_go_on c__law_go_on k__law_go_on
  have F_law := fun_mk (st := s_law) l_law c_law k_law
  have b_Plan____init__ := F_Plan____init__.binds (ps := ["self", "scene"]) fun _ _ _ _ _ _ us hl => match us, hl with | [_, _], _ => rfl
  have b__law_cell := F__law_cell.binds (ps := ["_law_script", "_law_k"]) fun _ _ _ _ _ _ us hl => match us, hl with | [_, _], _ => rfl
  have b__law_drawn := F__law_drawn.binds (ps := ["_law_script", "_law_k", "_law_many"]) fun _ _ _ _ _ _ us hl => match us, hl with | [_, _, _], _ => rfl
  have b__law_scene := F__law_scene.binds (ps := ["_law_script", "_law_at"]) fun _ _ _ _ _ _ us hl => match us, hl with | [_, _], _ => rfl
  have b_Plan__now := F_Plan__now.binds (ps := ["self"]) fun _ _ _ _ _ _ us hl => match us, hl with | [_], _ => rfl
  have b_box_of := F_box_of.binds (ps := ["scene", "name"]) fun _ _ _ _ _ _ us hl => match us, hl with | [_, _], _ => rfl
  have b_children := F_children.binds (ps := ["scene", "name"]) fun _ _ _ _ _ _ us hl => match us, hl with | [_, _], _ => rfl
  have b_below := F_below.binds (ps := ["scene", "name"]) fun _ _ _ _ _ _ us hl => match us, hl with | [_, _], _ => rfl
  have b_Plan__step_to := F_Plan__step_to.binds (ps := ["self", "word", "scene"]) fun _ _ _ _ _ _ us hl => match us, hl with | [_, _, _], _ => rfl
  have b_cut := F_cut.binds (ps := ["scene", "name"]) fun _ _ _ _ _ _ us hl => match us, hl with | [_, _], _ => rfl
  have b_Plan__take := F_Plan__take.binds (ps := ["self", "name"]) fun _ _ _ _ _ _ us hl => match us, hl with | [_, _], _ => rfl
  have b_raised := F_raised.binds (ps := ["scene", "name"]) fun _ _ _ _ _ _ us hl => match us, hl with | [_, _], _ => rfl
  have b_Plan__lift := F_Plan__lift.binds (ps := ["self", "name"]) fun _ _ _ _ _ _ us hl => match us, hl with | [_, _], _ => rfl
  have b_with_other := F_with_other.binds (ps := ["scene", "other"]) fun _ _ _ _ _ _ us hl => match us, hl with | [_, _], _ => rfl
  have b_marked := F_marked.binds (ps := ["scene", "name", "marks"]) fun _ _ _ _ _ _ us hl => match us, hl with | [_, _, _], _ => rfl
  have b_Plan__mark := F_Plan__mark.binds (ps := ["self", "name", "marks"]) fun _ _ _ _ _ _ us hl => match us, hl with | [_, _, _], _ => rfl
  have b_put_at := F_put_at.binds (ps := ["scene", "name", "left", "top"]) fun _ _ _ _ _ _ us hl => match us, hl with | [_, _, _, _], _ => rfl
  have b_Plan__lay := F_Plan__lay.binds (ps := ["self", "name", "left", "top"]) fun _ _ _ _ _ _ us hl => match us, hl with | [_, _, _, _], _ => rfl
  have b_has_box := F_has_box.binds (ps := ["scene", "name"]) fun _ _ _ _ _ _ us hl => match us, hl with | [_, _], _ => rfl
  have b_with_box := F_with_box.binds (ps := ["scene", "box"]) fun _ _ _ _ _ _ us hl => match us, hl with | [_, _], _ => rfl
  have b_Plan__put := F_Plan__put.binds (ps := ["self", "box"]) fun _ _ _ _ _ _ us hl => match us, hl with | [_, _], _ => rfl
  have b__law_step := F__law_step.binds (ps := ["_law_script", "_law_at", "_law_plan"]) fun _ _ _ _ _ _ us hl => match us, hl with | [_, _, _], _ => rfl
  have b_Plan__back := F_Plan__back.binds (ps := ["self"]) fun _ _ _ _ _ _ us hl => match us, hl with | [_], _ => rfl
  have b_Plan__sizes := F_Plan__sizes.binds (ps := ["self"]) fun _ _ _ _ _ _ us hl => match us, hl with | [_], _ => rfl
  have b_Plan__forth := F_Plan__forth.binds (ps := ["self"]) fun _ _ _ _ _ _ us hl => match us, hl with | [_], _ => rfl
  have b__law_goes := F__law_goes.binds (ps := ["_law_plan", "_law_rows"]) fun _ _ _ _ _ _ us hl => match us, hl with | [_, _], _ => rfl
  have b_Plan__twin := F_Plan__twin.binds (ps := ["self"]) fun _ _ _ _ _ _ us hl => match us, hl with | [_], _ => rfl
  have b__law_go_on := F__law_go_on.binds (ps := ["_law_script", "_law_plan"]) fun _ _ _ _ _ _ us hl => match us, hl with | [_, _], _ => rfl
  have b_law := F_law.binds (ps := ["_law_script"]) fun _ _ _ _ _ _ us hl => match us, hl with | [_], _ => rfl
  have tx : Tx K mg ⟨C_Plan, f_Plan____init__, _, f__law_cell, _, f__law_drawn, _, f__law_scene, _, f_Plan__now, _, f_box_of, _, f_children, _, f_below, _, f_Plan__step_to, _, f_cut, _, f_Plan__take, _, f_raised, _, f_Plan__lift, _, f_with_other, _, f_marked, _, f_Plan__mark, _, f_put_at, _, f_Plan__lay, _, f_has_box, _, f_with_box, _, f_Plan__put, _, f__law_step, _, f_Plan__back, _, f_Plan__sizes, _, f_Plan__forth, _, f__law_goes, _, f_Plan__twin, _, f__law_go_on, _, _, _, t_AROUND, t_LEFT, t_MARKS, t_MOST_BOXES, t_NAME, t_SCENE, t_WIDTH, t_WORD⟩ := ⟨⟨pg_Plan, hd_Plan, po_Plan, sa_Plan⟩, ⟨mk_Plan, a_Plan____init__, i_Plan____init__, kc_Plan⟩, PySem.W.mg_of X G aC_Plan, na_Plan_done, na_Plan_scene, na_Plan_undone, F_Plan____init__, b_Plan____init__, F__law_cell, PySem.W.mg_of X G a__law_cell, b__law_cell, F__law_drawn, PySem.W.mg_of X G a__law_drawn, b__law_drawn, F__law_scene, PySem.W.mg_of X G a__law_scene, b__law_scene, F_Plan__now, ⟨a_Plan__now, i_Plan__now, k_Plan__now⟩, b_Plan__now, F_box_of, PySem.W.mg_of X G a_box_of, b_box_of, F_children, PySem.W.mg_of X G a_children, b_children, F_below, PySem.W.mg_of X G a_below, b_below, F_Plan__step_to, ⟨a_Plan__step_to, i_Plan__step_to, k_Plan__step_to⟩, b_Plan__step_to, F_cut, PySem.W.mg_of X G a_cut, b_cut, F_Plan__take, ⟨a_Plan__take, i_Plan__take, k_Plan__take⟩, b_Plan__take, F_raised, PySem.W.mg_of X G a_raised, b_raised, F_Plan__lift, ⟨a_Plan__lift, i_Plan__lift, k_Plan__lift⟩, b_Plan__lift, F_with_other, PySem.W.mg_of X G a_with_other, b_with_other, F_marked, PySem.W.mg_of X G a_marked, b_marked, F_Plan__mark, ⟨a_Plan__mark, i_Plan__mark, k_Plan__mark⟩, b_Plan__mark, F_put_at, PySem.W.mg_of X G a_put_at, b_put_at, F_Plan__lay, ⟨a_Plan__lay, i_Plan__lay, k_Plan__lay⟩, b_Plan__lay, F_has_box, PySem.W.mg_of X G a_has_box, b_has_box, F_with_box, PySem.W.mg_of X G a_with_box, b_with_box, F_Plan__put, ⟨a_Plan__put, i_Plan__put, k_Plan__put⟩, b_Plan__put, F__law_step, PySem.W.mg_of X G a__law_step, b__law_step, F_Plan__back, ⟨a_Plan__back, i_Plan__back, k_Plan__back⟩, b_Plan__back, F_Plan__sizes, ⟨a_Plan__sizes, i_Plan__sizes, k_Plan__sizes⟩, b_Plan__sizes, F_Plan__forth, ⟨a_Plan__forth, i_Plan__forth, k_Plan__forth⟩, b_Plan__forth, F__law_goes, PySem.W.mg_of X G a__law_goes, b__law_goes, F_Plan__twin, ⟨a_Plan__twin, i_Plan__twin, k_Plan__twin⟩, b_Plan__twin, F__law_go_on, PySem.W.mg_of X G a__law_go_on, b__law_go_on, F_law, PySem.W.mg_of X G a_law, b_law, PySem.W.mg_of X G c_AROUND, PySem.W.mg_of X G c_LEFT, PySem.W.mg_of X G c_MARKS, PySem.W.mg_of X G c_MOST_BOXES, PySem.W.mg_of X G c_NAME, PySem.W.mg_of X G c_SCENE, PySem.W.mg_of X G c_WIDTH, PySem.W.mg_of X G c_WORD, PySem.W.mg_none_of X G z_any, PySem.W.mg_none_of X G z_enumerate, PySem.W.mg_none_of X G z_len, PySem.W.mg_none_of X G z_list, PySem.W.mg_none_of X G z_range, PySem.W.mg_none_of X G z_tuple⟩
  exact ⟨_, fun s v => .of_eq rfl, fun base _ _ => (G_law tx).imp (spM_law main)⟩
theorem walk {l : PySem.W.OpenLaw} {q : Program} {loose : List Str} {XP : (Str → Option Value) → Heap → Prop} {YP : World → Heap → Prop} {d : DefRec} {K : Params → PySem.W.Frag} (hn : l.most = some 63) (hdf : d.params.defaults = [])
    (hY : ∀ (w : World) (h : Heap), YP w h → (K w.params).In h)
    (F : ∀ (w : World) (mg : Str → Option Value) (fa : Addr) (h : Heap), (K w.params).In h → h.Ns mainGlobals mg → mg d.name = some (.ref fa) →
      ∃ fd : FuncData, (∀ (s : Shared) (u : Value), BindsTo s fd ⟨[u], []⟩ [("_law_script", u)]) ∧ ∀ base : Heap, (K w.params).In base → base.Ns mainGlobals mg → FnOk l.prog w (K w.params) mg base CX0 20 fa fd ["_law_script"] (spL (K w.params))) :
    PySem.W.WalkO q loose XP YP l.row.toRowW d [] (fun f vs => PySem.call f vs) :=
  L2.walk_of (n := 63) (k := 20) (x := "_law_script") (CX := fun _ => CX0) (sp := fun w => spL (K w.params)) hn (by decide) hdf ⟨rfl, by decide, by decide⟩ hY F (fun _ _ a ns hl _ hS => ⟨a, ns, rfl, hS, hl, fun _ => rfl⟩) fun _ _ _ _ _ z => z
end K54
open PySem PySem.W PyProof.Rows
noncomputable def K54.view : Program := { PySem.Challenge.pw_touchtree_k54_whole_back_and_twins with main := { PySem.Challenge.pw_touchtree_k54_whole_back_and_twins.main with body := [27, 23, 6, 0].foldl (fun l i => l.eraseIdx i) PySem.Challenge.pw_touchtree_k54_whole_back_and_twins.main.body } }
set_option hygiene false in
local macro_rules
  | `(tactic| o_head $H) => `(tactic| (
      refine holds_open (q := K54.view) (loose := []) (Xt := fun s => xlAt K54.view [] s && recOk (RowW.records (OpenRow.toRowW (OpenLaw.row PySem.Challenge.rw_touchtree_k54_whole_back_and_twins))) s) (XP := XL K54.view []) (Yf := Hook.obs $H) (Ya := Hook.val $H) (YP := Hook.says $H) (N := 4580) ?hl (Hook.of $H) (Hook.keeps $H) (fun s e => xl_of s (Bool.and_eq_true_iff.mp e).1) XL.keeps (by rfl) (by rfl) (by rfl) (fun s e => recFacts_of (Bool.and_eq_true_iff.mp e).2) (by rfl) (by assumption) (by decide +kernel) ⟨rfl, rfl, rfl, rfl, rfl, by decide +kernel⟩ ?hw ?hc
      (case hl => (intro w; unfold openEnds fencedOpening topFrom; rewrite [PySem.W.Fast.te10274390034422433532, PySem.W.Fast.te14082659384304107361, PySem.W.Fast.te14364793385576792824, PySem.W.Fast.te14289696077712309145, PySem.W.Fast.te1435165496053646825, PySem.W.Fast.te4187177175401517315, PySem.W.Fast.te4786001380096046002]; kernel_rfl))))
set_option maxRecDepth 100000 in
set_option maxHeartbeats 0 in
theorem PySem.Challenge.cw_touchtree_k54_whole_back_and_twins_holds : PySem.Challenge.rw_touchtree_k54_whole_back_and_twins.Holds := by
  w_on; o_law; k_head; (case hw => w_witness2)
  k_fill
  refine K54.walk (l := PySem.Challenge.rw_touchtree_k54_whole_back_and_twins) rfl rfl (fun w h Y => PySem.W.kIn_of Y) ?F
  case F =>
    intro w mg fa h KX G hmg
    refine' K54.all_mk K54.main KX G hmg ?aC_Plan ?pg_Plan ?hd_Plan ?po_Plan ?sa_Plan ?mk_Plan ?kc_Plan ?na_Plan_done ?na_Plan_scene ?na_Plan_undone ?a_Plan____init__ ?i_Plan____init__ ?l_Plan____init__ ?c_Plan____init__ ?k_Plan____init__ ?a__law_cell ?l__law_cell ?c__law_cell ?k__law_cell ?a__law_drawn ?l__law_drawn ?c__law_drawn ?k__law_drawn ?a__law_scene ?l__law_scene ?c__law_scene ?k__law_scene ?a_Plan__now ?i_Plan__now ?l_Plan__now ?c_Plan__now ?k_Plan__now ?a_box_of ?l_box_of ?c_box_of ?k_box_of ?a_children ?l_children ?c_children ?k_children ?a_below ?l_below ?c_below ?k_below ?a_Plan__step_to ?i_Plan__step_to ?l_Plan__step_to ?c_Plan__step_to ?k_Plan__step_to ?a_cut ?l_cut ?c_cut ?k_cut ?a_Plan__take ?i_Plan__take ?l_Plan__take ?c_Plan__take ?k_Plan__take ?a_raised ?l_raised ?c_raised ?k_raised ?a_Plan__lift ?i_Plan__lift ?l_Plan__lift ?c_Plan__lift ?k_Plan__lift ?a_with_other ?l_with_other ?c_with_other ?k_with_other ?a_marked ?l_marked ?c_marked ?k_marked ?a_Plan__mark ?i_Plan__mark ?l_Plan__mark ?c_Plan__mark ?k_Plan__mark ?a_put_at ?l_put_at ?c_put_at ?k_put_at ?a_Plan__lay ?i_Plan__lay ?l_Plan__lay ?c_Plan__lay ?k_Plan__lay ?a_has_box ?l_has_box ?c_has_box ?k_has_box ?a_with_box ?l_with_box ?c_with_box ?k_with_box ?a_Plan__put ?i_Plan__put ?l_Plan__put ?c_Plan__put ?k_Plan__put ?a__law_step ?l__law_step ?c__law_step ?k__law_step ?a_Plan__back ?i_Plan__back ?l_Plan__back ?c_Plan__back ?k_Plan__back ?a_Plan__sizes ?i_Plan__sizes ?l_Plan__sizes ?c_Plan__sizes ?k_Plan__sizes ?a_Plan__forth ?i_Plan__forth ?l_Plan__forth ?c_Plan__forth ?k_Plan__forth ?a__law_goes ?l__law_goes ?c__law_goes ?k__law_goes ?a_Plan__twin ?i_Plan__twin ?l_Plan__twin ?c_Plan__twin ?k_Plan__twin ?a__law_go_on ?l__law_go_on ?c__law_go_on ?k__law_go_on ?a_law ?l_law ?c_law ?k_law ?c_AROUND ?c_LEFT ?c_MARKS ?c_MOST_BOXES ?c_NAME ?c_SCENE ?c_WIDTH ?c_WORD ?z_any ?z_enumerate ?z_len ?z_list ?z_range ?z_tuple
    (case aC_Plan => k_is)
    (case pg_Plan => k_is)
    (case hd_Plan => k_is)
    (case po_Plan => k_is)
    (case sa_Plan => k_is)
    (case mk_Plan => k_is)
    (case kc_Plan => k_is)
    (case na_Plan_done => k_is)
    (case na_Plan_scene => k_is)
    (case na_Plan_undone => k_is)
    (case a_Plan____init__ => k_is)
    (case i_Plan____init__ => k_is)
    (case l_Plan____init__ => k_is)
    (case c_Plan____init__ => k_is)
    (case k_Plan____init__ => k_is)
    (case a__law_cell => k_is)
    (case l__law_cell => k_is)
    (case c__law_cell => k_is)
    (case k__law_cell => k_is)
    (case a__law_drawn => k_is)
    (case l__law_drawn => k_is)
    (case c__law_drawn => k_is)
    (case k__law_drawn => k_is)
    (case a__law_scene => k_is)
    (case l__law_scene => k_is)
    (case c__law_scene => k_is)
    (case k__law_scene => k_is)
    (case a_Plan__now => k_is)
    (case i_Plan__now => k_is)
    (case l_Plan__now => k_is)
    (case c_Plan__now => k_is)
    (case k_Plan__now => k_is)
    (case a_box_of => k_is)
    (case l_box_of => k_is)
    (case c_box_of => k_is)
    (case k_box_of => k_is)
    (case a_children => k_is)
    (case l_children => k_is)
    (case c_children => k_is)
    (case k_children => k_is)
    (case a_below => k_is)
    (case l_below => k_is)
    (case c_below => k_is)
    (case k_below => k_is)
    (case a_Plan__step_to => k_is)
    (case i_Plan__step_to => k_is)
    (case l_Plan__step_to => k_is)
    (case c_Plan__step_to => k_is)
    (case k_Plan__step_to => k_is)
    (case a_cut => k_is)
    (case l_cut => k_is)
    (case c_cut => k_is)
    (case k_cut => k_is)
    (case a_Plan__take => k_is)
    (case i_Plan__take => k_is)
    (case l_Plan__take => k_is)
    (case c_Plan__take => k_is)
    (case k_Plan__take => k_is)
    (case a_raised => k_is)
    (case l_raised => k_is)
    (case c_raised => k_is)
    (case k_raised => k_is)
    (case a_Plan__lift => k_is)
    (case i_Plan__lift => k_is)
    (case l_Plan__lift => k_is)
    (case c_Plan__lift => k_is)
    (case k_Plan__lift => k_is)
    (case a_with_other => k_is)
    (case l_with_other => k_is)
    (case c_with_other => k_is)
    (case k_with_other => k_is)
    (case a_marked => k_is)
    (case l_marked => k_is)
    (case c_marked => k_is)
    (case k_marked => k_is)
    (case a_Plan__mark => k_is)
    (case i_Plan__mark => k_is)
    (case l_Plan__mark => k_is)
    (case c_Plan__mark => k_is)
    (case k_Plan__mark => k_is)
    (case a_put_at => k_is)
    (case l_put_at => k_is)
    (case c_put_at => k_is)
    (case k_put_at => k_is)
    (case a_Plan__lay => k_is)
    (case i_Plan__lay => k_is)
    (case l_Plan__lay => k_is)
    (case c_Plan__lay => k_is)
    (case k_Plan__lay => k_is)
    (case a_has_box => k_is)
    (case l_has_box => k_is)
    (case c_has_box => k_is)
    (case k_has_box => k_is)
    (case a_with_box => k_is)
    (case l_with_box => k_is)
    (case c_with_box => k_is)
    (case k_with_box => k_is)
    (case a_Plan__put => k_is)
    (case i_Plan__put => k_is)
    (case l_Plan__put => k_is)
    (case c_Plan__put => k_is)
    (case k_Plan__put => k_is)
    (case a__law_step => k_is)
    (case l__law_step => k_is)
    (case c__law_step => k_is)
    (case k__law_step => k_is)
    (case a_Plan__back => k_is)
    (case i_Plan__back => k_is)
    (case l_Plan__back => k_is)
    (case c_Plan__back => k_is)
    (case k_Plan__back => k_is)
    (case a_Plan__sizes => k_is)
    (case i_Plan__sizes => k_is)
    (case l_Plan__sizes => k_is)
    (case c_Plan__sizes => k_is)
    (case k_Plan__sizes => k_is)
    (case a_Plan__forth => k_is)
    (case i_Plan__forth => k_is)
    (case l_Plan__forth => k_is)
    (case c_Plan__forth => k_is)
    (case k_Plan__forth => k_is)
    (case a__law_goes => k_is)
    (case l__law_goes => k_is)
    (case c__law_goes => k_is)
    (case k__law_goes => k_is)
    (case a_Plan__twin => k_is)
    (case i_Plan__twin => k_is)
    (case l_Plan__twin => k_is)
    (case c_Plan__twin => k_is)
    (case k_Plan__twin => k_is)
    (case a__law_go_on => k_is)
    (case l__law_go_on => k_is)
    (case c__law_go_on => k_is)
    (case k__law_go_on => k_is)
    (case a_law => k_is)
    (case l_law => k_is)
    (case c_law => k_is)
    (case k_law => k_is)
    (case c_AROUND => k_is)
    (case c_LEFT => k_is)
    (case c_MARKS => k_is)
    (case c_MOST_BOXES => k_is)
    (case c_NAME => k_is)
    (case c_SCENE => k_is)
    (case c_WIDTH => k_is)
    (case c_WORD => k_is)
    (case z_any => k_is)
    (case z_enumerate => k_is)
    (case z_len => k_is)
    (case z_list => k_is)
    (case z_range => k_is)
    (case z_tuple => k_is)
#print axioms PySem.Challenge.cw_touchtree_k54_whole_back_and_twins_holds
